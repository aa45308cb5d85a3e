/- The contracts of record: PutQ and Put. -/
import Derived.Test.YtlphbeaaeeohjaaDoorRqa
namespace Go.Proofs.YtlphbeaaeeohjaaDoor
open Go.RowKit
set_option linter.unusedVariables false

/-- What PutQ, and Put, make of a pack, whatever is put. -/
def pqS (S : List UInt8) (L : Kn) (r : Rc) : List UInt8 × Kn := if mayB r.n = true then putQ S L r else (S, L)
def prS (S : List UInt8) (L : Kn) (r : Rc) : List UInt8 × Kn := if mayR r = true then putR S L r else (S, L)
def prE (r : Rc) : Int := if mayR r = true then 0 else 1

theorem St.more {B b : Nat} {S : List UInt8} {L : Kn} {w w' : World} (h : St B b S L w) (hb : Below w.heap.size w w') (hB : B ≤ w.heap.size) : St B b S L w' ∧ Below B w w' ∧ Kp w w' := ⟨h.below hb, hb.mono hB, Kp.below hb⟩

set_option maxRecDepth 100000 in
set_option maxHeartbeats 1000000 in
theorem putq_any (B b : Nat) (S : List UInt8) (L : Kn) (r : Rc) (hn : r.n.size ≤ 1048576) (hr : r.Ok) (hS : S.length ≤ 1073741824) (w : World) (h : St B b S L w) (hB : B ≤ w.heap.size) :
    Calls Tryd.prog 22 #[.pointer (some ⟨b, 0, none⟩), .agg #[.string r.n, .int .u16 (r.k : Nat), .int .u16 (r.c : Nat)]] w fun e w' => e = .returned (.int .i64 (stE r.n)) ∧ St B b (pqS S L r).1 (pqS S L r).2 w' ∧ Below B w w' ∧ Kp w w' := by
  have hnx : ((some ⟨b, 0, none⟩ : Option Addr) == none) = false := rfl
  have hbox := World.alloc_heap_new w (Obj.cells #[Value.string r.n, .int .u16 (r.k : Nat), .int .u16 (r.c : Nat)] 29)
  have hal := (Below.refl w.heap.size w).alloc (Nat.le_refl _) (Obj.cells #[Value.string r.n, .int .u16 (r.k : Nat), .int .u16 (r.c : Nat)] 29)
  cases hm : mayB r.n with
  | false =>
    have e1 : stE r.n = 1 := by simp [stE, hm]
    have e2 : pqS S L r = (S, L) := by simp [pqS, hm]
    rw [e1, e2]
    have HM := Lib.hid (fun w' => mayq_any r.n r.k r.c (by omega) w')
    rw [hm] at HM
    have HS := Lib.hid h
    have HA := Lib.hid hal
    clear h hbox hal
    go_enter Tryd.func22, Tryd.ntmps22
    go_wp2_with fail
    refine (HM.out _).mono ?_
    rintro e w1 ⟨rfl, hb1⟩
    go_wp2_with fail
    go_ret
    exact ⟨rfl, HS.out.more (HA.out.trans (hb1.mono HA.out.size)) hB⟩
  | true =>
    have e1 : stE r.n = 0 := by simp [stE, hm]
    have e2 : pqS S L r = putQ S L r := by simp [pqS, hm]
    have e3 : stp S L r.n = put S L (labs r.n) := by simp [stp, hm]
    rw [e1, e2]
    have hsz := (may_name hm).size
    obtain ⟨⟨X, hX1, hX2, _, hX4⟩, _⟩ := (stepped h.good r.n).1
    have HM := Lib.hid (fun w' => mayq_any r.n r.k r.c (by omega) w')
    rw [hm] at HM
    have HS := Lib.hid h
    have HA := Lib.hid (And.intro hal hbox)
    have HP := Lib.hid e3
    have HX := Lib.hid (And.intro hX1 hX4)
    clear h hal hbox e3 e1 e2 hX1 hX2 hX4
    go_enter Tryd.func22, Tryd.ntmps22
    go_wp2_with fail
    refine (HM.out _).mono ?_
    rintro e w1 ⟨rfl, hb1⟩
    have HW1 := Lib.hid (HS.out.more (HA.out.1.trans (hb1.mono HA.out.1.size)) hB)
    have HZ1 := Lib.hid (Nat.le_trans hB (Nat.le_trans HA.out.1.size hb1.size))
    have HC1 := Lib.hid ((hb1.block w.heap.size (by simp)).trans HA.out.2)
    have c10 : w1.cell? ⟨w.heap.size, 0, none⟩ = some (.string r.n) := blk_cell HC1.out 0
    clear hb1 HA HM HS
    go_wp2_with fail
    refine (name_step B b S L r.n _ HW1.out.1 HZ1.out (by omega) (by omega)).mono ?_
    rintro e w2 ⟨rfl, hs2, hb2, hk2⟩
    have HC2 := Lib.hid (hk2 _ _ _ _ (by decide) (by decide) HC1.out)
    have HW2 := Lib.hid (And.intro hs2 (And.intro (HW1.out.2.1.trans hb2) (HW1.out.2.2.trans hk2)))
    have HZ2 := Lib.hid (Nat.le_trans HZ1.out hb2.size)
    have c21 : w2.cell? ⟨w.heap.size, 1, none⟩ = some (.int .u16 (r.k : Nat)) := blk_cell HC2.out 1
    clear hs2 hb2 hk2 c10 HC1 HW1 HZ1
    go_wp2_with fail
    refine (Oc.Put16b (r.k : Nat) _ (by omega) (by have := hr.k; omega)).mono ?_
    rintro e w3 ⟨rfl, hb3⟩
    have HC3 := Lib.hid ((hb3.block w.heap.size (heap_lt HC2.out)).trans HC2.out)
    have HW3 := Lib.hid (And.intro (HW2.out.1.below hb3) (And.intro (HW2.out.2.1.trans (hb3.mono HZ2.out)) (HW2.out.2.2.trans (Kp.below hb3))))
    have HZ3 := Lib.hid (Nat.le_trans HZ2.out hb3.size)
    clear hb3 c21 HC2 HW2 HZ2
    go_wp2_with fail
    refine (add_step B b _ _ _ _ HW3.out.1 (by rw [Oc.bstr_size, HX.out.1, List.length_append]; have := HX.out.2; omega) HZ3.out).mono ?_
    rintro e w4 ⟨rfl, hs4, hb4, hk4⟩
    rw [bstr16 hr.k] at hs4
    have HC4 := Lib.hid (hk4 _ _ _ _ (by decide) (by decide) HC3.out)
    have HW4 := Lib.hid (And.intro hs4 (And.intro (HW3.out.2.1.trans hb4) (HW3.out.2.2.trans hk4)))
    have HZ4 := Lib.hid (Nat.le_trans HZ3.out hb4.size)
    have c42 : w4.cell? ⟨w.heap.size, 2, none⟩ = some (.int .u16 (r.c : Nat)) := blk_cell HC4.out 2
    clear hs4 hb4 hk4 HC3 HW3 HZ3
    go_wp2_with fail
    refine (Oc.Put16b (r.c : Nat) _ (by omega) (by have := hr.c; omega)).mono ?_
    rintro e w5 ⟨rfl, hb5⟩
    have HW5 := Lib.hid (And.intro (HW4.out.1.below hb5) (And.intro (HW4.out.2.1.trans (hb5.mono HZ4.out)) (HW4.out.2.2.trans (Kp.below hb5))))
    have HZ5 := Lib.hid (Nat.le_trans HZ4.out hb5.size)
    clear hb5 c42 HC4 HW4 HZ4
    go_wp2_with fail
    refine (add_step B b _ _ _ _ HW5.out.1 (by rw [Oc.bstr_size, List.length_append, b16_len, HX.out.1, List.length_append]; have := HX.out.2; omega) HZ5.out).mono ?_
    rintro e w6 ⟨rfl, hs6, hb6, hk6⟩
    rw [bstr16 hr.c] at hs6
    have HW6 := Lib.hid (And.intro hs6 (And.intro (HW5.out.2.1.trans hb6) (HW5.out.2.2.trans hk6)))
    clear hs6 hb6 hk6 HW5 HZ5
    go_wp2_with fail
    go_ret
    have h6 := HW6.out
    rw [HP.out, List.append_assoc] at h6
    exact ⟨rfl, h6⟩

theorem clo_putR {S : List UInt8} {L : Kn} (hG : Good S L) {r : Rc} (hm : mayR r = true) : clo (dtR S L r).1 (hdR S L r).length = (putR S L r).1 := by
  obtain ⟨W, L', w1, w2, w3, w4, w5, w6⟩ := putR_form hG hm
  rw [w3, w4]
  simp only
  unfold clo
  have e1 : (hdR S L r ++ [0, 0] ++ W).length - ((hdR S L r).length + 2) = W.length := by simp; omega
  rw [e1, Nat.mod_eq_of_lt (by omega), bstr16 (by omega), List.append_assoc (hdR S L r), List.take_left' rfl, ← List.append_assoc (hdR S L r) [0, 0], List.drop_left' (by simp), List.append_assoc]

set_option maxRecDepth 100000 in
set_option maxHeartbeats 1000000 in
theorem putr_any (B b : Nat) (S : List UInt8) (L : Kn) (r : Rc) (hn : r.n.size ≤ 1048576) (hd : r.d.size ≤ 1048576) (hr : r.Ok) (hS : S.length ≤ 536870912) (w : World) (hL : Lay w) (h : St B b S L w) (hB : B ≤ w.heap.size) (h0B : 0 < B) :
    Calls Tryd.prog 24 #[.pointer (some ⟨b, 0, none⟩), .agg #[.string r.n, .int .u16 (r.k : Nat), .int .u16 (r.c : Nat), .int .u32 (r.t : Nat), .string r.d]] w fun e w' => e = .returned (.int .i64 (prE r)) ∧ St B b (prS S L r).1 (prS S L r).2 w' ∧ Below B w w' ∧ Kp w w' := by
  have hbox := World.alloc_heap_new w (Obj.cells #[Value.string r.n, .int .u16 (r.k : Nat), .int .u16 (r.c : Nat), .int .u32 (r.t : Nat), .string r.d] 25)
  have hal := (Below.refl w.heap.size w).alloc (Nat.le_refl _) (Obj.cells #[Value.string r.n, .int .u16 (r.k : Nat), .int .u16 (r.c : Nat), .int .u32 (r.t : Nat), .string r.d] 25)
  have HM := Lib.hid (fun w' hL' => mayr_any r (by omega) (by omega) hr w' hL')
  have HS := Lib.hid h
  have HL := Lib.hid hL
  have H0 := Lib.hid h0B
  clear h hL h0B
  have HL1 := Lib.hid (HL.out.below (Nat.lt_of_lt_of_le H0.out hB) hal)
  cases hm : mayR r with
  | false =>
    have e1 : prE r = 1 := by simp [prE, hm]
    have e2 : prS S L r = (S, L) := by simp [prS, hm]
    rw [e1, e2]
    rw [hm] at HM
    have HA := Lib.hid hal
    clear hbox hal
    go_enter Tryd.func24, Tryd.ntmps24
    go_wp2_with fail
    refine (HM.out _ HL1.out).mono ?_
    rintro e w1 ⟨rfl, hb1⟩
    go_wp2_with fail
    go_ret
    exact ⟨rfl, HS.out.more (HA.out.trans (hb1.mono HA.out.size)) hB⟩
  | true =>
    have e1 : prE r = 0 := by simp [prE, hm]
    have e2 : prS S L r = putR S L r := by simp [prS, hm]
    have hmB : mayB r.n = true := by unfold mayR at hm; rw [Bool.and_eq_true] at hm; exact hm.1
    have hmD : mayD r.k r.d = true := by unfold mayR at hm; rw [Bool.and_eq_true] at hm; exact hm.2
    have e3 : pqS S L r = putQ S L r := by simp [pqS, hmB]
    have e4 : ptS (hdR S L r ++ [0, 0]) (putQ S L r).2 r.k r.d = dtR S L r := by rw [put_eq, if_pos hmD]; rfl
    have e5 : stE r.n = 0 := by simp [stE, hmB]
    obtain ⟨⟨X, hX1, hX2⟩, _⟩ := putQ_good HS.out.good hmB
    obtain ⟨W, L', w1, w2, w3, w4, w5, w6⟩ := putR_form HS.out.good hm
    have hq : (putQ S L r).1.length ≤ 536871200 := by rw [hX1, List.length_append]; omega
    have hh : (hdR S L r).length = (putQ S L r).1.length + 4 := by unfold hdR; rw [List.length_append, b32_len]
    have hdl : (dtR S L r).1.length = (hdR S L r).length + 2 + W.length := by rw [w3]; simp; omega
    have hclo := clo_putR HS.out.good hm
    have hL' : (dtR S L r).2 = (putR S L r).2 := rfl
    rw [e1, e2]
    rw [hm] at HM
    have HE := Lib.hid (And.intro e3 (And.intro e4 e5))
    have HF := Lib.hid (And.intro hclo (And.intro hL' w6))
    have HQ := Lib.hid (And.intro hq (And.intro hh (And.intro hdl (Nat.le_trans w1 w2))))
    have HA := Lib.hid (And.intro hal hbox)
    clear hal hbox e1 e2 e3 e4 e5 hX1 hX2 w1 w2 w3 w4 w5 w6 hq hh hdl hclo hL'
    go_enter Tryd.func24, Tryd.ntmps24
    go_wp2_with fail
    refine (HM.out _ HL1.out).mono ?_
    rintro e w1 ⟨rfl, hb1⟩
    have HW1 := Lib.hid (HS.out.more (HA.out.1.trans (hb1.mono HA.out.1.size)) hB)
    have HZ1 := Lib.hid (Nat.le_trans hB (Nat.le_trans HA.out.1.size hb1.size))
    have HC1 := Lib.hid ((hb1.block w.heap.size (by simp)).trans HA.out.2)
    clear hb1 HA HM HS HL1
    go_wp2_with (refine wpList_load_row rfl 25 _ rfl w.heap.size rfl 25 _ _ _ HC1.out Tryd.underlying25 rfl infoR ?_)
    refine (key_any _ _ _ _ _ _).mono ?_
    rintro e w2 ⟨rfl, hb2⟩
    have HC2 := Lib.hid ((hb2.block w.heap.size (heap_lt HC1.out)).trans HC1.out)
    have HW2 := Lib.hid (And.intro (HW1.out.1.below hb2) (And.intro (HW1.out.2.1.trans (hb2.mono HZ1.out)) (HW1.out.2.2.trans (Kp.below hb2))))
    have HZ2 := Lib.hid (Nat.le_trans HZ1.out hb2.size)
    clear hb2 HC1 HW1 HZ1
    go_wp2_with fail
    refine (putq_any B b S L r hn hr (by omega) _ HW2.out.1 HZ2.out).mono ?_
    rintro e w3 ⟨rfl, hs3, hb3, hk3⟩
    rw [HE.out.1] at hs3
    rw [HE.out.2.2]
    have HC3 := Lib.hid (hk3 _ _ _ _ (by decide) (by decide) HC2.out)
    have HW3 := Lib.hid (And.intro hs3 (And.intro (HW2.out.2.1.trans hb3) (HW2.out.2.2.trans hk3)))
    have HZ3 := Lib.hid (Nat.le_trans HZ2.out hb3.size)
    have c33 : w3.cell? ⟨w.heap.size, 3, none⟩ = some (.int .u32 (r.t : Nat)) := blk_cell HC3.out 3
    clear hs3 hb3 hk3 HC2 HW2 HZ2
    go_wp2_with fail
    refine (Oc.Put32b (r.t : Nat) _ (by omega) (by have := hr.t; omega)).mono ?_
    rintro e w4 ⟨rfl, hb4⟩
    have HC4 := Lib.hid ((hb4.block w.heap.size (heap_lt HC3.out)).trans HC3.out)
    have HW4 := Lib.hid (And.intro (HW3.out.1.below hb4) (And.intro (HW3.out.2.1.trans (hb4.mono HZ3.out)) (HW3.out.2.2.trans (Kp.below hb4))))
    have HZ4 := Lib.hid (Nat.le_trans HZ3.out hb4.size)
    clear hb4 c33 HC3 HW3 HZ3
    go_wp2_with fail
    refine (add_step B b _ _ _ _ HW4.out.1 (by rw [Oc.bstr_size]; have := HQ.out.1; omega) HZ4.out).mono ?_
    rintro e w5 ⟨rfl, hs5, hb5, hk5⟩
    rw [bstr32 hr.t] at hs5
    have hs5' : St B b (hdR S L r) (putQ S L r).2 w5 := hs5
    have HC5 := Lib.hid (hk5 _ _ _ _ (by decide) (by decide) HC4.out)
    have HW5 := Lib.hid (And.intro hs5' (And.intro (HW4.out.2.1.trans hb5) (HW4.out.2.2.trans hk5)))
    have HZ5 := Lib.hid (Nat.le_trans HZ4.out hb5.size)
    clear hs5 hs5' hb5 hk5 HC4 HW4 HZ4
    go_wp2_with fail
    refine (mark_any B b _ _ _ HW5.out.1 HZ5.out (by have := HQ.out; omega)).mono ?_
    rintro e w6 ⟨rfl, hs6, hb6, hk6⟩
    have HC6 := Lib.hid (hk6 _ _ _ _ (by decide) (by decide) HC5.out)
    have HW6 := Lib.hid (And.intro hs6 (And.intro (HW5.out.2.1.trans hb6) (HW5.out.2.2.trans hk6)))
    have HZ6 := Lib.hid (Nat.le_trans HZ5.out hb6.size)
    have HL6 := Lib.hid (HL.out.below H0.out HW6.out.2.1)
    have c61 : w6.cell? ⟨w.heap.size, 1, none⟩ = some (.int .u16 (r.k : Nat)) := blk_cell HC6.out 1
    have c64 : w6.cell? ⟨w.heap.size, 4, none⟩ = some (.string r.d) := blk_cell HC6.out 4
    rw [show (((hdR S L r).length + 2 : Nat) : Int) = ((hdR S L r).length : Int) + 2 by omega]
    clear hs6 hb6 hk6 HC5 HW5 HZ5
    go_wp2_with fail
    refine (rput_any B b _ _ r.k r.d hd (by rw [List.length_append]; have := HQ.out; simp only [List.length_cons, List.length_nil]; omega) hr.k _ HL6.out HW6.out.1 HZ6.out).mono ?_
    rintro e w7 ⟨rfl, hs7, hb7, hk7⟩
    rw [HE.out.2.1] at hs7
    have HW7 := Lib.hid (And.intro hs7 (And.intro (HW6.out.2.1.trans hb7) (HW6.out.2.2.trans hk7)))
    have HZ7 := Lib.hid (Nat.le_trans HZ6.out hb7.size)
    clear hs7 hb7 hk7 HC6 HW6 HZ6 c61 c64 HL6
    go_wp2_with fail
    refine (close_yes B b _ _ (hdR S L r).length _ HW7.out.1.is HZ7.out (by have := HQ.out; omega) (by have := HQ.out; omega)).mono ?_
    rintro e w8 ⟨rfl, hs8, hb8, hk8⟩
    rw [HF.out.1, HF.out.2.1] at hs8
    have hkn := HW7.out.1.kn
    have hlen := clo_len (S := (dtR S L r).1) (m := (hdR S L r).length) (by have := HQ.out; omega)
    rw [HF.out.1] at hlen
    have HW8 := Lib.hid (And.intro (St.mk hs8 ⟨hkn.1, by have := hkn.2; rw [HF.out.2.1] at this; rw [hlen]; exact this⟩ HF.out.2.2) (And.intro (HW7.out.2.1.trans hb8) (HW7.out.2.2.trans hk8)))
    clear hs8 hb8 hk8 hkn hlen HW7 HZ7
    go_wp2_with fail
    go_ret
    exact ⟨rfl, HW8.out⟩
end Go.Proofs.YtlphbeaaeeohjaaDoor
