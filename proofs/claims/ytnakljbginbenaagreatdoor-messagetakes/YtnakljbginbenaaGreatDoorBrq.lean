/- Joined texts: Rqa Rqb Rqc Rqd Rqe. -/
import Derived.Test.YtnakljbginbenaaGreatDoorBwi
import Derived.Test.YtnakljbginbenaaGreatDoorBma
import Derived.Test.YtnakljbginbenaaGreatDoorBrd
import Derived.Laws.ResultCell

/- The contracts of record: Key, MayQ, May. -/
namespace Go.Proofs.YtnakljbginbenaaGreatDoor
open Go.RowKit
set_option linter.unusedVariables false

/-- (The kit has two laws of one name, whose arguments differ: which is met hangs on the order of imports.) -/
theorem heapOld {w : World} (o : Obj) {r : Nat} (h : r < w.heap.size) : (w.alloc o).heap[r]? = w.heap[r]? := by
  show (w.heap.push o)[r]? = w.heap[r]?
  rw [Array.getElem?_push, if_neg (Nat.ne_of_lt h)]

theorem infoQ : (Tryz.prog.info? 48).map (·.size) = some 3 := by kernel_rfl
theorem infoR : (Tryz.prog.info? 46).map (·.size) = some 5 := by kernel_rfl
theorem load_q (w : World) (g : Nat) (a b c : Value) (hg : w.heap[g]? = some (.cells #[a, b, c] 48 (0, 0))) : (loadVar 48 ⟨g, 0, none⟩).run Tryz.prog w = .ok (.agg #[a, b, c]) w :=
  run_loadVar_row w g 48 48 #[a, b, c] (0, 0) _ hg Tryz.underlying48 rfl infoQ
theorem load_r (w : World) (g : Nat) (a b c d e : Value) (hg : w.heap[g]? = some (.cells #[a, b, c, d, e] 46 (0, 0))) : (loadVar 46 ⟨g, 0, none⟩).run Tryz.prog w = .ok (.agg #[a, b, c, d, e]) w :=
  run_loadVar_row w g 46 46 #[a, b, c, d, e] (0, 0) _ hg Tryz.underlying46 rfl infoR
theorem ret_q {w : World} {fn : Func} {p : Tmp} {R : Ending → World → Prop} {a : Act} {g : Nat} {x y z : Value} (h : fn.results = #[.cell p 48]) (hp : a.tmps.getD p undef = .pointer (some ⟨g, 0, none⟩)) (hd : a.defers = [])
    (hg : w.heap[g]? = some (.cells #[x, y, z] 48 (0, 0))) (hR : R (.returned (.agg #[x, y, z])) w) : bodyPost Tryz.prog fn R .ret a w :=
  bodyPost_ret (results_cell_row h _ w g 48 #[x, y, z] (0, 0) _ hp hg Tryz.underlying48 rfl infoQ) hd hR
theorem ret_q3 {w : World} {fn : Func} {p u v : Tmp} {R : Ending → World → Prop} {a : Act} {g : Nat} {x y z s t : Value} (h : fn.results = #[.cell p 48, .tmp u, .tmp v]) (hp : a.tmps.getD p undef = .pointer (some ⟨g, 0, none⟩)) (hu : a.tmps.getD u undef = s) (hv : a.tmps.getD v undef = t) (hd : a.defers = [])
    (hg : w.heap[g]? = some (.cells #[x, y, z] 48 (0, 0))) (hR : R (.returned (.tuple #[.agg #[x, y, z], s, t])) w) : bodyPost Tryz.prog fn R .ret a w := by
  refine bodyPost_ret (v := .tuple #[.agg #[x, y, z], s, t]) ?_ hd hR
  rw [results_cell_tmp2 h, hp, hu, hv]
  simp [asAddr, Result.andThen, load_q w g x y z hg]
theorem ret_r3 {w : World} {fn : Func} {p u v : Tmp} {R : Ending → World → Prop} {a : Act} {g : Nat} {x y z x1 y1 s t : Value} (h : fn.results = #[.cell p 46, .tmp u, .tmp v]) (hp : a.tmps.getD p undef = .pointer (some ⟨g, 0, none⟩)) (hu : a.tmps.getD u undef = s) (hv : a.tmps.getD v undef = t) (hd : a.defers = [])
    (hg : w.heap[g]? = some (.cells #[x, y, z, x1, y1] 46 (0, 0))) (hR : R (.returned (.tuple #[.agg #[x, y, z, x1, y1], s, t])) w) : bodyPost Tryz.prog fn R .ret a w := by
  refine bodyPost_ret (v := .tuple #[.agg #[x, y, z, x1, y1], s, t]) ?_ hd hR
  rw [results_cell_tmp2 h, hp, hu, hv]
  simp [asAddr, Result.andThen, load_r w g x y z x1 y1 hg]

theorem key_any (n d : ByteArray) (k c t : Int) (w : World) :
    Calls Tryz.prog 77 #[.agg #[.string n, .int .u16 k, .int .u16 c, .int .u32 t, .string d]] w fun e w' => e = .returned (.agg #[.string n, .int .u16 k, .int .u16 c]) ∧ Below w.heap.size w w' := by
  go_enter Tryz.func77, Tryz.ntmps77
  go_wp2_with fail
  refine ret_q rfl rfl rfl (heap_alloc2_new w _ _) ⟨rfl, ?_⟩
  exact ((Below.refl _ w).alloc (Nat.le_refl _) _).alloc (by simp) _

theorem mayq_any (n : ByteArray) (k c : Int) (hn : n.size ≤ 140737488355328) (w : World) :
    Calls Tryz.prog 29 #[.agg #[.string n, .int .u16 k, .int .u16 c]] w fun e w' => e = .returned (.bool (mayB n)) ∧ Below w.heap.size w w' := by
  go_enter Tryz.func29, Tryz.ntmps29
  go_wp2_with fail
  refine (may_any n hn _).mono ?_
  rintro e w1 ⟨rfl, hb1⟩
  go_wp2_with fail
  go_ret
  exact ⟨rfl, ((Below.refl _ w).alloc (Nat.le_refl _) _).trans (hb1.mono (by simp))⟩

set_option maxRecDepth 100000 in
theorem mayr_any (r : Rc) (hn : r.n.size ≤ 140737488355328) (hd : r.d.size ≤ 1073741824) (hr : r.Ok) (w : World) (hL : Lay w) :
    Calls Tryz.prog 31 #[.agg #[.string r.n, .int .u16 (r.k : Nat), .int .u16 (r.c : Nat), .int .u32 (r.t : Nat), .string r.d]] w fun e w' => e = .returned (.bool (mayR r)) ∧ Below w.heap.size w w' := by
  obtain ⟨n, k, c, t, d⟩ := r
  obtain ⟨hk, hc, ht⟩ := hr
  simp only at hn hd hk hc ht ⊢
  have HL := Lib.hid hL
  have H0 := Lib.hid (lay_lt hL)
  have HM := Lib.hid (fun w' => may_any n hn w')
  have HD := Lib.hid (fun w' => rmay_any k d hd hk w')
  have HE := Lib.hid (may_eq k d)
  have hmr : mayR ⟨n, k, c, t, d⟩ = (mayB n && mayD k d) := rfl
  rw [hmr]
  clear hL hmr
  cases hm : mayB n with
  | false =>
    rw [hm] at HM
    go_enter Tryz.func31, Tryz.ntmps31
    go_wp2_with fail
    refine (HM.out _).mono ?_
    rintro e w1 ⟨rfl, hb1⟩
    go_wp2_with fail
    go_ret
    exact ⟨rfl, ((Below.refl _ w).alloc (Nat.le_refl _) _).trans (hb1.mono (by simp))⟩
  | true =>
    rw [hm] at HM
    have HN := Lib.hid (World.alloc_heap_new w (Obj.cells #[Value.string n, .int .u16 (k : Nat), .int .u16 (c : Nat), .int .u32 (t : Nat), .string d] 46))
    have HA := Lib.hid ((Below.refl w.heap.size w).alloc (Nat.le_refl _) (Obj.cells #[Value.string n, .int .u16 (k : Nat), .int .u16 (c : Nat), .int .u32 (t : Nat), .string d] 46))
    go_enter Tryz.func31, Tryz.ntmps31
    go_wp2_with fail
    refine (HM.out _).mono ?_
    rintro e w1 ⟨rfl, hb1⟩
    have hx := (hb1.block w.heap.size (by simp)).trans HN.out
    have c1 : w1.cell? ⟨w.heap.size, 1, none⟩ = some (.int .u16 (k : Nat)) := blk_cell hx 1
    have c4 : w1.cell? ⟨w.heap.size, 4, none⟩ = some (.string d) := blk_cell hx 4
    have HB := Lib.hid (HA.out.trans (hb1.mono HA.out.size))
    have HL1 := Lib.hid (HL.out.below H0.out HB.out)
    clear hx hb1
    go_wp2_with fail
    refine (HD.out _ HL1.out).mono ?_
    rintro e w2 ⟨rfl, hb2⟩
    rw [HE.out]
    go_wp2_with fail
    go_ret
    exact ⟨by simp, HB.out.trans (hb2.mono HB.out.size)⟩
end Go.Proofs.YtnakljbginbenaaGreatDoor

/- The contracts of record: PutQ and Put. -/
namespace Go.Proofs.YtnakljbginbenaaGreatDoor
open Go.RowKit
set_option linter.unusedVariables false

/-- What PutQ, and Put, make of a pack, whatever is put. -/
def pqS (S : List UInt8) (L : Kn) (r : Rc) : List UInt8 × Kn := if mayB r.n = true then putQ S L r else (S, L)
def prS (S : List UInt8) (L : Kn) (r : Rc) : List UInt8 × Kn := if mayR r = true then putR S L r else (S, L)
def prE (r : Rc) : Int := if mayR r = true then 0 else 1

theorem St.more {B b : Nat} {S : List UInt8} {L : Kn} {w w' : World} (h : St B b S L w) (hb : Below w.heap.size w w') (hB : B ≤ w.heap.size) : St B b S L w' ∧ Below B w w' ∧ Kp w w' := ⟨h.below hb, hb.mono hB, Kp.below hb⟩

set_option maxRecDepth 100000 in
set_option maxHeartbeats 1000000 in
theorem putq_any (B b : Nat) (S : List UInt8) (L : Kn) (r : Rc) (hn : r.n.size ≤ 4194304) (hr : r.Ok) (hS : S.length ≤ 1073741824) (w : World) (h : St B b S L w) (hB : B ≤ w.heap.size) :
    Calls Tryz.prog 51 #[.pointer (some ⟨b, 0, none⟩), .agg #[.string r.n, .int .u16 (r.k : Nat), .int .u16 (r.c : Nat)]] w fun e w' => e = .returned (.int .i64 (stE r.n)) ∧ St B b (pqS S L r).1 (pqS S L r).2 w' ∧ Below B w w' ∧ Kp w w' := by
  have hnx : ((some ⟨b, 0, none⟩ : Option Addr) == none) = false := rfl
  have hbox := World.alloc_heap_new w (Obj.cells #[Value.string r.n, .int .u16 (r.k : Nat), .int .u16 (r.c : Nat)] 48)
  have hal := (Below.refl w.heap.size w).alloc (Nat.le_refl _) (Obj.cells #[Value.string r.n, .int .u16 (r.k : Nat), .int .u16 (r.c : Nat)] 48)
  cases hm : mayB r.n with
  | false =>
    have e1 : stE r.n = 1 := by simp [stE, hm]
    have e2 : pqS S L r = (S, L) := by simp [pqS, hm]
    rw [e1, e2]
    have HM := Lib.hid (fun w' => mayq_any r.n r.k r.c (by omega) w')
    rw [hm] at HM
    have HS := Lib.hid h
    have HA := Lib.hid hal
    clear h hbox hal
    go_enter Tryz.func51, Tryz.ntmps51
    go_wp2_with fail
    refine (HM.out _).mono ?_
    rintro e w1 ⟨rfl, hb1⟩
    go_wp2_with fail
    go_ret
    exact ⟨rfl, HS.out.more (HA.out.trans (hb1.mono HA.out.size)) hB⟩
  | true =>
    have e1 : stE r.n = 0 := by simp [stE, hm]
    have e2 : pqS S L r = putQ S L r := by simp [pqS, hm]
    have e3 : stp S L r.n = put S L (labs r.n) := by simp [stp, hm]
    rw [e1, e2]
    have hsz := (may_name hm).size
    obtain ⟨⟨X, hX1, hX2, _, hX4⟩, _⟩ := (stepped h.good r.n).1
    have HM := Lib.hid (fun w' => mayq_any r.n r.k r.c (by omega) w')
    rw [hm] at HM
    have HS := Lib.hid h
    have HA := Lib.hid (And.intro hal hbox)
    have HP := Lib.hid e3
    have HX := Lib.hid (And.intro hX1 hX4)
    clear h hal hbox e3 e1 e2 hX1 hX2 hX4
    go_enter Tryz.func51, Tryz.ntmps51
    go_wp2_with fail
    refine (HM.out _).mono ?_
    rintro e w1 ⟨rfl, hb1⟩
    have HW1 := Lib.hid (HS.out.more (HA.out.1.trans (hb1.mono HA.out.1.size)) hB)
    have HZ1 := Lib.hid (Nat.le_trans hB (Nat.le_trans HA.out.1.size hb1.size))
    have HC1 := Lib.hid ((hb1.block w.heap.size (by simp)).trans HA.out.2)
    have c10 : w1.cell? ⟨w.heap.size, 0, none⟩ = some (.string r.n) := blk_cell HC1.out 0
    clear hb1 HA HM HS
    go_wp2_with fail
    refine (name_step B b S L r.n _ HW1.out.1 HZ1.out (by omega) (by omega)).mono ?_
    rintro e w2 ⟨rfl, hs2, hb2, hk2⟩
    have HC2 := Lib.hid (hk2 _ _ _ _ (by decide) (by decide) HC1.out)
    have HW2 := Lib.hid (And.intro hs2 (And.intro (HW1.out.2.1.trans hb2) (HW1.out.2.2.trans hk2)))
    have HZ2 := Lib.hid (Nat.le_trans HZ1.out hb2.size)
    have c21 : w2.cell? ⟨w.heap.size, 1, none⟩ = some (.int .u16 (r.k : Nat)) := blk_cell HC2.out 1
    clear hs2 hb2 hk2 c10 HC1 HW1 HZ1
    go_wp2_with fail
    refine (Oc.Put16b (r.k : Nat) _ (by omega) (by have := hr.k; omega)).mono ?_
    rintro e w3 ⟨rfl, hb3⟩
    have HC3 := Lib.hid ((hb3.block w.heap.size (heap_lt HC2.out)).trans HC2.out)
    have HW3 := Lib.hid (And.intro (HW2.out.1.below hb3) (And.intro (HW2.out.2.1.trans (hb3.mono HZ2.out)) (HW2.out.2.2.trans (Kp.below hb3))))
    have HZ3 := Lib.hid (Nat.le_trans HZ2.out hb3.size)
    clear hb3 c21 HC2 HW2 HZ2
    go_wp2_with fail
    refine (add_step B b _ _ _ _ HW3.out.1 (by rw [Oc.bstr_size, HX.out.1, List.length_append]; have := HX.out.2; omega) HZ3.out).mono ?_
    rintro e w4 ⟨rfl, hs4, hb4, hk4⟩
    rw [bstr16 hr.k] at hs4
    have HC4 := Lib.hid (hk4 _ _ _ _ (by decide) (by decide) HC3.out)
    have HW4 := Lib.hid (And.intro hs4 (And.intro (HW3.out.2.1.trans hb4) (HW3.out.2.2.trans hk4)))
    have HZ4 := Lib.hid (Nat.le_trans HZ3.out hb4.size)
    have c42 : w4.cell? ⟨w.heap.size, 2, none⟩ = some (.int .u16 (r.c : Nat)) := blk_cell HC4.out 2
    clear hs4 hb4 hk4 HC3 HW3 HZ3
    go_wp2_with fail
    refine (Oc.Put16b (r.c : Nat) _ (by omega) (by have := hr.c; omega)).mono ?_
    rintro e w5 ⟨rfl, hb5⟩
    have HW5 := Lib.hid (And.intro (HW4.out.1.below hb5) (And.intro (HW4.out.2.1.trans (hb5.mono HZ4.out)) (HW4.out.2.2.trans (Kp.below hb5))))
    have HZ5 := Lib.hid (Nat.le_trans HZ4.out hb5.size)
    clear hb5 c42 HC4 HW4 HZ4
    go_wp2_with fail
    refine (add_step B b _ _ _ _ HW5.out.1 (by rw [Oc.bstr_size, List.length_append, b16_len, HX.out.1, List.length_append]; have := HX.out.2; omega) HZ5.out).mono ?_
    rintro e w6 ⟨rfl, hs6, hb6, hk6⟩
    rw [bstr16 hr.c] at hs6
    have HW6 := Lib.hid (And.intro hs6 (And.intro (HW5.out.2.1.trans hb6) (HW5.out.2.2.trans hk6)))
    clear hs6 hb6 hk6 HW5 HZ5
    go_wp2_with fail
    go_ret
    have h6 := HW6.out
    rw [HP.out, List.append_assoc] at h6
    exact ⟨rfl, h6⟩

theorem clo_putR {S : List UInt8} {L : Kn} (hG : Good S L) {r : Rc} (hm : mayR r = true) : clo (dtR S L r).1 (hdR S L r).length = (putR S L r).1 := by
  obtain ⟨W, L', w1, w2, w3, w4, w5, w6⟩ := putR_form hG hm
  rw [w3, w4]
  simp only
  unfold clo
  have e1 : (hdR S L r ++ [0, 0] ++ W).length - ((hdR S L r).length + 2) = W.length := by simp; omega
  rw [e1, Nat.mod_eq_of_lt (by omega), bstr16 (by omega), List.append_assoc (hdR S L r), List.take_left' rfl, ← List.append_assoc (hdR S L r) [0, 0], List.drop_left' (by simp), List.append_assoc]

set_option maxRecDepth 100000 in
set_option maxHeartbeats 1000000 in
theorem putr_any (B b : Nat) (S : List UInt8) (L : Kn) (r : Rc) (hn : r.n.size ≤ 4194304) (hd : r.d.size ≤ 4194304) (hr : r.Ok) (hS : S.length ≤ 536870912) (w : World) (hL : Lay w) (h : St B b S L w) (hB : B ≤ w.heap.size) (h0B : 0 < B) :
    Calls Tryz.prog 52 #[.pointer (some ⟨b, 0, none⟩), .agg #[.string r.n, .int .u16 (r.k : Nat), .int .u16 (r.c : Nat), .int .u32 (r.t : Nat), .string r.d]] w fun e w' => e = .returned (.int .i64 (prE r)) ∧ St B b (prS S L r).1 (prS S L r).2 w' ∧ Below B w w' ∧ Kp w w' := by
  have hbox := World.alloc_heap_new w (Obj.cells #[Value.string r.n, .int .u16 (r.k : Nat), .int .u16 (r.c : Nat), .int .u32 (r.t : Nat), .string r.d] 46)
  have hal := (Below.refl w.heap.size w).alloc (Nat.le_refl _) (Obj.cells #[Value.string r.n, .int .u16 (r.k : Nat), .int .u16 (r.c : Nat), .int .u32 (r.t : Nat), .string r.d] 46)
  have HM := Lib.hid (fun w' hL' => mayr_any r (by omega) (by omega) hr w' hL')
  have HS := Lib.hid h
  have HL := Lib.hid hL
  have H0 := Lib.hid h0B
  clear h hL h0B
  have HL1 := Lib.hid (HL.out.below (Nat.lt_of_lt_of_le H0.out hB) hal)
  cases hm : mayR r with
  | false =>
    have e1 : prE r = 1 := by simp [prE, hm]
    have e2 : prS S L r = (S, L) := by simp [prS, hm]
    rw [e1, e2]
    rw [hm] at HM
    have HA := Lib.hid hal
    clear hbox hal
    go_enter Tryz.func52, Tryz.ntmps52
    go_wp2_with fail
    refine (HM.out _ HL1.out).mono ?_
    rintro e w1 ⟨rfl, hb1⟩
    go_wp2_with fail
    go_ret
    exact ⟨rfl, HS.out.more (HA.out.trans (hb1.mono HA.out.size)) hB⟩
  | true =>
    have e1 : prE r = 0 := by simp [prE, hm]
    have e2 : prS S L r = putR S L r := by simp [prS, hm]
    have hmB : mayB r.n = true := by unfold mayR at hm; rw [Bool.and_eq_true] at hm; exact hm.1
    have hmD : mayD r.k r.d = true := by unfold mayR at hm; rw [Bool.and_eq_true] at hm; exact hm.2
    have e3 : pqS S L r = putQ S L r := by simp [pqS, hmB]
    have e4 : ptS (hdR S L r ++ [0, 0]) (putQ S L r).2 r.k r.d = dtR S L r := by rw [put_eq, if_pos hmD]; rfl
    have e5 : stE r.n = 0 := by simp [stE, hmB]
    obtain ⟨⟨X, hX1, hX2⟩, _⟩ := putQ_good HS.out.good hmB
    obtain ⟨W, L', w1, w2, w3, w4, w5, w6⟩ := putR_form HS.out.good hm
    have hq : (putQ S L r).1.length ≤ 536871200 := by rw [hX1, List.length_append]; omega
    have hh : (hdR S L r).length = (putQ S L r).1.length + 4 := by unfold hdR; rw [List.length_append, b32_len]
    have hdl : (dtR S L r).1.length = (hdR S L r).length + 2 + W.length := by rw [w3]; simp; omega
    have hclo := clo_putR HS.out.good hm
    have hL' : (dtR S L r).2 = (putR S L r).2 := rfl
    rw [e1, e2]
    rw [hm] at HM
    have HE := Lib.hid (And.intro e3 (And.intro e4 e5))
    have HF := Lib.hid (And.intro hclo (And.intro hL' w6))
    have HQ := Lib.hid (And.intro hq (And.intro hh (And.intro hdl (Nat.le_trans w1 w2))))
    have HA := Lib.hid (And.intro hal hbox)
    clear hal hbox e1 e2 e3 e4 e5 hX1 hX2 w1 w2 w3 w4 w5 w6 hq hh hdl hclo hL'
    go_enter Tryz.func52, Tryz.ntmps52
    go_wp2_with fail
    refine (HM.out _ HL1.out).mono ?_
    rintro e w1 ⟨rfl, hb1⟩
    have HW1 := Lib.hid (HS.out.more (HA.out.1.trans (hb1.mono HA.out.1.size)) hB)
    have HZ1 := Lib.hid (Nat.le_trans hB (Nat.le_trans HA.out.1.size hb1.size))
    have HC1 := Lib.hid ((hb1.block w.heap.size (by simp)).trans HA.out.2)
    clear hb1 HA HM HS HL1
    go_wp2_with (refine wpList_load_row rfl 46 _ rfl w.heap.size rfl 46 _ _ _ HC1.out Tryz.underlying46 rfl infoR ?_)
    refine (key_any _ _ _ _ _ _).mono ?_
    rintro e w2 ⟨rfl, hb2⟩
    have HC2 := Lib.hid ((hb2.block w.heap.size (heap_lt HC1.out)).trans HC1.out)
    have HW2 := Lib.hid (And.intro (HW1.out.1.below hb2) (And.intro (HW1.out.2.1.trans (hb2.mono HZ1.out)) (HW1.out.2.2.trans (Kp.below hb2))))
    have HZ2 := Lib.hid (Nat.le_trans HZ1.out hb2.size)
    clear hb2 HC1 HW1 HZ1
    go_wp2_with fail
    refine (putq_any B b S L r hn hr (by omega) _ HW2.out.1 HZ2.out).mono ?_
    rintro e w3 ⟨rfl, hs3, hb3, hk3⟩
    rw [HE.out.1] at hs3
    rw [HE.out.2.2]
    have HC3 := Lib.hid (hk3 _ _ _ _ (by decide) (by decide) HC2.out)
    have HW3 := Lib.hid (And.intro hs3 (And.intro (HW2.out.2.1.trans hb3) (HW2.out.2.2.trans hk3)))
    have HZ3 := Lib.hid (Nat.le_trans HZ2.out hb3.size)
    have c33 : w3.cell? ⟨w.heap.size, 3, none⟩ = some (.int .u32 (r.t : Nat)) := blk_cell HC3.out 3
    clear hs3 hb3 hk3 HC2 HW2 HZ2
    go_wp2_with fail
    refine (Oc.Put32b (r.t : Nat) _ (by omega) (by have := hr.t; omega)).mono ?_
    rintro e w4 ⟨rfl, hb4⟩
    have HC4 := Lib.hid ((hb4.block w.heap.size (heap_lt HC3.out)).trans HC3.out)
    have HW4 := Lib.hid (And.intro (HW3.out.1.below hb4) (And.intro (HW3.out.2.1.trans (hb4.mono HZ3.out)) (HW3.out.2.2.trans (Kp.below hb4))))
    have HZ4 := Lib.hid (Nat.le_trans HZ3.out hb4.size)
    clear hb4 c33 HC3 HW3 HZ3
    go_wp2_with fail
    refine (add_step B b _ _ _ _ HW4.out.1 (by rw [Oc.bstr_size]; have := HQ.out.1; omega) HZ4.out).mono ?_
    rintro e w5 ⟨rfl, hs5, hb5, hk5⟩
    rw [bstr32 hr.t] at hs5
    have hs5' : St B b (hdR S L r) (putQ S L r).2 w5 := hs5
    have HC5 := Lib.hid (hk5 _ _ _ _ (by decide) (by decide) HC4.out)
    have HW5 := Lib.hid (And.intro hs5' (And.intro (HW4.out.2.1.trans hb5) (HW4.out.2.2.trans hk5)))
    have HZ5 := Lib.hid (Nat.le_trans HZ4.out hb5.size)
    clear hs5 hs5' hb5 hk5 HC4 HW4 HZ4
    go_wp2_with fail
    refine (mark_any B b _ _ _ HW5.out.1 HZ5.out (by have := HQ.out; omega)).mono ?_
    rintro e w6 ⟨rfl, hs6, hb6, hk6⟩
    have HC6 := Lib.hid (hk6 _ _ _ _ (by decide) (by decide) HC5.out)
    have HW6 := Lib.hid (And.intro hs6 (And.intro (HW5.out.2.1.trans hb6) (HW5.out.2.2.trans hk6)))
    have HZ6 := Lib.hid (Nat.le_trans HZ5.out hb6.size)
    have HL6 := Lib.hid (HL.out.below H0.out HW6.out.2.1)
    have c61 : w6.cell? ⟨w.heap.size, 1, none⟩ = some (.int .u16 (r.k : Nat)) := blk_cell HC6.out 1
    have c64 : w6.cell? ⟨w.heap.size, 4, none⟩ = some (.string r.d) := blk_cell HC6.out 4
    rw [show (((hdR S L r).length + 2 : Nat) : Int) = ((hdR S L r).length : Int) + 2 by omega]
    clear hs6 hb6 hk6 HC5 HW5 HZ5
    go_wp2_with fail
    refine (rput_any B b _ _ r.k r.d hd (by rw [List.length_append]; have := HQ.out; simp only [List.length_cons, List.length_nil]; omega) hr.k _ HL6.out HW6.out.1 HZ6.out).mono ?_
    rintro e w7 ⟨rfl, hs7, hb7, hk7⟩
    rw [HE.out.2.1] at hs7
    have HW7 := Lib.hid (And.intro hs7 (And.intro (HW6.out.2.1.trans hb7) (HW6.out.2.2.trans hk7)))
    have HZ7 := Lib.hid (Nat.le_trans HZ6.out hb7.size)
    clear hs7 hb7 hk7 HC6 HW6 HZ6 c61 c64 HL6
    go_wp2_with fail
    refine (close_yes B b _ _ (hdR S L r).length _ HW7.out.1.is HZ7.out (by have := HQ.out; omega) (by have := HQ.out; omega)).mono ?_
    rintro e w8 ⟨rfl, hs8, hb8, hk8⟩
    rw [HF.out.1, HF.out.2.1] at hs8
    have hkn := HW7.out.1.kn
    have hlen := clo_len (S := (dtR S L r).1) (m := (hdR S L r).length) (by have := HQ.out; omega)
    rw [HF.out.1] at hlen
    have HW8 := Lib.hid (And.intro (St.mk hs8 ⟨hkn.1, by have := hkn.2; rw [HF.out.2.1] at this; rw [hlen]; exact this⟩ HF.out.2.2) (And.intro (HW7.out.2.1.trans hb8) (HW7.out.2.2.trans hk8)))
    clear hs8 hb8 hk8 hkn hlen HW7 HZ7
    go_wp2_with fail
    go_ret
    exact ⟨rfl, HW8.out⟩
end Go.Proofs.YtnakljbginbenaaGreatDoor

/- The contracts of the parts that record combines: takeName, takeType, takeClass, takeKey, takeTTL, takeData. -/
namespace Go.Proofs.YtnakljbginbenaaGreatDoor
open Go.RowKit
set_option linter.unusedVariables false

theorem all3 (a : ByteArray) (k c : Int) : (#[Value.string a, .int .u16 k, .int .u16 c] : Array Value).all (·.oneCell') = true := by kernel_rfl
theorem all5 (a : ByteArray) (k c t : Int) (d : ByteArray) : (#[Value.string a, .int .u16 k, .int .u16 c, .int .u32 t, .string d] : Array Value).all (·.oneCell') = true := by kernel_rfl
/-- Two blocks that the call made, behind what another call did: a field of the first is written, the first is read, the second is written. -/
theorem two_blocks {w w1 : World} {cs zs : Array Value} {t : TypeId} (hb : Below (w.heap.size + 2) ((w.alloc (Obj.cells cs t)).alloc (Obj.cells zs t)) w1) :
    w1.heap[w.heap.size]? = some (.cells cs t (0, 0)) ∧ w1.heap[w.heap.size + 1]? = some (.cells zs t (0, 0)) ∧ Below w.heap.size w w1 := by
  have e1 : ((w.alloc (Obj.cells cs t)).alloc (Obj.cells zs t)).heap[w.heap.size]? = some (Obj.cells cs t) := by
    rw [heapOld _ (by simp)]
    exact World.alloc_heap_new w _
  have e2 := heap_alloc2_new w (Obj.cells cs t) (Obj.cells zs t)
  refine ⟨(hb.block _ (by omega)).trans e1, (hb.block _ (by omega)).trans e2, ?_⟩
  exact (((Below.refl w.heap.size w).alloc (Nat.le_refl _) _).alloc (by simp) _).trans (hb.mono (by omega))
theorem blk_other {w : World} {g b i : Nat} {o : Obj} (u : Value) (h : w.heap[g]? = some o) (hne : g ≠ b) : (w.setCell ⟨b, i, none⟩ u).heap[g]? = some o := (Below.heap_setCell w ⟨b, i, none⟩ u g hne).trans h

set_option maxRecDepth 100000 in
theorem takename_any (n s : ByteArray) (k c p : Int) (hs : s.size ≤ 140737488355328) (hp : p ≤ maxLen) (w : World) :
    Calls Tryz.prog 62 #[.agg #[.string n, .int .u16 k, .int .u16 c], .string s, .int .i64 p] w fun e w' => e = .returned (.tuple #[.agg #[.string (tkS s p), .int .u16 k, .int .u16 c], .int .i64 (tkX s p : Nat), .int .i64 (tkE s p : Nat)]) ∧ Below w.heap.size w w' := by
  have hc := fun w' => take_any s p hs hp w'
  generalize tkS s p = B at hc ⊢
  generalize tkX s p = X at hc ⊢
  generalize tkE s p = E at hc ⊢
  have HK := Lib.hid hc
  clear hc
  go_enter Tryz.func62, Tryz.ntmps62
  go_wp2_with fail
  refine (HK.out _).mono ?_
  rintro en w1 ⟨rfl, hb1⟩
  obtain ⟨hx, hz, hbw⟩ := two_blocks (hb1.mono (by simp))
  have c0 : w1.cell? ⟨w.heap.size, 0, none⟩ = some (.string n) := blk_cell hx 0
  have f0 := blk_frozen hx 0
  have HX := Lib.hid (show (w1.setCell ⟨w.heap.size, 0, none⟩ (.string B)).heap[w.heap.size]? = some (.cells #[.string B, .int .u16 k, .int .u16 c] 48 (0, 0)) from blk_set hx 0 _)
  have HZ := Lib.hid (blk_other (i := 0) (.string B) hz (show w.heap.size + 1 ≠ w.heap.size by omega))
  have HB := Lib.hid (hbw.setCell (p := ⟨w.heap.size, 0, none⟩) (Nat.le_refl _) (.string B))
  clear hx hz hbw hb1 HK
  go_wp2_with (first | (refine wpList_load_row rfl 48 _ rfl w.heap.size rfl 48 _ _ _ HX.out Tryz.underlying48 rfl infoQ ?_) | (refine wpList_store_row rfl 48 _ _ rfl (w.heap.size + 1) #[.string B, .int .u16 k, .int .u16 c] rfl rfl 48 _ HZ.out infoQ rfl (all3 _ _ _) ?_))
  refine ret_q3 (g := w.heap.size + 1) rfl rfl rfl rfl rfl (setRow_heap _ _ _ _ _ _ HZ.out) ⟨rfl, setRow_below HB.out (by omega) _⟩

set_option maxRecDepth 100000 in
theorem taketype_any (n s : ByteArray) (k c p : Int) (hs : s.size ≤ maxLen) (hp : p ≤ maxLen) (w : World) :
    Calls Tryz.prog 63 #[.agg #[.string n, .int .u16 k, .int .u16 c], .string s, .int .i64 p] w fun e w' => e = .returned (.tuple #[.agg #[.string n, .int .u16 (Oc.un s p 2), .int .u16 c], .int .i64 (Oc.so s p 2), .int .i64 (Oc.se s p 2)]) ∧ Below w.heap.size w w' := by
  have hc := fun w' => Oc.u16_any s p w' hs hp
  generalize Oc.un s p 2 = B at hc ⊢
  generalize Oc.so s p 2 = X at hc ⊢
  generalize Oc.se s p 2 = E at hc ⊢
  have HK := Lib.hid hc
  clear hc
  go_enter Tryz.func63, Tryz.ntmps63
  go_wp2_with fail
  refine (HK.out _).mono ?_
  rintro en w1 ⟨rfl, hb1⟩
  obtain ⟨hx, hz, hbw⟩ := two_blocks (hb1.mono (by simp))
  have c0 : w1.cell? ⟨w.heap.size, 1, none⟩ = some (.int .u16 k) := blk_cell hx 1
  have f0 := blk_frozen hx 1
  have HX := Lib.hid (show (w1.setCell ⟨w.heap.size, 1, none⟩ (.int .u16 B)).heap[w.heap.size]? = some (.cells #[.string n, .int .u16 B, .int .u16 c] 48 (0, 0)) from blk_set hx 1 _)
  have HZ := Lib.hid (blk_other (i := 1) (.int .u16 B) hz (show w.heap.size + 1 ≠ w.heap.size by omega))
  have HB := Lib.hid (hbw.setCell (p := ⟨w.heap.size, 1, none⟩) (Nat.le_refl _) (.int .u16 B))
  clear hx hz hbw hb1 HK
  go_wp2_with (first | (refine wpList_load_row rfl 48 _ rfl w.heap.size rfl 48 _ _ _ HX.out Tryz.underlying48 rfl infoQ ?_) | (refine wpList_store_row rfl 48 _ _ rfl (w.heap.size + 1) #[.string n, .int .u16 B, .int .u16 c] rfl rfl 48 _ HZ.out infoQ rfl (all3 _ _ _) ?_))
  refine ret_q3 (g := w.heap.size + 1) rfl rfl rfl rfl rfl (setRow_heap _ _ _ _ _ _ HZ.out) ⟨rfl, setRow_below HB.out (by omega) _⟩

set_option maxRecDepth 100000 in
theorem takeclass_any (n s : ByteArray) (k c p : Int) (hs : s.size ≤ maxLen) (hp : p ≤ maxLen) (w : World) :
    Calls Tryz.prog 64 #[.agg #[.string n, .int .u16 k, .int .u16 c], .string s, .int .i64 p] w fun e w' => e = .returned (.tuple #[.agg #[.string n, .int .u16 k, .int .u16 (Oc.un s p 2)], .int .i64 (Oc.so s p 2), .int .i64 (Oc.se s p 2)]) ∧ Below w.heap.size w w' := by
  have hc := fun w' => Oc.u16_any s p w' hs hp
  generalize Oc.un s p 2 = B at hc ⊢
  generalize Oc.so s p 2 = X at hc ⊢
  generalize Oc.se s p 2 = E at hc ⊢
  have HK := Lib.hid hc
  clear hc
  go_enter Tryz.func64, Tryz.ntmps64
  go_wp2_with fail
  refine (HK.out _).mono ?_
  rintro en w1 ⟨rfl, hb1⟩
  obtain ⟨hx, hz, hbw⟩ := two_blocks (hb1.mono (by simp))
  have c0 : w1.cell? ⟨w.heap.size, 2, none⟩ = some (.int .u16 c) := blk_cell hx 2
  have f0 := blk_frozen hx 2
  have HX := Lib.hid (show (w1.setCell ⟨w.heap.size, 2, none⟩ (.int .u16 B)).heap[w.heap.size]? = some (.cells #[.string n, .int .u16 k, .int .u16 B] 48 (0, 0)) from blk_set hx 2 _)
  have HZ := Lib.hid (blk_other (i := 2) (.int .u16 B) hz (show w.heap.size + 1 ≠ w.heap.size by omega))
  have HB := Lib.hid (hbw.setCell (p := ⟨w.heap.size, 2, none⟩) (Nat.le_refl _) (.int .u16 B))
  clear hx hz hbw hb1 HK
  go_wp2_with (first | (refine wpList_load_row rfl 48 _ rfl w.heap.size rfl 48 _ _ _ HX.out Tryz.underlying48 rfl infoQ ?_) | (refine wpList_store_row rfl 48 _ _ rfl (w.heap.size + 1) #[.string n, .int .u16 k, .int .u16 B] rfl rfl 48 _ HZ.out infoQ rfl (all3 _ _ _) ?_))
  refine ret_q3 (g := w.heap.size + 1) rfl rfl rfl rfl rfl (setRow_heap _ _ _ _ _ _ HZ.out) ⟨rfl, setRow_below HB.out (by omega) _⟩

set_option maxRecDepth 100000 in
theorem takettl_any (n d s : ByteArray) (k c t p : Int) (hs : s.size ≤ maxLen) (hp : p ≤ maxLen) (w : World) :
    Calls Tryz.prog 67 #[.agg #[.string n, .int .u16 k, .int .u16 c, .int .u32 t, .string d], .string s, .int .i64 p] w fun e w' => e = .returned (.tuple #[.agg #[.string n, .int .u16 k, .int .u16 c, .int .u32 (Oc.un s p 4), .string d], .int .i64 (Oc.so s p 4), .int .i64 (Oc.se s p 4)]) ∧ Below w.heap.size w w' := by
  have hc := fun w' => Oc.u32_any s p w' hs hp
  generalize Oc.un s p 4 = B at hc ⊢
  generalize Oc.so s p 4 = X at hc ⊢
  generalize Oc.se s p 4 = E at hc ⊢
  have HK := Lib.hid hc
  clear hc
  go_enter Tryz.func67, Tryz.ntmps67
  go_wp2_with fail
  refine (HK.out _).mono ?_
  rintro en w1 ⟨rfl, hb1⟩
  obtain ⟨hx, hz, hbw⟩ := two_blocks (hb1.mono (by simp))
  have c0 : w1.cell? ⟨w.heap.size, 3, none⟩ = some (.int .u32 t) := blk_cell hx 3
  have f0 := blk_frozen hx 3
  have HX := Lib.hid (show (w1.setCell ⟨w.heap.size, 3, none⟩ (.int .u32 B)).heap[w.heap.size]? = some (.cells #[.string n, .int .u16 k, .int .u16 c, .int .u32 B, .string d] 46 (0, 0)) from blk_set hx 3 _)
  have HZ := Lib.hid (blk_other (i := 3) (.int .u32 B) hz (show w.heap.size + 1 ≠ w.heap.size by omega))
  have HB := Lib.hid (hbw.setCell (p := ⟨w.heap.size, 3, none⟩) (Nat.le_refl _) (.int .u32 B))
  clear hx hz hbw hb1 HK
  go_wp2_with (first | (refine wpList_load_row rfl 46 _ rfl w.heap.size rfl 46 _ _ _ HX.out Tryz.underlying46 rfl infoR ?_) | (refine wpList_store_row rfl 46 _ _ rfl (w.heap.size + 1) #[.string n, .int .u16 k, .int .u16 c, .int .u32 B, .string d] rfl rfl 46 _ HZ.out infoR rfl (all5 _ _ _ _ _) ?_))
  refine ret_r3 (g := w.heap.size + 1) rfl rfl rfl rfl rfl (setRow_heap _ _ _ _ _ _ HZ.out) ⟨rfl, setRow_below HB.out (by omega) _⟩
end Go.Proofs.YtnakljbginbenaaGreatDoor

/- The contracts of record's generic function, at questions and at records, as far as those of the parts are given. -/
namespace Go.Proofs.YtnakljbginbenaaGreatDoor
open Go.RowKit
set_option linter.unusedVariables false

/-- What the generic function tells of three steps: the first that fails, or the last. -/
def cmbW (E1 E2 E3 : Int) (Z W : Value) : Value := if E1 = 0 ∧ E2 = 0 ∧ E3 = 0 then W else Z
def cmbX (E1 E2 E3 : Int) (P : Int) : Int := if E1 = 0 ∧ E2 = 0 ∧ E3 = 0 then P else 0
def cmbE (E1 E2 E3 : Int) : Int := if E1 = 0 then (if E2 = 0 then E3 else E2) else E1

/-- The blocks of the generic function: its parts, its result, the whole that is none, and the whole so far. -/
structure Cmb (w : World) (g : Nat) (tf t : TypeId) (fs zs cs : Array Value) (W : World) : Prop where
  bel : Below w.heap.size w W
  fs : W.heap[g]? = some (.cells fs tf (0, 0))
  res : W.heap[w.heap.size]? = some (.cells zs t (0, 0))
  non : W.heap[w.heap.size + 1]? = some (.cells zs t (0, 0))
  who : W.heap[w.heap.size + 1 + 1]? = some (.cells cs t (0, 0))
section
variable {w W W' : World} {g : Nat} {tf t : TypeId} {fs zs cs : Array Value}
theorem Cmb.start (hg : w.heap[g]? = some (.cells fs tf (0, 0))) : Cmb w g tf t fs zs zs (((w.alloc (Obj.cells zs t)).alloc (Obj.cells zs t)).alloc (Obj.cells zs t)) := by
  have hb3 : Below w.heap.size w (((w.alloc (Obj.cells zs t)).alloc (Obj.cells zs t)).alloc (Obj.cells zs t)) := (((Below.refl w.heap.size w).alloc (Nat.le_refl _) _).alloc (by simp) _).alloc (by simp; omega) _
  refine ⟨hb3, (hb3.block g (heap_lt hg)).trans hg, ?_, ?_, ?_⟩
  · rw [heapOld _ (by simp; omega), heapOld _ (by simp)]; exact World.alloc_heap_new w _
  · rw [heapOld _ (by simp)]; exact heap_alloc2_new w _ _
  · have := World.alloc_heap_new ((w.alloc (Obj.cells zs t)).alloc (Obj.cells zs t)) (Obj.cells zs t); simpa using this
theorem Cmb.call (h : Cmb w g tf t fs zs cs W) (hb : Below W.heap.size W W') : Cmb w g tf t fs zs cs W' :=
  ⟨h.bel.trans (hb.mono h.bel.size), (hb.block _ (heap_lt h.fs)).trans h.fs, (hb.block _ (heap_lt h.res)).trans h.res, (hb.block _ (heap_lt h.non)).trans h.non, (hb.block _ (heap_lt h.who)).trans h.who⟩
theorem Cmb.set_ (h : Cmb w g tf t fs zs cs W) (hg : g < w.heap.size) (ds : Array Value) : Cmb w g tf t fs zs ds (W.setRow (w.heap.size + 1 + 1) ds) :=
  ⟨setRow_below h.bel (by omega) _, (setRow_other W _ g ds (by omega)).trans h.fs, (setRow_other W _ _ ds (by omega)).trans h.res, (setRow_other W _ _ ds (by omega)).trans h.non, setRow_heap _ _ _ _ _ _ h.who⟩
end

/-- A step: what a function makes of a whole at an offset. -/
def StepQ (f : Nat) (s : ByteArray) (p : Int) (v : Array Value) (p' : Int) (v' : Array Value) (e : Int) (w : World) : Prop :=
  Calls Tryz.prog f #[.agg v, .string s, .int .i64 p] w fun en w' => en = .returned (.tuple #[.agg v', .int .i64 p', .int .i64 e]) ∧ Below w.heap.size w w'

set_option maxRecDepth 100000 in
set_option maxHeartbeats 1000000 in
theorem combineq_any (s : ByteArray) (p0 p1 p2 p3 e1 e2 e3 : Int) (n1 n2 n3 : ByteArray) (k1 k2 k3 c1 c2 c3 : Int) (g : Nat)
    (w : World) (h1 : ∀ w', Below w.heap.size w w' → StepQ 62 s p0 #[.string ⟨#[]⟩, .int .u16 0, .int .u16 0] p1 #[.string n1, .int .u16 k1, .int .u16 c1] e1 w') (h2 : ∀ w', Below w.heap.size w w' → StepQ 63 s p1 #[.string n1, .int .u16 k1, .int .u16 c1] p2 #[.string n2, .int .u16 k2, .int .u16 c2] e2 w') (h3 : ∀ w', Below w.heap.size w w' → StepQ 64 s p2 #[.string n2, .int .u16 k2, .int .u16 c2] p3 #[.string n3, .int .u16 k3, .int .u16 c3] e3 w')
    (hg : w.heap[g]? = some (.cells #[.func (.func 62) #[] #[], .func (.func 63) #[] #[], .func (.func 64) #[] #[]] 101 (0, 0))) :
    Calls Tryz.prog 61 #[.string s, .int .i64 p0, .slice (some ⟨g, 0, none⟩) 3 3] w fun en w' => en = .returned (.tuple #[cmbW e1 e2 e3 (.agg #[.string ⟨#[]⟩, .int .u16 0, .int .u16 0]) (.agg #[.string n3, .int .u16 k3, .int .u16 c3]), .int .i64 (cmbX e1 e2 e3 p3), .int .i64 (cmbE e1 e2 e3)]) ∧ Below w.heap.size w w' := by
  have hlt := heap_lt hg
  have hs : Cmb w g 101 48 #[.func (.func 62) #[] #[], .func (.func 63) #[] #[], .func (.func 64) #[] #[]] #[.string ⟨#[]⟩, .int .u16 0, .int .u16 0] #[.string ⟨#[]⟩, .int .u16 0, .int .u16 0] (((w.alloc (Obj.cells #[.string ⟨#[]⟩, .int .u16 0, .int .u16 0] 48)).alloc (Obj.cells #[.string ⟨#[]⟩, .int .u16 0, .int .u16 0] 48)).alloc (Obj.cells #[.string ⟨#[]⟩, .int .u16 0, .int .u16 0] 48)) := Cmb.start hg
  obtain ⟨W1, hW1⟩ : ∃ W, W = (((w.alloc (Obj.cells #[.string ⟨#[]⟩, .int .u16 0, .int .u16 0] 48)).alloc (Obj.cells #[.string ⟨#[]⟩, .int .u16 0, .int .u16 0] 48)).alloc (Obj.cells #[.string ⟨#[]⟩, .int .u16 0, .int .u16 0] 48)) := ⟨_, rfl⟩
  rw [← hW1] at hs
  have HC1 := Lib.hid hs
  have HH := Lib.hid hW1
  have H1 := Lib.hid h1
  have H2 := Lib.hid h2
  have H3 := Lib.hid h3
  clear h1 h2 h3 hs hW1 hg
  go_enter Tryz.func61, Tryz.ntmps61
  go_wp2_with fail
  refine wp_loop_rounds 4 ?_
  rw [← HH.out]
  clear HH
  rw [rounds_succ]
  have d1 : W1.cell? ⟨g, 0, none⟩ = some (.func (.func 62) #[] #[]) := blk_cell HC1.out.fs 0
  go_wp2_with (refine wpList_load_row rfl 48 _ rfl (w.heap.size + 1 + 1) rfl 48 _ _ _ HC1.out.who Tryz.underlying48 rfl infoQ ?_)
  refine Calls.mono (H1.out _ HC1.out.bel) ?_
  rintro en v1 ⟨rfl, hb⟩
  have HD1 := Lib.hid (HC1.out.call hb)
  have HE1 := Lib.hid (HD1.out.set_ hlt #[.string n1, .int .u16 k1, .int .u16 c1])
  clear hb d1 HC1 H1
  by_cases h0 : e1 = 0
  case neg =>
    have hb : (e1 != 0) = true := by simpa using h0
    have HN := Lib.hid h0
    clear h0
    go_wp2_with (first | (refine wpList_store_row rfl 48 _ _ rfl (w.heap.size + 1 + 1) #[.string n1, .int .u16 k1, .int .u16 c1] rfl rfl 48 _ HD1.out.who infoQ rfl (all3 _ _ _) ?_) | (refine wpList_load_row rfl 48 _ rfl (w.heap.size + 1) rfl 48 _ _ _ HE1.out.non Tryz.underlying48 rfl infoQ ?_) | (refine wpList_store_row rfl 48 _ _ rfl w.heap.size _ rfl rfl 48 _ HE1.out.res infoQ rfl (all3 _ _ _) ?_))
    refine ret_q3 (g := w.heap.size) rfl rfl rfl rfl rfl (setRow_heap _ _ _ _ _ _ HE1.out.res) ⟨?_, setRow_below HE1.out.bel (Nat.le_refl _) _⟩
    have hn := HN.out
    simp [cmbW, cmbX, cmbE, hn]
  subst h0
  go_wp2_with (refine wpList_store_row rfl 48 _ _ rfl (w.heap.size + 1 + 1) #[.string n1, .int .u16 k1, .int .u16 c1] rfl rfl 48 _ HD1.out.who infoQ rfl (all3 _ _ _) ?_)
  obtain ⟨W2, hW⟩ : ∃ W, W = v1.setRow (w.heap.size + 1 + 1) #[.string n1, .int .u16 k1, .int .u16 c1] := ⟨_, rfl⟩
  have HC2 := HE1
  rw [← hW] at HC2 ⊢
  clear hW HD1 HE1
  rw [rounds_succ]
  have d2 : W2.cell? ⟨g, 1, none⟩ = some (.func (.func 63) #[] #[]) := blk_cell HC2.out.fs 1
  go_wp2_with (refine wpList_load_row rfl 48 _ rfl (w.heap.size + 1 + 1) rfl 48 _ _ _ HC2.out.who Tryz.underlying48 rfl infoQ ?_)
  refine Calls.mono (H2.out _ HC2.out.bel) ?_
  rintro en v2 ⟨rfl, hb⟩
  have HD2 := Lib.hid (HC2.out.call hb)
  have HE2 := Lib.hid (HD2.out.set_ hlt #[.string n2, .int .u16 k2, .int .u16 c2])
  clear hb d2 HC2 H2
  by_cases h0 : e2 = 0
  case neg =>
    have hb : (e2 != 0) = true := by simpa using h0
    have HN := Lib.hid h0
    clear h0
    go_wp2_with (first | (refine wpList_store_row rfl 48 _ _ rfl (w.heap.size + 1 + 1) #[.string n2, .int .u16 k2, .int .u16 c2] rfl rfl 48 _ HD2.out.who infoQ rfl (all3 _ _ _) ?_) | (refine wpList_load_row rfl 48 _ rfl (w.heap.size + 1) rfl 48 _ _ _ HE2.out.non Tryz.underlying48 rfl infoQ ?_) | (refine wpList_store_row rfl 48 _ _ rfl w.heap.size _ rfl rfl 48 _ HE2.out.res infoQ rfl (all3 _ _ _) ?_))
    refine ret_q3 (g := w.heap.size) rfl rfl rfl rfl rfl (setRow_heap _ _ _ _ _ _ HE2.out.res) ⟨?_, setRow_below HE2.out.bel (Nat.le_refl _) _⟩
    have hn := HN.out
    simp [cmbW, cmbX, cmbE, hn]
  subst h0
  go_wp2_with (refine wpList_store_row rfl 48 _ _ rfl (w.heap.size + 1 + 1) #[.string n2, .int .u16 k2, .int .u16 c2] rfl rfl 48 _ HD2.out.who infoQ rfl (all3 _ _ _) ?_)
  obtain ⟨W3, hW⟩ : ∃ W, W = v2.setRow (w.heap.size + 1 + 1) #[.string n2, .int .u16 k2, .int .u16 c2] := ⟨_, rfl⟩
  have HC3 := HE2
  rw [← hW] at HC3 ⊢
  clear hW HD2 HE2
  rw [rounds_succ]
  have d3 : W3.cell? ⟨g, 2, none⟩ = some (.func (.func 64) #[] #[]) := blk_cell HC3.out.fs 2
  go_wp2_with (refine wpList_load_row rfl 48 _ rfl (w.heap.size + 1 + 1) rfl 48 _ _ _ HC3.out.who Tryz.underlying48 rfl infoQ ?_)
  refine Calls.mono (H3.out _ HC3.out.bel) ?_
  rintro en v3 ⟨rfl, hb⟩
  have HD3 := Lib.hid (HC3.out.call hb)
  have HE3 := Lib.hid (HD3.out.set_ hlt #[.string n3, .int .u16 k3, .int .u16 c3])
  clear hb d3 HC3 H3
  by_cases h0 : e3 = 0
  case neg =>
    have hb : (e3 != 0) = true := by simpa using h0
    have HN := Lib.hid h0
    clear h0
    go_wp2_with (first | (refine wpList_store_row rfl 48 _ _ rfl (w.heap.size + 1 + 1) #[.string n3, .int .u16 k3, .int .u16 c3] rfl rfl 48 _ HD3.out.who infoQ rfl (all3 _ _ _) ?_) | (refine wpList_load_row rfl 48 _ rfl (w.heap.size + 1) rfl 48 _ _ _ HE3.out.non Tryz.underlying48 rfl infoQ ?_) | (refine wpList_store_row rfl 48 _ _ rfl w.heap.size _ rfl rfl 48 _ HE3.out.res infoQ rfl (all3 _ _ _) ?_))
    refine ret_q3 (g := w.heap.size) rfl rfl rfl rfl rfl (setRow_heap _ _ _ _ _ _ HE3.out.res) ⟨?_, setRow_below HE3.out.bel (Nat.le_refl _) _⟩
    have hn := HN.out
    simp [cmbW, cmbX, cmbE, hn]
  subst h0
  go_wp2_with (refine wpList_store_row rfl 48 _ _ rfl (w.heap.size + 1 + 1) #[.string n3, .int .u16 k3, .int .u16 c3] rfl rfl 48 _ HD3.out.who infoQ rfl (all3 _ _ _) ?_)
  obtain ⟨W4, hW⟩ : ∃ W, W = v3.setRow (w.heap.size + 1 + 1) #[.string n3, .int .u16 k3, .int .u16 c3] := ⟨_, rfl⟩
  have HC4 := HE3
  rw [← hW] at HC4 ⊢
  clear hW HD3 HE3
  rw [rounds_succ]
  go_wp2_with (first | (refine wpList_load_row rfl 48 _ rfl (w.heap.size + 1 + 1) rfl 48 _ _ _ HC4.out.who Tryz.underlying48 rfl infoQ ?_) | (refine wpList_store_row rfl 48 _ _ rfl w.heap.size _ rfl rfl 48 _ HC4.out.res infoQ rfl (all3 _ _ _) ?_))
  refine ret_q3 (g := w.heap.size) rfl rfl rfl rfl rfl (setRow_heap _ _ _ _ _ _ HC4.out.res) ⟨?_, setRow_below HC4.out.bel (Nat.le_refl _) _⟩
  simp [cmbW, cmbX, cmbE]

/-- A step: what a function makes of a whole at an offset. -/
def StepR (f : Nat) (s : ByteArray) (p : Int) (v : Array Value) (p' : Int) (v' : Array Value) (e : Int) (w : World) : Prop :=
  Calls Tryz.prog f #[.agg v, .string s, .int .i64 p] w fun en w' => en = .returned (.tuple #[.agg v', .int .i64 p', .int .i64 e]) ∧ Below w.heap.size w w'

set_option maxRecDepth 100000 in
set_option maxHeartbeats 1000000 in
theorem combiner_any (s : ByteArray) (p0 p1 p2 p3 e1 e2 e3 : Int) (n1 n2 n3 d1 d2 d3 : ByteArray) (k1 k2 k3 c1 c2 c3 t1 t2 t3 : Int) (g : Nat)
    (w : World) (h1 : ∀ w', Below w.heap.size w w' → StepR 66 s p0 #[.string ⟨#[]⟩, .int .u16 0, .int .u16 0, .int .u32 0, .string ⟨#[]⟩] p1 #[.string n1, .int .u16 k1, .int .u16 c1, .int .u32 t1, .string d1] e1 w') (h2 : ∀ w', Below w.heap.size w w' → StepR 67 s p1 #[.string n1, .int .u16 k1, .int .u16 c1, .int .u32 t1, .string d1] p2 #[.string n2, .int .u16 k2, .int .u16 c2, .int .u32 t2, .string d2] e2 w') (h3 : ∀ w', Below w.heap.size w w' → StepR 68 s p2 #[.string n2, .int .u16 k2, .int .u16 c2, .int .u32 t2, .string d2] p3 #[.string n3, .int .u16 k3, .int .u16 c3, .int .u32 t3, .string d3] e3 w')
    (hg : w.heap[g]? = some (.cells #[.func (.func 66) #[] #[], .func (.func 67) #[] #[], .func (.func 68) #[] #[]] 104 (0, 0))) :
    Calls Tryz.prog 65 #[.string s, .int .i64 p0, .slice (some ⟨g, 0, none⟩) 3 3] w fun en w' => en = .returned (.tuple #[cmbW e1 e2 e3 (.agg #[.string ⟨#[]⟩, .int .u16 0, .int .u16 0, .int .u32 0, .string ⟨#[]⟩]) (.agg #[.string n3, .int .u16 k3, .int .u16 c3, .int .u32 t3, .string d3]), .int .i64 (cmbX e1 e2 e3 p3), .int .i64 (cmbE e1 e2 e3)]) ∧ Below w.heap.size w w' := by
  have hlt := heap_lt hg
  have hs : Cmb w g 104 46 #[.func (.func 66) #[] #[], .func (.func 67) #[] #[], .func (.func 68) #[] #[]] #[.string ⟨#[]⟩, .int .u16 0, .int .u16 0, .int .u32 0, .string ⟨#[]⟩] #[.string ⟨#[]⟩, .int .u16 0, .int .u16 0, .int .u32 0, .string ⟨#[]⟩] (((w.alloc (Obj.cells #[.string ⟨#[]⟩, .int .u16 0, .int .u16 0, .int .u32 0, .string ⟨#[]⟩] 46)).alloc (Obj.cells #[.string ⟨#[]⟩, .int .u16 0, .int .u16 0, .int .u32 0, .string ⟨#[]⟩] 46)).alloc (Obj.cells #[.string ⟨#[]⟩, .int .u16 0, .int .u16 0, .int .u32 0, .string ⟨#[]⟩] 46)) := Cmb.start hg
  obtain ⟨W1, hW1⟩ : ∃ W, W = (((w.alloc (Obj.cells #[.string ⟨#[]⟩, .int .u16 0, .int .u16 0, .int .u32 0, .string ⟨#[]⟩] 46)).alloc (Obj.cells #[.string ⟨#[]⟩, .int .u16 0, .int .u16 0, .int .u32 0, .string ⟨#[]⟩] 46)).alloc (Obj.cells #[.string ⟨#[]⟩, .int .u16 0, .int .u16 0, .int .u32 0, .string ⟨#[]⟩] 46)) := ⟨_, rfl⟩
  rw [← hW1] at hs
  have HC1 := Lib.hid hs
  have HH := Lib.hid hW1
  have H1 := Lib.hid h1
  have H2 := Lib.hid h2
  have H3 := Lib.hid h3
  clear h1 h2 h3 hs hW1 hg
  go_enter Tryz.func65, Tryz.ntmps65
  go_wp2_with fail
  refine wp_loop_rounds 4 ?_
  rw [← HH.out]
  clear HH
  rw [rounds_succ]
  have x1 : W1.cell? ⟨g, 0, none⟩ = some (.func (.func 66) #[] #[]) := blk_cell HC1.out.fs 0
  go_wp2_with (refine wpList_load_row rfl 46 _ rfl (w.heap.size + 1 + 1) rfl 46 _ _ _ HC1.out.who Tryz.underlying46 rfl infoR ?_)
  refine Calls.mono (H1.out _ HC1.out.bel) ?_
  rintro en v1 ⟨rfl, hb⟩
  have HD1 := Lib.hid (HC1.out.call hb)
  have HE1 := Lib.hid (HD1.out.set_ hlt #[.string n1, .int .u16 k1, .int .u16 c1, .int .u32 t1, .string d1])
  clear hb x1 HC1 H1
  by_cases h0 : e1 = 0
  case neg =>
    have hb : (e1 != 0) = true := by simpa using h0
    have HN := Lib.hid h0
    clear h0
    go_wp2_with (first | (refine wpList_store_row rfl 46 _ _ rfl (w.heap.size + 1 + 1) #[.string n1, .int .u16 k1, .int .u16 c1, .int .u32 t1, .string d1] rfl rfl 46 _ HD1.out.who infoR rfl (all5 _ _ _ _ _) ?_) | (refine wpList_load_row rfl 46 _ rfl (w.heap.size + 1) rfl 46 _ _ _ HE1.out.non Tryz.underlying46 rfl infoR ?_) | (refine wpList_store_row rfl 46 _ _ rfl w.heap.size _ rfl rfl 46 _ HE1.out.res infoR rfl (all5 _ _ _ _ _) ?_))
    refine ret_r3 (g := w.heap.size) rfl rfl rfl rfl rfl (setRow_heap _ _ _ _ _ _ HE1.out.res) ⟨?_, setRow_below HE1.out.bel (Nat.le_refl _) _⟩
    have hn := HN.out
    simp [cmbW, cmbX, cmbE, hn]
  subst h0
  go_wp2_with (refine wpList_store_row rfl 46 _ _ rfl (w.heap.size + 1 + 1) #[.string n1, .int .u16 k1, .int .u16 c1, .int .u32 t1, .string d1] rfl rfl 46 _ HD1.out.who infoR rfl (all5 _ _ _ _ _) ?_)
  obtain ⟨W2, hW⟩ : ∃ W, W = v1.setRow (w.heap.size + 1 + 1) #[.string n1, .int .u16 k1, .int .u16 c1, .int .u32 t1, .string d1] := ⟨_, rfl⟩
  have HC2 := HE1
  rw [← hW] at HC2 ⊢
  clear hW HD1 HE1
  rw [rounds_succ]
  have x2 : W2.cell? ⟨g, 1, none⟩ = some (.func (.func 67) #[] #[]) := blk_cell HC2.out.fs 1
  go_wp2_with (refine wpList_load_row rfl 46 _ rfl (w.heap.size + 1 + 1) rfl 46 _ _ _ HC2.out.who Tryz.underlying46 rfl infoR ?_)
  refine Calls.mono (H2.out _ HC2.out.bel) ?_
  rintro en v2 ⟨rfl, hb⟩
  have HD2 := Lib.hid (HC2.out.call hb)
  have HE2 := Lib.hid (HD2.out.set_ hlt #[.string n2, .int .u16 k2, .int .u16 c2, .int .u32 t2, .string d2])
  clear hb x2 HC2 H2
  by_cases h0 : e2 = 0
  case neg =>
    have hb : (e2 != 0) = true := by simpa using h0
    have HN := Lib.hid h0
    clear h0
    go_wp2_with (first | (refine wpList_store_row rfl 46 _ _ rfl (w.heap.size + 1 + 1) #[.string n2, .int .u16 k2, .int .u16 c2, .int .u32 t2, .string d2] rfl rfl 46 _ HD2.out.who infoR rfl (all5 _ _ _ _ _) ?_) | (refine wpList_load_row rfl 46 _ rfl (w.heap.size + 1) rfl 46 _ _ _ HE2.out.non Tryz.underlying46 rfl infoR ?_) | (refine wpList_store_row rfl 46 _ _ rfl w.heap.size _ rfl rfl 46 _ HE2.out.res infoR rfl (all5 _ _ _ _ _) ?_))
    refine ret_r3 (g := w.heap.size) rfl rfl rfl rfl rfl (setRow_heap _ _ _ _ _ _ HE2.out.res) ⟨?_, setRow_below HE2.out.bel (Nat.le_refl _) _⟩
    have hn := HN.out
    simp [cmbW, cmbX, cmbE, hn]
  subst h0
  go_wp2_with (refine wpList_store_row rfl 46 _ _ rfl (w.heap.size + 1 + 1) #[.string n2, .int .u16 k2, .int .u16 c2, .int .u32 t2, .string d2] rfl rfl 46 _ HD2.out.who infoR rfl (all5 _ _ _ _ _) ?_)
  obtain ⟨W3, hW⟩ : ∃ W, W = v2.setRow (w.heap.size + 1 + 1) #[.string n2, .int .u16 k2, .int .u16 c2, .int .u32 t2, .string d2] := ⟨_, rfl⟩
  have HC3 := HE2
  rw [← hW] at HC3 ⊢
  clear hW HD2 HE2
  rw [rounds_succ]
  have x3 : W3.cell? ⟨g, 2, none⟩ = some (.func (.func 68) #[] #[]) := blk_cell HC3.out.fs 2
  go_wp2_with (refine wpList_load_row rfl 46 _ rfl (w.heap.size + 1 + 1) rfl 46 _ _ _ HC3.out.who Tryz.underlying46 rfl infoR ?_)
  refine Calls.mono (H3.out _ HC3.out.bel) ?_
  rintro en v3 ⟨rfl, hb⟩
  have HD3 := Lib.hid (HC3.out.call hb)
  have HE3 := Lib.hid (HD3.out.set_ hlt #[.string n3, .int .u16 k3, .int .u16 c3, .int .u32 t3, .string d3])
  clear hb x3 HC3 H3
  by_cases h0 : e3 = 0
  case neg =>
    have hb : (e3 != 0) = true := by simpa using h0
    have HN := Lib.hid h0
    clear h0
    go_wp2_with (first | (refine wpList_store_row rfl 46 _ _ rfl (w.heap.size + 1 + 1) #[.string n3, .int .u16 k3, .int .u16 c3, .int .u32 t3, .string d3] rfl rfl 46 _ HD3.out.who infoR rfl (all5 _ _ _ _ _) ?_) | (refine wpList_load_row rfl 46 _ rfl (w.heap.size + 1) rfl 46 _ _ _ HE3.out.non Tryz.underlying46 rfl infoR ?_) | (refine wpList_store_row rfl 46 _ _ rfl w.heap.size _ rfl rfl 46 _ HE3.out.res infoR rfl (all5 _ _ _ _ _) ?_))
    refine ret_r3 (g := w.heap.size) rfl rfl rfl rfl rfl (setRow_heap _ _ _ _ _ _ HE3.out.res) ⟨?_, setRow_below HE3.out.bel (Nat.le_refl _) _⟩
    have hn := HN.out
    simp [cmbW, cmbX, cmbE, hn]
  subst h0
  go_wp2_with (refine wpList_store_row rfl 46 _ _ rfl (w.heap.size + 1 + 1) #[.string n3, .int .u16 k3, .int .u16 c3, .int .u32 t3, .string d3] rfl rfl 46 _ HD3.out.who infoR rfl (all5 _ _ _ _ _) ?_)
  obtain ⟨W4, hW⟩ : ∃ W, W = v3.setRow (w.heap.size + 1 + 1) #[.string n3, .int .u16 k3, .int .u16 c3, .int .u32 t3, .string d3] := ⟨_, rfl⟩
  have HC4 := HE3
  rw [← hW] at HC4 ⊢
  clear hW HD3 HE3
  rw [rounds_succ]
  go_wp2_with (first | (refine wpList_load_row rfl 46 _ rfl (w.heap.size + 1 + 1) rfl 46 _ _ _ HC4.out.who Tryz.underlying46 rfl infoR ?_) | (refine wpList_store_row rfl 46 _ _ rfl w.heap.size _ rfl rfl 46 _ HC4.out.res infoR rfl (all5 _ _ _ _ _) ?_))
  refine ret_r3 (g := w.heap.size) rfl rfl rfl rfl rfl (setRow_heap _ _ _ _ _ _ HC4.out.res) ⟨?_, setRow_below HC4.out.bel (Nat.le_refl _) _⟩
  simp [cmbW, cmbX, cmbE]
end Go.Proofs.YtnakljbginbenaaGreatDoor

/- The contract of record.TakeQ. -/
namespace Go.Proofs.YtnakljbginbenaaGreatDoor
open Go.RowKit
set_option linter.unusedVariables false

/-- What TakeQ tells. -/
def qR (s : ByteArray) (p : Int) : Rc := match tkQ s p with | some r => r.1 | none => Rc.zero
def qX (s : ByteArray) (p : Int) : Nat := match tkQ s p with | some r => r.2 | none => 0
def qE (s : ByteArray) (p : Int) : Nat := match tkQ s p with | some _ => 0 | none => 2
theorem q_some {s : ByteArray} {p : Int} {r : Rc × Nat} (h : tkQ s p = some r) : qR s p = r.1 ∧ qX s p = r.2 ∧ qE s p = 0 := by unfold qR qX qE; rw [h]; exact ⟨rfl, rfl, rfl⟩
theorem q_none {s : ByteArray} {p : Int} (h : tkQ s p = none) : qR s p = Rc.zero ∧ qX s p = 0 ∧ qE s p = 2 := by unfold qR qX qE; rw [h]; exact ⟨rfl, rfl, rfl⟩
theorem q_cases (s : ByteArray) (p : Int) : (tkQ s p = none ∧ qR s p = Rc.zero ∧ qX s p = 0 ∧ qE s p = 2) ∨ (∃ r, tkQ s p = some r ∧ qR s p = r.1 ∧ qX s p = r.2 ∧ qE s p = 0 ∧ qX s p ≤ s.size) := by
  cases h : tkQ s p with
  | none => exact .inl ⟨rfl, q_none h⟩
  | some r => obtain ⟨a, b, c⟩ := q_some h; exact .inr ⟨r, rfl, a, b, c, by rw [b]; exact (tkQ_is h).2.2.2.1⟩
theorem qR_ok (s : ByteArray) (p : Int) : (qR s p).Ok := by
  rcases q_cases s p with ⟨_, h, _⟩ | ⟨r, h, h1, _⟩
  · rw [h]; exact Rc.zero_ok
  · rw [h1]; exact (tkQ_is h).1
theorem qX_le (s : ByteArray) (p : Int) : qX s p ≤ s.size := by
  rcases q_cases s p with ⟨_, _, h, _⟩ | ⟨r, _, _, _, _, h⟩
  · omega
  · exact h
/-- The values of a question and of a record. -/
def qV (r : Rc) : Array Value := #[.string r.n, .int .u16 (r.k : Nat), .int .u16 (r.c : Nat)]
def rV (r : Rc) : Array Value := #[.string r.n, .int .u16 (r.k : Nat), .int .u16 (r.c : Nat), .int .u32 (r.t : Nat), .string r.d]

theorem tkX_le (s : ByteArray) (p : Int) : tkX s p ≤ s.size := by
  rcases tk_cases s p with ⟨_, _, h⟩ | ⟨_, _, _, h⟩
  · omega
  · exact h
theorem se_nat (s : ByteArray) (p m : Nat) : Oc.se s p m = if p + m ≤ s.size then 0 else 2 := by
  unfold Oc.se
  by_cases h : p + m ≤ s.size
  · have hok : Oc.okS s p m := ⟨by omega, by omega, by omega⟩
    rw [if_pos hok, if_pos h]
  · have hok : ¬ Oc.okS s p m := fun x => h (by have := x.2.2; omega)
    rw [if_neg hok, if_neg h]
theorem so_nat {s : ByteArray} {p m : Nat} (h : p + m ≤ s.size) : Oc.so s p m = (p + m : Nat) := by
  unfold Oc.so
  have hok : Oc.okS s p m := ⟨by omega, by omega, by omega⟩
  rw [if_pos hok]
  omega
/-- The program's parts of a question are the document's. -/
theorem q_parts (s : ByteArray) (p : Int) :
    cmbW (tkE s p : Nat) (Oc.se s (tkX s p : Nat) 2) (Oc.se s (Oc.so s (tkX s p : Nat) 2) 2) (.agg #[.string ⟨#[]⟩, .int .u16 0, .int .u16 0]) (.agg #[.string (tkS s p), .int .u16 (Oc.un s (tkX s p : Nat) 2), .int .u16 (Oc.un s (Oc.so s (tkX s p : Nat) 2) 2)]) = .agg #[.string (qR s p).n, .int .u16 ((qR s p).k : Nat), .int .u16 ((qR s p).c : Nat)] ∧
    cmbX (tkE s p : Nat) (Oc.se s (tkX s p : Nat) 2) (Oc.se s (Oc.so s (tkX s p : Nat) 2) 2) (Oc.so s (Oc.so s (tkX s p : Nat) 2) 2) = (qX s p : Nat) ∧
    cmbE (tkE s p : Nat) (Oc.se s (tkX s p : Nat) 2) (Oc.se s (Oc.so s (tkX s p : Nat) 2) 2) = (qE s p : Nat) := by
  have h2 : ((2 : Nat) : Int) = 2 := rfl
  cases hN : tkN s p with
  | none =>
    have hq : tkQ s p = none := by
      unfold tkQ
      by_cases h0 : 0 ≤ p
      · unfold tkN at hN
        rw [if_pos h0] at hN
        rw [if_pos h0]
        unfold nm1
        rw [hN]
        rfl
      · rw [if_neg h0]
    have hE : tkE s p = 2 := by unfold tkE; rw [hN]
    obtain ⟨a, b, c⟩ := q_none hq
    rw [a, b, c, hE]
    exact ⟨rfl, rfl, rfl⟩
  | some r =>
    have h0 : 0 ≤ p := by
      rcases Int.lt_or_le p 0 with h | h
      · unfold tkN at hN; rw [if_neg (by omega)] at hN; cases hN
      · exact h
    have hE : tkE s p = 0 := by unfold tkE; rw [hN]
    have hX : tkX s p = r.2 := by unfold tkX; rw [hN]
    have hS : tkS s p = ⟨(r.1.map low).toArray⟩ := by unfold tkS; rw [hN]
    have hnm : nm1 s p.toNat = some (r.1.map low, r.2) := by
      unfold tkN at hN
      rw [if_pos h0] at hN
      unfold nm1
      rw [hN]
      rfl
    have hle := (nm1_is hnm).2.2.1
    simp only at hle
    rw [hE, hX, hS, ← h2, se_nat]
    by_cases c1 : r.2 + 2 ≤ s.size
    · rw [so_nat c1, se_nat, if_pos c1]
      by_cases c2 : r.2 + 2 + 2 ≤ s.size
      · have hq : tkQ s p = some (⟨⟨(r.1.map low).toArray⟩, g16 s r.2, g16 s (r.2 + 2), 0, ⟨#[]⟩⟩, r.2 + 4) := by
          unfold tkQ
          rw [if_pos h0, hnm]
          simp only [Option.bind_some]
          rw [if_pos (by omega)]
        obtain ⟨a, b, c⟩ := q_some hq
        rw [a, b, c, if_pos c2, so_nat c2, h2, un16 c1, un16 c2]
        exact ⟨rfl, rfl, rfl⟩
      · have hq : tkQ s p = none := by
          unfold tkQ
          rw [if_pos h0, hnm]
          simp only [Option.bind_some]
          rw [if_neg (by omega)]
        obtain ⟨a, b, c⟩ := q_none hq
        rw [a, b, c, if_neg c2]
        exact ⟨rfl, rfl, rfl⟩
    · have hq : tkQ s p = none := by
        unfold tkQ
        rw [if_pos h0, hnm]
        simp only [Option.bind_some]
        rw [if_neg (by omega)]
      obtain ⟨a, b, c⟩ := q_none hq
      rw [a, b, c, if_neg c1]
      refine ⟨?_, ?_, ?_⟩
      · unfold cmbW
        rw [if_neg (fun x => by have := x.2.1; omega)]
        rfl
      · unfold cmbX
        rw [if_neg (fun x => by have := x.2.1; omega)]
        rfl
      · rfl

set_option maxRecDepth 100000 in
set_option maxHeartbeats 1000000 in
theorem takeq_any (s : ByteArray) (p : Int) (hs : s.size ≤ 1073741824) (hp : p ≤ maxLen) (w : World) :
    Calls Tryz.prog 37 #[.string s, .int .i64 p] w fun en w' => en = .returned (.tuple #[.agg #[.string (qR s p).n, .int .u16 ((qR s p).k : Nat), .int .u16 ((qR s p).c : Nat)], .int .i64 (qX s p : Nat), .int .i64 (qE s p : Nat)]) ∧ Below w.heap.size w w' := by
  have hs' : s.size ≤ maxLen := by unfold maxLen; omega
  have hx1 : ((tkX s p : Nat) : Int) ≤ maxLen := by have := tkX_le s p; unfold maxLen at *; omega
  have hx2 := Oc.so_le s (tkX s p : Nat) 2 hs'
  obtain ⟨a1, a2, a3⟩ := q_parts s p
  have hc := fun (g : Nat) (w' : World) hg => combineq_any s p (tkX s p : Nat) (Oc.so s (tkX s p : Nat) 2) (Oc.so s (Oc.so s (tkX s p : Nat) 2) 2) (tkE s p : Nat) (Oc.se s (tkX s p : Nat) 2) (Oc.se s (Oc.so s (tkX s p : Nat) 2) 2) (tkS s p) (tkS s p) (tkS s p) 0 (Oc.un s (tkX s p : Nat) 2) (Oc.un s (tkX s p : Nat) 2) 0 0 (Oc.un s (Oc.so s (tkX s p : Nat) 2) 2) g w'
    (fun w'' _ => takename_any _ _ _ _ _ (by omega) hp w'') (fun w'' _ => taketype_any _ _ _ _ _ hs' hx1 w'') (fun w'' _ => takeclass_any _ _ _ _ _ hs' hx2 w'') hg
  rw [a1, a2, a3] at hc
  generalize (qR s p).n = N at hc ⊢
  generalize (qR s p).k = K at hc ⊢
  generalize (qR s p).c = C at hc ⊢
  generalize qX s p = X at hc ⊢
  generalize qE s p = E at hc ⊢
  have HK := Lib.hid hc
  clear hc a1 a2 a3 hx1 hx2
  have HF := Lib.hid (heap_alloc2_new w (Obj.cells #[.string ⟨#[]⟩, .int .u16 0, .int .u16 0] 48) (Obj.cells #[.func (.func 62) #[] #[], .func (.func 63) #[] #[], .func (.func 64) #[] #[]] 101))
  have HN := Lib.hid (show ((w.alloc (Obj.cells #[.string ⟨#[]⟩, .int .u16 0, .int .u16 0] 48)).alloc (Obj.cells #[.func (.func 62) #[] #[], .func (.func 63) #[] #[], .func (.func 64) #[] #[]] 101)).heap[w.heap.size]? = some (.cells #[.string ⟨#[]⟩, .int .u16 0, .int .u16 0] 48 (0, 0)) by rw [heapOld _ (by simp)]; exact World.alloc_heap_new w _)
  have HB := Lib.hid (((Below.refl w.heap.size w).alloc (Nat.le_refl _) (Obj.cells #[.string ⟨#[]⟩, .int .u16 0, .int .u16 0] 48)).alloc (by simp) (Obj.cells #[.func (.func 62) #[] #[], .func (.func 63) #[] #[], .func (.func 64) #[] #[]] 101))
  go_enter Tryz.func37, Tryz.ntmps37
  go_wp2_with fail
  refine (HK.out _ _ HF.out).mono ?_
  rintro en w1 ⟨rfl, hb1⟩
  have HN1 := Lib.hid ((hb1.block w.heap.size (by simp; omega)).trans HN.out)
  have HB1 := Lib.hid (HB.out.trans (hb1.mono HB.out.size))
  clear hb1 HN HB HF HK
  go_wp2_with (refine wpList_store_row rfl 48 _ _ rfl w.heap.size _ rfl rfl 48 _ HN1.out infoQ rfl (all3 _ _ _) ?_)
  exact ret_q3 (g := w.heap.size) rfl rfl rfl rfl rfl (setRow_heap _ _ _ _ _ _ HN1.out) ⟨rfl, setRow_below HB1.out (Nat.le_refl _) _⟩
end Go.Proofs.YtnakljbginbenaaGreatDoor
