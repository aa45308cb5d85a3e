/- The contract of rdata.Put. -/
import Derived.Test.YtlphbeaaeeohjaaDoorRmt
import Derived.Test.YtlphbeaaeeohjaaDoorWst
namespace Go.Proofs.YtlphbeaaeeohjaaDoor
open Go.RowKit
set_option linter.unusedVariables false

theorem Pcs.kp {B : Nat} {v : Value} {L : List (ByteArray × Bool)} {w w' : World} (h : Pcs B v L w) (hk : Kp w w') : Pcs B v L w' := by
  refine ⟨h.1, ?_⟩
  rcases h.2 with hn | ⟨g, cap, cur, rfl, hb, hgg, rest⟩
  · exact .inl hn
  · exact .inr ⟨g, cap, cur, rfl, hb, hk g cur 120 (0, 0) (by decide) (by decide) hgg, rest⟩
/-- What the pieces make of a pack. -/
def putP (S : List UInt8) (L : Kn) : List (ByteArray × Bool) → List UInt8 × Kn
  | [] => (S, L)
  | x :: r => if x.2 = true then putP (stp S L x.1).1 (stp S L x.1).2 r else putP (S ++ x.1.data.toList) L r
theorem putP_snoc : ∀ (l : List (ByteArray × Bool)) (S : List UInt8) (L : Kn) (x : ByteArray × Bool), putP S L (l ++ [x]) = if x.2 = true then stp (putP S L l).1 (putP S L l).2 x.1 else ((putP S L l).1 ++ x.1.data.toList, (putP S L l).2)
  | [], S, L, x => by simp [putP]
  | y :: l, S, L, x => by
    rw [List.cons_append, putP, putP]
    split
    · rename_i h; exact putP_snoc l _ _ x
    · rename_i h; exact putP_snoc l _ _ x
theorem putP_take {l : List (ByteArray × Bool)} {j : Nat} (hj : j < l.length) (S : List UInt8) (L : Kn) : putP S L (l.take (j + 1)) = if l[j].2 = true then stp (putP S L (l.take j)).1 (putP S L (l.take j)).2 l[j].1 else ((putP S L (l.take j)).1 ++ l[j].1.data.toList, (putP S L (l.take j)).2) := by
  rw [List.take_succ_eq_append_getElem hj, putP_snoc]
def ptS (S : List UInt8) (L : Kn) (k : Nat) (d : ByteArray) : List UInt8 × Kn := match pcs k d with | some l => putP S L l | none => (S, L)
def ptE (k : Nat) (d : ByteArray) : Int := if (pcs k d).isSome = true then 0 else 1

set_option maxRecDepth 100000 in
set_option maxHeartbeats 1000000 in
theorem rput_any (B b : Nat) (S : List UInt8) (L : Kn) (k : Nat) (d : ByteArray) (hd : d.size ≤ 1048576) (hS : S.length ≤ 1073741824) (hk : k < 65536) (w : World) (hL : Lay w) (h : St B b S L w) (hB : B ≤ w.heap.size) :
    Calls Tryd.prog 52 #[.pointer (some ⟨b, 0, none⟩), .int .u16 (k : Nat), .string d] w fun en w' => en = .returned (.int .i64 (ptE k d)) ∧ St B b (ptS S L k d).1 (ptS S L k d).2 w' ∧ Below B w w' ∧ Kp w w' := by
  have HL := Lib.hid hL
  have HSt := Lib.hid h
  clear hL h
  go_enter Tryd.func52, Tryd.ntmps52
  go_wp2_with fail
  refine (pieces_any k d (by omega) hk _ HL.out).mono ?_
  rintro en w1 ⟨⟨v, rfl, hv0, hv⟩, hb1⟩
  cases hp : pcs k d with
  | none =>
    have HR := Lib.hid (show ptE k d = 1 ∧ ptS S L k d = (S, L) by unfold ptE ptS; rw [hp]; exact ⟨rfl, rfl⟩)
    have HB1 := Lib.hid hb1
    have HSt1 := Lib.hid (HSt.out.below hb1)
    clear hv0 hv hp hb1
    go_wp2_with fail
    go_ret
    exact ⟨by rw [HR.out.1]; rfl, by rw [HR.out.2]; exact HSt1.out, HB1.out.mono hB, Kp.below HB1.out⟩
  | some l =>
    have hP := hv l hp
    obtain ⟨A, cap, rfl⟩ := hP.form
    obtain ⟨hl3, hcat⟩ := pcs_size hp
    have hcs : (cat l).length ≤ 1048576 := by rw [hcat, ba_len]; exact hd
    have HR := Lib.hid (show ptE k d = 0 ∧ ptS S L k d = putP S L l by unfold ptE ptS; rw [hp]; exact ⟨rfl, rfl⟩)
    have HP := Lib.hid hP
    have HB1 := Lib.hid hb1
    have HSt1 := Lib.hid (HSt.out.below hb1)
    have HCs := Lib.hid (And.intro hcs (show l.length ≤ 3 by omega))
    clear hv0 hv hp hP hb1 hcat hl3 hcs HSt
    have hl3 := HCs.out.2
    go_wp2_with fail
    go_loopw [25] (fun i wr => ∃ j : Nat, j ≤ l.length ∧ i = .int .i64 j ∧ St B b (putP S L (l.take j)).1 (putP S L (l.take j)).2 wr ∧ (putP S L (l.take j)).1.length ≤ S.length + (cat (l.take j)).length ∧ Below B w wr ∧ Kp w wr ∧ Pcs w.heap.size (.slice A l.length cap) l wr ∧ w.heap.size ≤ wr.heap.size) (fun i _ => l.length - (intOf i).toNat)
    case atStart => exact ⟨0, Nat.zero_le _, rfl, HSt1.out, by simp [putP], HB1.out.mono hB, Kp.below HB1.out, HP.out, HB1.out.size⟩
    case round =>
      obtain ⟨j, hj, rfl, hst, hlen, hbel, hkp, hpc, hws⟩ := hrel
      by_cases hlt : j < l.length
      · obtain ⟨b', off, hA, hc0, hc1, hcs⟩ := hpc.parts.cells (Below.refl _ wr) j hlt
        subst hA
        have hle := cat_le l (j + 1)
        have hct := cat_take l j hlt
        rw [hct, List.length_append, ba_len] at hle
        have hpt := putP_take hlt S L
        have hxs : l[j].1.size ≤ 1048576 := by have := HCs.out.1; omega
        have hl0 : (putP S L (l.take j)).1.length ≤ 1073741824 + 1048576 := by have := HCs.out.1; omega
        have HAll := Lib.hid (And.intro hst (And.intro hbel (And.intro hkp (And.intro hpc hws))))
        have HLn := Lib.hid hlen
        have HCt := Lib.hid hct
        clear hct hst hbel hkp hpc hws hlen hle hcs
        cases hY : l[j].2 with
        | true =>
          rw [hY] at hc1 hpt
          rw [if_pos rfl] at hpt
          have HPt := Lib.hid hpt
          clear hpt hY
          generalize l[j].1 = X at *
          go_wp2_with fail
          refine (name_step B b (putP S L (l.take j)).1 (putP S L (l.take j)).2 X _ (HAll.out.1.below ((Below.refl _ wr).alloc (Nat.le_refl _) _)) (by have h1 := HAll.out.2.1.size; have := HAll.out.2.2.2.2; simp; omega) (by omega) (by omega)).mono ?_
          rintro en w2 ⟨rfl, hs2, hb2, hk2⟩
          have hal := (Below.refl wr.heap.size wr).alloc (Nat.le_refl _) (Obj.cells #[Value.string X, Value.bool true] 120)
          have HAll2 := Lib.hid (And.intro hs2 (And.intro ((HAll.out.2.1.alloc (by have := HAll.out.2.2.2.2; omega) _).trans hb2) (And.intro ((HAll.out.2.2.1.trans (Kp.below hal)).trans hk2) (And.intro ((HAll.out.2.2.2.1.below hal).kp hk2) (show w.heap.size ≤ w2.heap.size by have h1 := hb2.size; have h2 := HAll.out.2.2.2.2; simp at h1; omega)))))
          have hgr : (stp (putP S L (l.take j)).1 (putP S L (l.take j)).2 X).1.length ≤ (putP S L (l.take j)).1.length + X.size := by
            obtain ⟨Y, h1, h2, _⟩ := (stepped HAll.out.1.good X).1.app
            rw [h1, List.length_append]; omega
          have HGr := Lib.hid hgr
          clear hs2 hb2 hk2 hal hgr
          generalize stE X = E0
          go_wp2_with fail
          go_roundw
          case rel => exact ⟨j + 1, hlt, by go_num, by rw [HPt.out]; exact HAll2.out.1, by rw [HPt.out, HCt.out, List.length_append, ba_len]; have h1 := HGr.out; have h2 := HLn.out; omega, HAll2.out.2.1, HAll2.out.2.2.1, HAll2.out.2.2.2.1, HAll2.out.2.2.2.2⟩
          case measure => simp [intOf]; omega
        | false =>
          rw [hY] at hc1 hpt
          rw [if_neg (by decide)] at hpt
          have HPt := Lib.hid hpt
          clear hpt hY
          generalize l[j].1 = X at *
          go_wp2_with fail
          refine (add_step B b (putP S L (l.take j)).1 (putP S L (l.take j)).2 X _ (HAll.out.1.below ((Below.refl _ wr).alloc (Nat.le_refl _) _)) (by omega) (by have h1 := HAll.out.2.1.size; have := HAll.out.2.2.2.2; simp; omega)).mono ?_
          rintro en w2 ⟨rfl, hs2, hb2, hk2⟩
          have hal := (Below.refl wr.heap.size wr).alloc (Nat.le_refl _) (Obj.cells #[Value.string X, Value.bool false] 120)
          have HAll2 := Lib.hid (And.intro hs2 (And.intro ((HAll.out.2.1.alloc (by have := HAll.out.2.2.2.2; omega) _).trans hb2) (And.intro ((HAll.out.2.2.1.trans (Kp.below hal)).trans hk2) (And.intro ((HAll.out.2.2.2.1.below hal).kp hk2) (show w.heap.size ≤ w2.heap.size by have h1 := hb2.size; have h2 := HAll.out.2.2.2.2; simp at h1; omega)))))
          clear hs2 hb2 hk2 hal
          go_wp2_with fail
          go_roundw
          case rel => exact ⟨j + 1, hlt, by go_num, by rw [HPt.out]; exact HAll2.out.1, by rw [HPt.out, HCt.out, List.length_append, List.length_append]; have h2 := HLn.out; omega, HAll2.out.2.1, HAll2.out.2.2.1, HAll2.out.2.2.2.1, HAll2.out.2.2.2.2⟩
          case measure => simp [intOf]; omega
      · have hall : l.take j = l := List.take_of_length_le (by omega)
        rw [hall] at hst
        have HF := Lib.hid (And.intro hst (And.intro hbel hkp))
        clear hst hbel hkp hpc hall hlen hws
        go_wp2_with fail
        go_ret
        exact ⟨by rw [HR.out.1]; rfl, by rw [HR.out.2]; exact HF.out.1, HF.out.2.1, HF.out.2.2⟩

set_option maxHeartbeats 1000000 in
theorem rput_nil (k : Nat) (d : ByteArray) (hd : d.size ≤ 1048576) (hk : k < 65536) (w : World) (hL : Lay w) :
    Calls Tryd.prog 52 #[.pointer none, .int .u16 (k : Nat), .string d] w fun en w' => en = .returned (.int .i64 1) ∧ Below w.heap.size w w' := by
  have HL := Lib.hid hL
  clear hL
  go_enter Tryd.func52, Tryd.ntmps52
  go_wp2_with fail
  refine (pieces_any k d (by omega) hk _ HL.out).mono ?_
  rintro en w1 ⟨⟨v, rfl, hv0, hv⟩, hb1⟩
  generalize (pcs k d).isSome = Q
  clear hv0 hv
  go_wp2_with fail
  go_ret
  exact ⟨rfl, hb1⟩
end Go.Proofs.YtlphbeaaeeohjaaDoor
