/- The contracts of name.May, Depth and Parent. -/
import Derived.Test.YtlphbeaaeeohjaaDoorNmf
import Derived.Test.YtlphbeaaeeohjaaDoorNmc
import Derived.Test.YtlphbeaaeeohjaaDoorNmm
namespace Go.Proofs.YtlphbeaaeeohjaaDoor
open Go.RowKit
set_option linter.unusedVariables false

/-- Is a string a name? -/
def mayB (s : ByteArray) : Bool := cerr s == 0 && (foldB s).toList == s.toList
theorem bthen {a b c : World} (h : Below a.heap.size a b) (k : Below b.heap.size b c) : Below a.heap.size a c := h.trans (k.mono h.size)
theorem balloc {a b : World} (h : Below a.heap.size a b) (o : Obj) : Below a.heap.size a (b.alloc o) := h.alloc h.size o
theorem ret_bool {a b : Bool} (h : a = b) : Ending.returned (.bool a) = .returned (.bool b) := by rw [h]

set_option maxHeartbeats 400000 in
theorem may_any (s : ByteArray) (hs : s.size ≤ 140737488355328) (w : World) :
    Calls Tryd.prog 40 #[.string s] w fun e w' => e = .returned (.bool (mayB s)) ∧ Below w.heap.size w w' := by
  go_enter Tryd.func40, Tryd.ntmps40
  go_wp2_with fail
  refine (count_any s hs _).mono ?_; rintro e w1 ⟨rfl, hb1⟩
  by_cases hz : cerr s = 0
  · have hm : mayB s = ((foldB s).toList == s.toList) := by simp [mayB, hz]
    have HM := Lib.hid hm
    have hz1 : ((cerr s : Nat) : Int) = 0 := by omega
    clear hm hz
    rw [hz1]
    clear hz1
    go_wp2_with fail
    refine (fold_any s hs _).mono ?_; rintro e w2 ⟨rfl, hb2⟩
    go_wp2_with fail
    go_ret
    exact ⟨ret_bool HM.out.symm, bthen hb1 hb2⟩
  · have hm : mayB s = false := by simp [mayB, hz]
    have HM := Lib.hid hm
    have hz1 : (((cerr s : Nat) : Int) == 0) = false := by simpa using hz
    clear hm hz
    go_wp2_with fail
    go_ret
    exact ⟨ret_bool HM.out.symm, hb1⟩

/-- How many labels a name has; else -1. -/
def depthB (s : ByteArray) : Int := if mayB s = true then (cnt s : Nat) else -1
/-- A name without its first label. -/
def parB (s : ByteArray) : Bool := mayB s && !(s.toList == [0])
def parS (s : ByteArray) : ByteArray := if parB s = true then s.extract (nxt s 0) s.size else ⟨#[]⟩
theorem may_first {s : ByteArray} (h : parB s = true) : 0 < s.size ∧ nxt s 0 ≤ s.size := by
  unfold parB mayB at h
  simp only [Bool.and_eq_true, beq_iff_eq, Bool.not_eq_true', beq_eq_false_iff_ne] at h
  obtain ⟨⟨h1, _⟩, h2⟩ := h
  have hz : endZ s = true := by
    cases hz : endZ s with
    | true => rfl
    | false => rw [(cnt_form hz).2] at h1; omega
  have hw := endZ_wire hz
  by_cases hl : isL s 0 = true
  · have := isL_iff.1 hl; omega
  · have e := (endZ_iff s).1 hz
    rw [endFrom_nil hl, List.drop_zero, ← ByteArray.toList_eq] at e
    exact (h2 e).elim
set_option maxHeartbeats 400000 in
theorem parent_any (s : ByteArray) (hs : s.size ≤ 140737488355328) (w : World) :
    Calls Tryd.prog 73 #[.string s] w fun e w' => e = .returned (.tuple #[.string (parS s), .bool (parB s)]) ∧ Below w.heap.size w w' := by
  cases h0 : (s.toList == [0]) with
  | true =>
    have hp : parB s = false := by simp [parB, h0]
    have hS : parS s = ⟨#[]⟩ := by simp [parS, hp]
    have HP := Lib.hid hp
    have HS := Lib.hid hS
    clear hp hS
    go_enter Tryd.func73, Tryd.ntmps73
    go_wp2_with fail
    go_ret2
    exact ⟨by rw [HP.out, HS.out]; rfl, Below.refl _ _⟩
  | false =>
    go_enter Tryd.func73, Tryd.ntmps73
    go_wp2_with fail
    refine (may_any s hs _).mono ?_; rintro e w1 ⟨rfl, hb1⟩
    cases hm : mayB s with
    | false =>
      have hp : parB s = false := by simp [parB, hm]
      have hS : parS s = ⟨#[]⟩ := by simp [parS, hp]
      have HP := Lib.hid hp
      have HS := Lib.hid hS
      clear hp hS hm
      go_wp2_with fail
      go_ret2
      exact ⟨by rw [HP.out, HS.out]; rfl, hb1⟩
    | true =>
      have hp : parB s = true := by simp [parB, hm, h0]
      have hS : parS s = s.extract (nxt s 0) s.size := by simp [parS, hp]
      obtain ⟨hz, hn⟩ := may_first hp
      have h8 : s[0].toNat ≤ 255 := by have := s[0].toNat_lt; omega
      have e1 : nxt s 0 = 1 + s[0].toNat := by unfold nxt; rw [lsz_eq hz]
      rw [e1] at hS hn
      have hsl := slice_from s (1 + s[0].toNat) hn w1
      rw [show ((1 + s[0].toNat : Nat) : Int) = 1 + (s[0].toNat : Int) by omega] at hsl
      have HP := Lib.hid hp
      have HS := Lib.hid hS
      clear hp hS hm e1
      go_wp2_with fail
      go_ret2
      exact ⟨by rw [HP.out, HS.out]; rfl, hb1⟩
end Go.Proofs.YtlphbeaaeeohjaaDoor
