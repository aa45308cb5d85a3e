/- What the laws of slots have in common: who is touched, who is told; the slots behind some looks. -/
import Derived.Test.YtpoienhmnaeaiaaSon
namespace Go.Proofs.Ytpoienhmnaeaiaa
open Go.RowKit
set_option linter.unusedVariables false

/-- All but one are untouched. -/
def But (M : Ms) (i : Nat) : Prop := ∀ j, j < M.c.length → us M.c j = true → ts M.c j = true → j = i
theorem still_but {M : Ms} (h : Still M) {i : Nat} : But M i := fun j hj hu ht => absurd (h.at hj hu) (by rw [ht]; decide)
theorem tou_len (M : Ms) (i : Int) : (touM M i).c.length = M.c.length := touM_len M i
theorem tou_us {M : Ms} {i : Nat} (h : hasM M i = true) (j : Nat) : us (touM M i).c j = us M.c j := by
  obtain ⟨k, hk, hl, hu⟩ := has_of h
  obtain rfl : i = k := by omega
  unfold touM
  rw [h]
  simp only [if_true, upd, Int.toNat_natCast]
  unfold us at hu ⊢
  rw [getD_set _ _ _ _ hl]
  split
  · subst_vars; exact hu.symm
  · rfl
theorem tou_ts {M : Ms} {i : Nat} (h : hasM M i = true) (j : Nat) (hj : j ≠ i) : ts (touM M i).c j = ts M.c j := by
  obtain ⟨k, hk, hl, hu⟩ := has_of h
  obtain rfl : i = k := by omega
  unfold touM
  rw [h]
  simp only [if_true, upd, Int.toNat_natCast]
  unfold ts
  rw [getD_set _ _ _ _ hl, if_neg (Ne.symm hj)]
theorem but_tou {M : Ms} {i : Nat} (h : hasM M i = true) (hb : But M i) : But (touM M i) i := fun j hj hu ht => by
  by_cases e : j = i
  · exact e
  · rw [tou_len] at hj
    rw [tou_us h] at hu
    rw [tou_ts h j e] at ht
    exact hb j hj hu ht
theorem but_vic {M : Ms} (hok : M.Ok) {i : Nat} (hb : But M i) : But (vicM M).1 i := fun j hj hu ht => by
  rw [vicM_len hok] at hj
  rw [vicM_us hok] at hu
  exact hb j hj hu (vicM_ts hok j ht)
theorem has_vic {M : Ms} (hok : M.Ok) {i : Nat} (h : hasM M i = true) : hasM (vicM M).1 i = true := by
  obtain ⟨k, hk, hl, hu⟩ := has_of h
  obtain rfl : i = k := by omega
  rw [has_nat (by rw [vicM_len hok]; exact hl), vicM_us hok]
  exact hu
/-- Another one is there. -/
def Two2 (M : Ms) (i : Nat) : Prop := ∃ j, j < M.c.length ∧ us M.c j = true ∧ j ≠ i
theorem two_all {M : Ms} (h : 2 ≤ (allM M).length) (i : Nat) : Two2 M i := by
  have hn : (allM M).Nodup := List.Pairwise.filter _ List.nodup_range
  match hl : allM M, h, hn with
  | a :: b :: t, _, hn =>
    have ha := all_mem.1 (show a ∈ allM M by rw [hl]; simp)
    have hb := all_mem.1 (show b ∈ allM M by rw [hl]; simp)
    have hne : a ≠ b := by
      intro e
      subst e
      simp at hn
    by_cases e : a = i
    · exact ⟨b, hb.1, hb.2, by omega⟩
    · exact ⟨a, ha.1, ha.2, e⟩
theorem two_vic {M : Ms} (hok : M.Ok) {i : Nat} (h : Two2 M i) : Two2 (vicM M).1 i := by
  obtain ⟨j, h1, h2, h3⟩ := h
  exact ⟨j, by rw [vicM_len hok]; exact h1, by rw [vicM_us hok]; exact h2, h3⟩
theorem two_tou {M : Ms} {i : Nat} (hh : hasM M i = true) (h : Two2 M i) : Two2 (touM M i) i := by
  obtain ⟨j, h1, h2, h3⟩ := h
  exact ⟨j, by rw [tou_len]; exact h1, by rw [tou_us hh]; exact h2, h3⟩
/-- Who is told is not the one that is touched. -/
theorem vic_other {M : Ms} (hok : M.Ok) {i : Nat} (hh : hasM (touM M i) i = true) (hhM : hasM M i = true) (hb : But (touM M i) i) (h2 : Two2 (touM M i) i) : ∃ v : Nat, (vicM (touM M i)).2 = some v ∧ v ≠ i := by
  obtain ⟨j, h1, hu, hne⟩ := h2
  have hok2 := touM_ok hok i
  have ht : ts (touM M i).c j = false := by
    cases e : ts (touM M i).c j with
    | false => rfl
    | true => exact absurd (hb j h1 hu e) hne
  obtain ⟨v, hv, g1, g2, g3⟩ := vic_free hok2 h1 hu ht
  refine ⟨v, hv, fun e => ?_⟩
  subst e
  obtain ⟨k, hk, hl, _⟩ := has_of hhM
  obtain rfl : v = k := by omega
  have : ts (touM M v).c v = true := by
    unfold touM
    rw [hhM]
    simp only [if_true, upd, Int.toNat_natCast]
    unfold ts
    rw [getD_set _ _ _ _ hl, if_pos rfl]
  rw [this] at g3
  cases g3
theorem has_tou {M : Ms} {i : Nat} (h : hasM M i = true) : hasM (touM M i) i = true := by
  obtain ⟨k, hk, hl, hu⟩ := has_of h
  obtain rfl : i = k := by omega
  rw [has_nat (by rw [tou_len]; exact hl), tou_us h]
  exact hu
/-- The deeds of the law, at a world: the slots, behind so many looks. -/
structure Go1 (g b B0 : Nat) (w0 wr : World) (M : Ms) : Prop where
  sp : Sp wr g b M
  bl : Below B0 w0 wr
  b0 : B0 ≤ b
theorem Go1.fp {g b B0 : Nat} {w0 wr w' : World} {M M' : Ms} (h : Go1 g b B0 w0 wr M) (hs : Sp w' g b M') (hf : Fp g b wr w') : Go1 g b B0 w0 w' M' := ⟨hs, h.bl.trans (hf.below.mono h.b0), h.b0⟩
theorem Go1.bel {g b B0 : Nat} {w0 wr w' : World} {M : Ms} (h : Go1 g b B0 w0 wr M) (hb : Below wr.heap.size wr w') : Go1 g b B0 w0 w' M := ⟨h.sp.keep hb, h.bl.trans (hb.mono (by have := h.sp.bb.lt; have := h.b0; omega)), h.b0⟩
theorem vic_len_all {M : Ms} (hok : M.Ok) : (allM (vicM M).1).length = (allM M).length := by rw [vicM_all hok]

theorem Ds.below {w w' : World} {A : Option Addr} {cap : Nat} {l : List De} (h : Ds w A cap l) (hb : Below w.heap.size w w') : Ds w' A cap l := ⟨fun j hj => by
  obtain ⟨b, off, h1, h2, h3, h4, h5⟩ := h.has j hj
  exact ⟨b, off, h1, Nat.lt_of_lt_of_le h2 hb.size, (hb.cell (p := ⟨b, off + j * 3, none⟩) h2).trans h3, (hb.cell (p := ⟨b, off + j * 3 + 1, none⟩) h2).trans h4, (hb.cell (p := ⟨b, off + j * 3 + 2, none⟩) h2).trans h5⟩⟩
theorem go1_of {g b : Nat} {w w0 w1 : World} {M : Ms} (hb0 : Below w.heap.size w w0) (hs : Sp w1 g b M) (hb : w0.heap.size ≤ b) (hb1 : Below w0.heap.size w0 w1) : Go1 g b w.heap.size w w1 M :=
  ⟨hs, hb0.trans (hb1.mono hb0.size), Nat.le_trans hb0.size hb⟩
theorem vicI_of {M : Ms} {v : Nat} (h : (vicM M).2 = some v) : vicI M = v := by unfold vicI; rw [h]
theorem vicB_of {M : Ms} {v : Nat} (h : (vicM M).2 = some v) : vicB M = true := by unfold vicB; rw [h]; rfl
end Go.Proofs.Ytpoienhmnaeaiaa
