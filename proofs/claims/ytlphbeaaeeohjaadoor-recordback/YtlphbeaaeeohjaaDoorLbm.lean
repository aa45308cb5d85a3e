/- Plain mathematics of RecordBack: what a pack holds behind each record, and that each is taken where it was put. -/
import Derived.Test.YtlphbeaaeeohjaaDoorRqs
import Derived.Test.YtlphbeaaeeohjaaDoorLrr
namespace Go.Proofs.YtlphbeaaeeohjaaDoor
open Go.RowKit
set_option linter.unusedVariables false

theorem pq_app {S : List UInt8} {L : Kn} (hG : Good S L) (r : Rc) : (∃ X, (pqS S L r).1 = S ++ X ∧ X.length ≤ 259) ∧ Good (pqS S L r).1 (pqS S L r).2 := by
  unfold pqS
  split
  · rename_i h; exact putQ_good hG h
  · exact ⟨⟨[], by simp, by simp⟩, hG⟩
theorem pr_app {S : List UInt8} {L : Kn} (hG : Good S L) (r : Rc) : (∃ X, (prS S L r).1 = S ++ X ∧ X.length ≤ 265 + r.d.size) ∧ Good (prS S L r).1 (prS S L r).2 := by
  unfold prS
  split
  · rename_i h; exact putR_good hG h
  · exact ⟨⟨[], by simp, by simp⟩, hG⟩
/-- Behind a question, if one is asked; behind a record. -/
def bmid (X : List UInt8 × Kn) (r : Rc) (k : Bool) : List UInt8 × Kn := if k = true then pqS X.1 X.2 r else X
def bst (R : Nat → Rc) (K : Nat → Bool) : Nat → List UInt8 × Kn
  | 0 => ([], [])
  | j + 1 => prS (bmid (bst R K j) (R j) (K j)).1 (bmid (bst R K j) (R j) (K j)).2 (R j)
theorem bmid_app {X : List UInt8 × Kn} (hG : Good X.1 X.2) (r : Rc) (k : Bool) : (∃ Y, (bmid X r k).1 = X.1 ++ Y ∧ Y.length ≤ 259) ∧ Good (bmid X r k).1 (bmid X r k).2 := by
  unfold bmid
  split
  · exact pq_app hG r
  · exact ⟨⟨[], by simp, by simp⟩, hG⟩
section
variable (R : Nat → Rc) (K : Nat → Bool)
theorem bst_good : ∀ j, Good (bst R K j).1 (bst R K j).2
  | 0 => Good.nil _
  | j + 1 => (pr_app (bmid_app (bst_good j) (R j) (K j)).2 (R j)).2
theorem bst_len : ∀ j, (∀ t, t < j → (R t).d.size ≤ 700) → (bst R K j).1.length ≤ 1300 * j
  | 0, _ => Nat.le_refl _
  | j + 1, h => by
    have h1 := bst_len j (fun t ht => h t (by omega))
    obtain ⟨⟨X, x1, x2⟩, xg⟩ := bmid_app (bst_good R K j) (R j) (K j)
    obtain ⟨⟨Y, y1, y2⟩, _⟩ := pr_app xg (R j)
    have := h j (by omega)
    show (prS _ _ _).1.length ≤ _
    rw [y1, x1, List.length_append, List.length_append]
    omega
theorem bst_pre {j m : Nat} (h : j ≤ m) : ∃ X, (bst R K m).1 = (bst R K j).1 ++ X := by
  induction m with
  | zero => obtain rfl : j = 0 := by omega
            exact ⟨[], by simp⟩
  | succ m ih =>
    rcases Nat.lt_or_ge m j with h1 | h1
    · obtain rfl : j = m + 1 := by omega
      exact ⟨[], by simp⟩
    · obtain ⟨X, hX⟩ := ih h1
      obtain ⟨⟨Y, y1, _⟩, yg⟩ := bmid_app (bst_good R K m) (R m) (K m)
      obtain ⟨⟨Z, z1, _⟩, _⟩ := pr_app yg (R m)
      refine ⟨X ++ Y ++ Z, ?_⟩
      show (prS _ _ _).1 = _
      rw [z1, y1, hX]
      simp
/-- What is read of the bytes at each place. -/
theorem bst_back {j m : Nat} (hj : j < m) (hr : (R j).Ok) {s : ByteArray} (hs : s.data.toList = (bst R K m).1) :
    ((K j && mayB (R j).n) = true → tkQ s (bst R K j).1.length = some ((R j).ask, (bmid (bst R K j) (R j) (K j)).1.length)) ∧ ((K j && mayB (R j).n) = false → (bmid (bst R K j) (R j) (K j)).1.length = (bst R K j).1.length) ∧
    (mayR (R j) = true → tkR s (bmid (bst R K j) (R j) (K j)).1.length = some (R j, (bst R K (j + 1)).1.length)) ∧ (mayR (R j) = false → (bst R K (j + 1)).1.length = (bmid (bst R K j) (R j) (K j)).1.length) := by
  have g0 := bst_good R K j
  obtain ⟨_, g1⟩ := bmid_app g0 (R j) (K j)
  obtain ⟨X, hX⟩ := bst_pre R K (show j + 1 ≤ m from hj)
  obtain ⟨⟨Z, z1, _⟩, _⟩ := pr_app g1 (R j)
  have hX' : s.data.toList = (prS (bmid (bst R K j) (R j) (K j)).1 (bmid (bst R K j) (R j) (K j)).2 (R j)).1 ++ X := hs.trans hX
  refine ⟨fun h => ?_, fun h => ?_, fun h => ?_, fun h => ?_⟩
  · rw [Bool.and_eq_true] at h
    have e : bmid (bst R K j) (R j) (K j) = putQ (bst R K j).1 (bst R K j).2 (R j) := by unfold bmid pqS; rw [if_pos h.1, if_pos h.2]
    rw [e] at hX' z1 ⊢
    exact tkQ_put g0 hr h.2 (Z ++ X) (by rw [hX', z1, List.append_assoc])
  · have e : bmid (bst R K j) (R j) (K j) = bst R K j := by
      unfold bmid pqS
      cases hk : K j with
      | false => rfl
      | true =>
        rw [hk, Bool.true_and] at h
        rw [if_pos rfl, h]
        rfl
    rw [e]
  · have e : prS (bmid (bst R K j) (R j) (K j)).1 (bmid (bst R K j) (R j) (K j)).2 (R j) = putR (bmid (bst R K j) (R j) (K j)).1 (bmid (bst R K j) (R j) (K j)).2 (R j) := by unfold prS; rw [if_pos h]
    show tkR s _ = some (R j, (prS _ _ _).1.length)
    rw [e] at hX' ⊢
    exact tkR_put g1 hr h X hX'
  · show (prS _ _ _).1.length = _
    unfold prS
    rw [h]
    rfl
end
/-- The cells of one record, and of one bool, in every later world. -/
theorem Recs.cells {w : World} {A : Option Addr} {l : List Rc} (h : Recs w A l) (j : Nat) (hj : j < l.length) :
    ∃ b off, A = some ⟨b, off, none⟩ ∧ b < w.heap.size ∧ ∀ W, Below w.heap.size w W → R5 W b (off + j * 5) l[j] := by
  obtain ⟨b, off, h1, h2, h3⟩ := h j hj
  exact ⟨b, off, h1, h2, fun W hW => h3.below hW h2⟩
theorem Bools.cells {w : World} {A : Option Addr} {l : List Bool} (h : Bools w A l) (j : Nat) (hj : j < l.length) :
    ∃ b off, A = some ⟨b, off, none⟩ ∧ b < w.heap.size ∧ ∀ W, Below w.heap.size w W → W.cell? ⟨b, off + j, none⟩ = some (.bool l[j]) := by
  obtain ⟨b, off, h1, h2, h3⟩ := h j hj
  exact ⟨b, off, h1, h2, fun W hW => (hW.cell (p := ⟨b, off + j, none⟩) h2).trans h3⟩
end Go.Proofs.YtlphbeaaeeohjaaDoor
