/- The contracts of derrickref11.At, Next, Due, Set. Made ahead for stage 11 at a practice seat. -/
import Derived.Test.YtjjanogfcfapcaaWhb
import Derived.Deep.AppendLies
import Derived.Deep.RegionHeld
namespace Go.Proofs.Ytjjanogfcfapcaa.W
open Go.RowKit
set_option linter.unusedVariables false

theorem look_snoc (l : List Ti) (x : Ti) (id : Int) (h : look l id = none) : look (l ++ [x]) id = if x.id = id then some x.t else none := by
  unfold look at *
  rw [List.find?_append]
  have hn : l.find? (fun x => x.id == id) = none := by simpa using h
  rw [hn]
  by_cases e : x.id = id
  · simp [e]
  · simp [e]
theorem look_take {l : List Ti} {id : Int} {j : Nat} (hj : j < l.length) (h : look (l.take j) id = none) : look (l.take (j + 1)) id = if l[j].id = id then some l[j].t else none := by
  rw [List.take_add_one, List.getElem?_eq_getElem hj]
  exact look_snoc _ _ _ h
theorem look_found : ∀ {l : List Ti} {id : Int} {j : Nat} (hj : j < l.length), look (l.take j) id = none → l[j].id = id → look l id = some l[j].t
  | [], id, j, hj, _, _ => absurd hj (by simp)
  | x :: l, id, 0, hj, _, e => by
    rw [look_cons, if_pos (show x.id = id from e)]
    rfl
  | x :: l, id, j + 1, hj, h, e => by
    rw [List.take_succ_cons, look_cons] at h
    rw [look_cons]
    by_cases ex : x.id = id
    · rw [if_pos ex] at h; cases h
    · rw [if_neg ex] at h ⊢
      exact look_found (by simpa using hj) h e
/-- At's answer, in two parts. -/
def lkT (o : Option Nat) : Nat := o.getD 0
/-- The least time. -/
def nextL (l : List Ti) : Option Nat := l.head?.map (·.t)
/-- A slice of ints. -/
def NsI (w : World) (A : Option Addr) (l : List Int) : Prop := ∀ j (h : j < l.length), ∃ b off : Nat, A = some ⟨b, off, none⟩ ∧ b < w.heap.size ∧ w.cell? ⟨b, off + j, none⟩ = some (.int .i64 l[j])
theorem NsI.below {w w' : World} {A : Option Addr} {l : List Int} (h : NsI w A l) (hb : Below w.heap.size w w') : NsI w' A l := fun j hj => by
  obtain ⟨b, off, h1, h2, h3⟩ := h j hj
  exact ⟨b, off, h1, Nat.lt_of_lt_of_le h2 hb.size, (hb.cell (p := ⟨b, off + j, none⟩) h2).trans h3⟩
def valI (l : List Int) : List Value := l.map fun i => Value.int .i64 i
theorem valI_snoc (l : List Int) (i : Int) : valI (l ++ [i]) = valI l ++ [Value.int .i64 i] := by simp [valI]
theorem elI : (Try.prog.info? 3).map (fun i => (i.zero, i.size, i.bytes)) = some (some (.int .i64 0), 1, 8) := by kernel_rfl
theorem newI (W : World) (n : Int) : ∀ j u, ([Value.int .i64 n] : List Value)[j]? = some u → (W.alloc (.cells #[.int .i64 n] 3)).cell? ((⟨W.heap.size, 0, none⟩ : Addr).add j) = some u := fun j u hj => by
  have h := heap_alloc_new W (Obj.cells #[.int .i64 n] 3)
  rw [Addr.add_lit, Nat.zero_add, blk_cell h j, ← hj]
  simp
theorem nsI_own {w : World} {B : Nat} {v : Value} {l : List Int} (h : w.ownsRow B 3 1 v l.length (valI l)) : ∃ A cap, v = .slice A l.length cap ∧ NsI w A l := by
  rcases h.2 with ⟨hv, hn⟩ | ⟨g, cap, cur, hv, hB, hg, hc, hm, hz, ht⟩
  · exact ⟨none, 0, by rw [hv, hn], fun j hj => by omega⟩
  · subst hv
    refine ⟨_, cap, rfl, fun j hj => ⟨g, 0, rfl, heap_lt hg, ?_⟩⟩
    rw [Nat.zero_add, h.cellAt j (by omega)]
    simp [valI, hj]
theorem due_at : ∀ {l : List Ti} {now j : Nat}, j ≤ l.length → (∀ x ∈ l.take j, x.t ≤ now) → (∀ h : j < l.length, now < l[j].t) → dueL l now = l.take j ∧ restL l now = l.drop j
  | [], now, j, hj, _, _ => by
    have : j = 0 := by simpa using hj
    subst this
    exact ⟨rfl, rfl⟩
  | x :: l, now, 0, _, _, h => by
    have := h (by simp)
    simp only [List.getElem_cons_zero] at this
    unfold dueL restL
    rw [List.takeWhile_cons, List.dropWhile_cons]
    have e : decide (x.t ≤ now) = false := by simp; omega
    rw [e]
    exact ⟨rfl, rfl⟩
  | x :: l, now, j + 1, hj, ha, h => by
    have e : decide (x.t ≤ now) = true := by simpa using ha x (by simp)
    obtain ⟨h1, h2⟩ := due_at (l := l) (now := now) (j := j) (by simpa using hj) (fun y hy => ha y (by rw [List.take_succ_cons]; exact List.mem_cons_of_mem _ hy)) (fun hlt => h (by simpa using hlt))
    unfold dueL restL at *
    rw [List.takeWhile_cons, List.dropWhile_cons, e, h1, h2]
    exact ⟨rfl, rfl⟩
theorem Ss.drop {w : World} {b off cap : Nat} {l : List Ti} (h : Ss w (some ⟨b, off, none⟩) cap l) (j : Nat) (hj : j ≤ l.length) : Ss w (some ⟨b, off + j * 2, none⟩) (cap - j) (l.drop j) := by
  refine ⟨(fun h => by cases h), by rw [List.length_drop]; have := h.le; omega, ?_⟩
  rcases h.has with h1 | ⟨b', off', h1, h2, h3⟩
  · left; rw [h1]; simp
  · cases h1
    refine .inr ⟨b, off + j * 2, rfl, h2, fun i u hu => ?_⟩
    rw [Nat.add_assoc]
    refine h3 (j * 2 + i) u ?_
    have e : l.flatMap tf = (l.take j).flatMap tf ++ (l.drop j).flatMap tf := by rw [← List.flatMap_append, List.take_append_drop]
    rw [e, List.getElem?_append_right (by rw [tf_len, List.length_take]; omega), tf_len, List.length_take, Nat.min_eq_left hj, Nat.add_sub_cancel_left]
    exact hu

end Go.Proofs.Ytjjanogfcfapcaa.W
