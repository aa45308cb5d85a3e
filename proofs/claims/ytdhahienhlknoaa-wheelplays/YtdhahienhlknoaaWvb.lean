/- What the laws of the wheel share. -/
import Derived.Test.YtdhahienhlknoaaWva
import Derived.Deep.CutBlock
import Derived.Deep.DeepCutAuto
import Derived.BigRegion
import Derived.BigQuiet
import Derived.Deep.RegionHeld3
namespace Go.Proofs.Ytdhahienhlknoaa
open Go.RowKit
set_option linter.unusedVariables false
/-- Ids that an int can be. -/
def WfL (l : List Ti) : Prop := ∀ x ∈ l, (Lit.int .i64 x.id).wf = true
theorem wf_nil : WfL [] := fun _ h => by cases h
theorem WfL.set {l : List Ti} (h : WfL l) {id : Int} (hw : (Lit.int .i64 id).wf = true) (t : Nat) : WfL (setL l id t) := fun x hx => by
  rcases insL_mem.1 hx with rfl | hx
  · exact hw
  · exact h x (delL_mem.1 hx).1
theorem WfL.del {l : List Ti} (h : WfL l) (id : Int) : WfL (delL l id) := fun x hx => h x (delL_mem.1 hx).1
theorem WfL.rest {l : List Ti} (h : WfL l) (now : Nat) : WfL (restL l now) := fun x hx => h x ((List.dropWhile_sublist _).subset hx)
theorem WfL.due {l : List Ti} (h : WfL l) (now : Nat) (j : Nat) (hj : j < ((dueL l now).map (·.id)).length) : (Lit.int .i64 ((dueL l now).map (·.id))[j]).wf = true := by
  rw [List.getElem_map]
  exact h _ ((List.takeWhile_sublist _).subset (List.getElem_mem _))
theorem dueL_rest (now : Nat) : ∀ l : List Ti, dueL (restL l now) now = []
  | [] => rfl
  | x :: l => by
    unfold restL
    rw [List.dropWhile_cons]
    split
    · exact dueL_rest now l
    · rename_i h
      unfold dueL
      rw [List.takeWhile_cons, if_neg h]
theorem next_rest (now : Nat) : ∀ l : List Ti, nextL (restL l now) = none ∨ ∃ m, nextL (restL l now) = some m ∧ now < m
  | [] => .inl rfl
  | x :: l => by
    unfold restL
    rw [List.dropWhile_cons]
    split
    · exact next_rest now l
    · rename_i h
      exact .inr ⟨x.t, rfl, by simpa using h⟩
theorem due_len (l : List Ti) (now : Nat) : (dueL l now).length + (restL l now).length = l.length := by rw [← List.length_append, due_rest]
theorem next_cases (now : Nat) (l : List Ti) : (nextL l = none ∧ (dueL l now).length = 0) ∨ (∃ m, nextL l = some m ∧ m ≤ now ∧ 0 < (dueL l now).length) ∨ (∃ m, nextL l = some m ∧ now < m ∧ (dueL l now).length = 0) := by
  cases l with
  | nil => exact .inl ⟨rfl, rfl⟩
  | cons x l =>
    right
    by_cases h : x.t ≤ now
    · exact .inl ⟨x.t, rfl, h, by unfold dueL; rw [List.takeWhile_cons, if_pos (by simpa using h)]; simp⟩
    · exact .inr ⟨x.t, rfl, by omega, by unfold dueL; rw [List.takeWhile_cons, if_neg (by simpa using h)]; rfl⟩
theorem rest_due_none {l : List Ti} (hO : Ord l) (now j : Nat) (hj : j < ((dueL l now).map (·.id)).length) : look (restL l now) ((dueL l now).map (·.id))[j] = none := by
  rw [List.getElem_map]
  have hx := (mem_due hO).1 (List.getElem_mem (l := dueL l now) (by simpa using hj))
  rw [restL_look hO, hx.1]
  simp [hx.2]
theorem NsI.fw {w w' : World} {A : Option Addr} {ids : List Int} {g sb s n : Nat} {bm : Nat → Nat} {l : List Ti} (h : NsI w A ids) (hl : Wl w g sb s n bm l) (hf : Fw bm s w w') : NsI w' A ids := fun j hj => by
  obtain ⟨b, off, h1, h2, h3⟩ := h j hj
  refine ⟨b, off, h1, Nat.lt_of_lt_of_le h2 hf.size, ?_⟩
  have hne : ∀ i, i < s → b ≠ bm i := fun i hi e => by
    obtain ⟨_, ⟨es, c, h0, _⟩, _⟩ := hl.mp i hi
    rw [e] at h3
    simp [World.cell?, h0] at h3
  have hb := hf.block b h2 hne
  unfold World.cell? at h3 ⊢
  simp only at h3 ⊢
  rw [hb]
  exact h3
theorem due_f (HS : SortC 200) (now : Nat) {w : World} {g sb s n : Nat} {bm : Nat → Nat} {l : List Ti} (h : Wl w g sb s n bm l) (hl : l.length ≤ 200) :
    Calls Try.prog 19 #[.pointer (some ⟨g, 0, none⟩), .int .u64 (now : Nat)] w fun e w' => ∃ A c, e = .returned (.slice A (dueL l now).length c) ∧ NsI w' A ((dueL l now).map (·.id)) ∧ Wl w' g sb s n bm (restL l now) ∧ Fw bm s w w' :=
  due_any 200 HS (by omega) now h (Nat.le_trans (dueL_le l now) hl) (by omega)
end Go.Proofs.Ytdhahienhlknoaa
