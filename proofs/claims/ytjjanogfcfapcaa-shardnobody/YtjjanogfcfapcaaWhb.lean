/- Items (derrickref11.Item) in memory; the contracts of derrickref11.less, Del, At, Next. Made ahead for stage 11 at a practice seat: look at the type numbers. -/
import Derived.Test.YtjjanogfcfapcaaWha
import Derived.WalkKit
import Derived.WalkSpells
import Derived.WalkLawsBesides
import Derived.Lib.Hide
import Derived.Deep.QuietTactic
import Derived.BigQuiet
import Derived.Laws.IdiomStrings
import Derived.Deep.Draws
import Derived.OpenShut
import Derived.Lib.AppendZeros
import Derived.Laws.AppendOwnNone
import Derived.Lib.SliceRun
import Derived.Lib.Walk
import Derived.Deep.RegionLaw
import Derived.Deep.RegionWith
import Derived.Laws.OwnMore
import Derived.Laws.ResultCell
import Derived.RegionTactic
import Derived.Deep.DeepCutAuto
import Derived.Below
import Derived.Laws.Rows
import Derived.Laws.Tables
import Derived.Deep.RegionHeld3
namespace Go.Proofs.Ytjjanogfcfapcaa.W
open Go.RowKit
set_option linter.unusedVariables false

theorem heap_lt {w : World} {g : Nat} {o : Obj} (h : w.heap[g]? = some o) : g < w.heap.size := (Array.getElem?_eq_some_iff.1 h).1
theorem blk_cell {w : World} {b : Nat} {cs : Array Value} {t : TypeId} (h : w.heap[b]? = some (.cells cs t (0, 0))) (i : Nat) : w.cell? ⟨b, i, none⟩ = cs[i]? := cell_of_row w b i cs t (0, 0) h
theorem el_of {t : TypeId} {z : Value} {a b : Nat} (h : (Try.prog.info? t).map (fun i => (i.zero, i.size, i.bytes)) = some (some z, a, b)) : ∃ i, Try.prog.info? t = some i ∧ i.zero = some z ∧ i.size = a ∧ i.bytes = b := by
  rw [Option.map_eq_some_iff] at h
  obtain ⟨i, h1, h2⟩ := h
  simp only [Prod.mk.injEq] at h2
  exact ⟨i, h1, h2.1, h2.2.1, h2.2.2⟩
theorem ownR_form {w : World} {B : Nat} {e : TypeId} {k : Nat} {v : Value} {n : Nat} {xs : List Value} (h : w.ownsRow B e k v n xs) : ∃ A cap, v = .slice A n cap := by
  rcases h.2 with ⟨rfl, rfl⟩ | ⟨g, cap, cur, rfl, _⟩
  · exact ⟨none, 0, rfl⟩
  · exact ⟨_, cap, rfl⟩
theorem ownR_below {w w' : World} {B : Nat} {e : TypeId} {k : Nat} {v : Value} {n : Nat} {xs : List Value} (h : w.ownsRow B e k v n xs) (hb : Below w.heap.size w w') : w'.ownsRow B e k v n xs := by
  refine ⟨h.1, ?_⟩
  rcases h.2 with h1 | ⟨g, cap, cur, h1, h2, h3, h4⟩
  · exact .inl h1
  · exact .inr ⟨g, cap, cur, h1, h2, (hb.block g (heap_lt h3)).trans h3, h4⟩
def zI : Value := .agg #[.int .i64 0, .int .u64 0]
/-- The cells of an item. -/
def tf (x : Ti) : List Value := [.int .i64 x.id, .int .u64 (x.t : Nat)]
theorem tf_len (l : List Ti) : (l.flatMap tf).length = l.length * 2 := by
  induction l with
  | nil => rfl
  | cons a l ih => rw [List.flatMap_cons, List.length_append, ih, List.length_cons]; simp [tf]; omega
theorem tf_at : ∀ (l : List Ti) (j i : Nat) (hj : j < l.length), i < 2 → (l.flatMap tf)[j * 2 + i]? = (tf l[j])[i]?
  | [], j, i, hj, _ => absurd hj (by simp)
  | a :: l, 0, i, hj, hi => by
    rw [List.flatMap_cons, List.getElem?_append_left (by simp [tf]; omega)]
    simp
  | a :: l, j + 1, i, hj, hi => by
    rw [List.flatMap_cons, List.getElem?_append_right (by simp [tf]; omega), show (j + 1) * 2 + i - (tf a).length = j * 2 + i by simp [tf]; omega]
    simpa using tf_at l j i (by simpa using hj) hi
theorem tf_one (l : List Ti) : ∀ u ∈ l.flatMap tf, u.oneCell' = true := fun u hu => by
  obtain ⟨r, _, hr⟩ := List.mem_flatMap.1 hu
  simp only [tf, List.mem_cons, List.not_mem_nil, or_false] at hr
  rcases hr with rfl | rfl <;> rfl
/-- A slice of items. -/
structure Ss (w : World) (A : Option Addr) (cap : Nat) (l : List Ti) : Prop where
  nl : A = Option.none → cap = 0
  le : l.length ≤ cap
  has : l = [] ∨ ∃ b off, A = some ⟨b, off, none⟩ ∧ b < w.heap.size ∧ ∀ j u, (l.flatMap tf)[j]? = some u → w.cell? ⟨b, off + j, none⟩ = some u
section
variable {w w' : World} {A : Option Addr} {cap : Nat} {l : List Ti}
theorem Ss.nil (w : World) : Ss w Option.none 0 [] := ⟨fun _ => rfl, Nat.le_refl _, .inl rfl⟩
theorem Ss.below (h : Ss w A cap l) (hb : Below w.heap.size w w') : Ss w' A cap l := by
  refine ⟨h.nl, h.le, ?_⟩
  rcases h.has with h1 | ⟨b, off, h1, h2, h3⟩
  · exact .inl h1
  · exact .inr ⟨b, off, h1, Nat.lt_of_lt_of_le h2 hb.size, fun j u hj => (hb.cell (p := ⟨b, off + j, Option.none⟩) h2).trans (h3 j u hj)⟩
theorem Ss.at (h : Ss w A cap l) (j : Nat) (hj : j < l.length) : ∃ b off, A = some ⟨b, off, Option.none⟩ ∧ b < w.heap.size ∧ w.cell? ⟨b, off + j * 2, Option.none⟩ = some (.int .i64 l[j].id) ∧ w.cell? ⟨b, off + j * 2 + 1, Option.none⟩ = some (.int .u64 (l[j].t : Nat)) := by
  rcases h.has with h1 | ⟨b, off, h1, h2, h3⟩
  · rw [h1] at hj; cases hj
  · refine ⟨b, off, h1, h2, ?_, ?_⟩
    · exact h3 (j * 2) _ (tf_at l j 0 hj (by omega))
    · rw [Nat.add_assoc]
      exact h3 (j * 2 + 1) _ (tf_at l j 1 hj (by omega))
end
theorem flat_snoc (l : List Ti) (x : Ti) : (l ++ [x]).flatMap tf = l.flatMap tf ++ tf x := by rw [List.flatMap_append]; simp

theorem delL_take (l : List Ti) (id : Int) (j : Nat) (hj : j < l.length) : delL (l.take (j + 1)) id = if l[j].id = id then delL (l.take j) id else delL (l.take j) id ++ [l[j]] := by
  unfold delL
  rw [List.take_add_one, List.getElem?_eq_getElem hj, List.filter_append]
  by_cases h : l[j].id = id
  · simp [h]
  · simp [h]
/-- Is there such an id? -/
def hasL (l : List Ti) (id : Int) : Bool := l.any fun x => x.id == id
theorem hasL_take (l : List Ti) (id : Int) (j : Nat) (hj : j < l.length) : hasL (l.take (j + 1)) id = (hasL (l.take j) id || decide (l[j].id = id)) := by
  unfold hasL
  rw [List.take_add_one, List.getElem?_eq_getElem hj, List.any_append]
  simp [Bool.beq_eq_decide_eq]

end Go.Proofs.Ytjjanogfcfapcaa.W
