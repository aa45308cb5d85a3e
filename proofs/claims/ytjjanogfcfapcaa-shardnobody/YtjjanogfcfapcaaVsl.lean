/- Slices of things in memory (records, questions): without anything of the other layers. -/
import Derived.Test.YtjjanogfcfapcaaRows
import Derived.WalkKit
import Derived.WalkSpells
import Derived.WalkLawsBesides
import Derived.Lib.Hide
import Derived.Deep.QuietTactic
import Derived.BigQuiet
import Derived.Laws.IdiomStrings
import Derived.Deep.Draws
import Derived.OpenShut
import Derived.Lib.AppendZeros
import Derived.Laws.AppendOwnNone
import Derived.Lib.SliceRun
import Derived.Lib.Walk
import Derived.Deep.RegionLaw
import Derived.Deep.RegionWith
import Derived.Laws.OwnMore
import Derived.Laws.ResultCell
import Derived.RegionTactic
import Derived.Deep.DeepCutAuto
import Derived.Below
import Derived.Laws.Rows
namespace Go.Proofs.Ytjjanogfcfapcaa
open Go.RowKit
set_option linter.unusedVariables false

/-- A record, in its parts. -/
structure Rc where
  n : ByteArray
  k : Nat
  c : Nat
  t : Nat
  d : ByteArray
/-- Its numbers are such of sixteen and of thirty-two bits. -/
structure Rc.Ok (r : Rc) : Prop where
  k : r.k < 65536
  c : r.c < 65536
  t : r.t < 4294967296
def Rc.zero : Rc := ⟨⟨#[]⟩, 0, 0, 0, ⟨#[]⟩⟩
theorem heap_lt {w : World} {g : Nat} {o : Obj} (h : w.heap[g]? = some o) : g < w.heap.size := (Array.getElem?_eq_some_iff.1 h).1
theorem blk_cell {w : World} {b : Nat} {cs : Array Value} {t : TypeId} (h : w.heap[b]? = some (.cells cs t (0, 0))) (i : Nat) : w.cell? ⟨b, i, none⟩ = cs[i]? := cell_of_row w b i cs t (0, 0) h
/-- The cells of a record, and of a question. -/
def rf (r : Rc) : List Value := [.string r.n, .int .u16 (r.k : Nat), .int .u16 (r.c : Nat), .int .u32 (r.t : Nat), .string r.d]
/-- A question. -/
structure Qu where
  n : ByteArray
  k : Nat
  c : Nat
structure Qu.Ok (q : Qu) : Prop where
  k : q.k < 65536
  c : q.c < 65536
def qf (r : Qu) : List Value := [.string r.n, .int .u16 (r.k : Nat), .int .u16 (r.c : Nat)]
theorem flat_at {α : Type} {f : α → List Value} {k : Nat} (hk : ∀ r, (f r).length = k) : ∀ (l : List α) (j i : Nat) (hj : j < l.length), i < k → (l.flatMap f)[j * k + i]? = (f l[j])[i]?
  | [], j, i, hj, _ => absurd hj (by simp)
  | a :: l, 0, i, hj, hi => by
    rw [List.flatMap_cons, List.getElem?_append_left (by rw [hk]; omega)]
    simp
  | a :: l, j + 1, i, hj, hi => by
    rw [List.flatMap_cons, List.getElem?_append_right (by rw [hk, Nat.add_mul]; omega), hk, show (j + 1) * k + i - k = j * k + i by rw [Nat.add_mul]; omega]
    exact flat_at hk l j i (by simpa using hj) hi
theorem flat_len {α : Type} {f : α → List Value} {k : Nat} (hk : ∀ r, (f r).length = k) : ∀ l : List α, (l.flatMap f).length = l.length * k
  | [] => by simp
  | a :: l => by rw [List.flatMap_cons, List.length_append, hk, flat_len hk l, List.length_cons, Nat.add_mul]; omega
theorem rf_len (r : Rc) : (rf r).length = 5 := rfl
theorem qf_len (r : Qu) : (qf r).length = 3 := rfl
theorem rf_one (l : List Rc) : ∀ u ∈ l.flatMap rf, u.oneCell' = true := fun u hu => by
  obtain ⟨r, _, hr⟩ := List.mem_flatMap.1 hu
  simp only [rf, List.mem_cons, List.not_mem_nil, or_false] at hr
  rcases hr with rfl | rfl | rfl | rfl | rfl <;> rfl
theorem qf_one (l : List Qu) : ∀ u ∈ l.flatMap qf, u.oneCell' = true := fun u hu => by
  obtain ⟨r, _, hr⟩ := List.mem_flatMap.1 hu
  simp only [qf, List.mem_cons, List.not_mem_nil, or_false] at hr
  rcases hr with rfl | rfl | rfl <;> rfl
/-- A slice's elements. -/
structure Sl {α : Type} (f : α → List Value) (w : World) (A : Option Addr) (cap : Nat) (l : List α) : Prop where
  nl : A = Option.none → cap = 0
  le : l.length ≤ cap
  has : l = [] ∨ ∃ b off, A = some ⟨b, off, none⟩ ∧ b < w.heap.size ∧ ∀ j u, (l.flatMap f)[j]? = some u → w.cell? ⟨b, off + j, none⟩ = some u
section
variable {α : Type} {f : α → List Value} {w w' : World} {A : Option Addr} {cap : Nat} {l : List α}
theorem Sl.nil (f : α → List Value) (w : World) : Sl f w Option.none 0 [] := ⟨fun _ => rfl, Nat.le_refl _, .inl rfl⟩
theorem Sl.below {B : Nat} (h : Sl f w A cap l) (hb : Below B w w') (hB : ∀ b off, A = some ⟨b, off, Option.none⟩ → b < B) : Sl f w' A cap l := by
  refine ⟨h.nl, h.le, ?_⟩
  rcases h.has with h1 | ⟨b, off, h1, h2, h3⟩
  · exact .inl h1
  · exact .inr ⟨b, off, h1, Nat.lt_of_lt_of_le h2 hb.size, fun j u hj => (hb.cell (p := ⟨b, off + j, Option.none⟩) (hB b off h1)).trans (h3 j u hj)⟩
theorem Sl.below' (h : Sl f w A cap l) (hb : Below w.heap.size w w') : Sl f w' A cap l := by
  refine ⟨h.nl, h.le, ?_⟩
  rcases h.has with h1 | ⟨b, off, h1, h2, h3⟩
  · exact .inl h1
  · exact .inr ⟨b, off, h1, Nat.lt_of_lt_of_le h2 hb.size, fun j u hj => (hb.cell (p := ⟨b, off + j, Option.none⟩) h2).trans (h3 j u hj)⟩
theorem Sl.empty (h : Sl f w A cap l) (hA : A = Option.none) : l = [] := by
  have := h.le
  rw [h.nl hA] at this
  exact List.eq_nil_of_length_eq_zero (by omega)
theorem Sl.take (h : Sl f w A cap l) (n : Nat) : Sl f w A cap (l.take n) := by
  refine ⟨h.nl, Nat.le_trans (by rw [List.length_take]; omega) h.le, ?_⟩
  rcases h.has with h1 | ⟨b, off, h1, h2, h3⟩
  · left; rw [h1]; simp
  · refine .inr ⟨b, off, h1, h2, fun j u hj => h3 j u ?_⟩
    have e : l.flatMap f = (l.take n).flatMap f ++ (l.drop n).flatMap f := by rw [← List.flatMap_append, List.take_append_drop]
    rw [e, List.getElem?_append_left (List.getElem?_eq_some_iff.1 hj).1]
    exact hj
/-- The cells of one element. -/
theorem Sl.at {k : Nat} (hk : ∀ r, (f r).length = k) (h : Sl f w A cap l) (j : Nat) (hj : j < l.length) : ∃ b off, A = some ⟨b, off, Option.none⟩ ∧ b < w.heap.size ∧ ∀ i u, (f l[j])[i]? = some u → w.cell? ⟨b, off + j * k + i, Option.none⟩ = some u := by
  rcases h.has with h1 | ⟨b, off, h1, h2, h3⟩
  · rw [h1] at hj; cases hj
  · refine ⟨b, off, h1, h2, fun i u hi => ?_⟩
    have hik : i < k := by have := (List.getElem?_eq_some_iff.1 hi).1; rw [hk] at this; exact this
    rw [Nat.add_assoc]
    exact h3 _ u (by rw [flat_at hk l j i hj hik]; exact hi)
theorem Sl.own {B : Nat} {e : TypeId} {k : Nat} {v : Value} (hk : ∀ r, (f r).length = k) (h : w.ownsRow B e k v l.length (l.flatMap f)) : ∃ A cap, v = .slice A l.length cap ∧ Sl f w A cap l := by
  rcases h.2 with ⟨hv, hn⟩ | ⟨g, cap, cur, hv, hB, hg, hc, hm, hz, ht⟩
  · obtain rfl : l = [] := List.eq_nil_of_length_eq_zero hn
    exact ⟨Option.none, 0, hv, Sl.nil f w⟩
  · refine ⟨_, cap, hv, (fun h => by cases h), hc, .inr ⟨g, 0, rfl, (Array.getElem?_eq_some_iff.1 hg).1, fun j u hj => ?_⟩⟩
    rw [← ht, List.getElem?_take] at hj
    rw [cell_of_row w g (0 + j) cur e (0, 0) hg, Nat.zero_add]
    split at hj
    · simpa using hj
    · cases hj
end
theorem Sl.ask3 {w : World} {A : Option Addr} {cap : Nat} {l : List Qu} (h : Sl qf w A cap l) (j : Nat) (hj : j < l.length) : ∃ b off, A = some ⟨b, off, Option.none⟩ ∧ b < w.heap.size ∧
    w.cell? ⟨b, off + j * 3, Option.none⟩ = some (.string l[j].n) ∧ w.cell? ⟨b, off + j * 3 + 1, Option.none⟩ = some (.int .u16 (l[j].k : Nat)) ∧ w.cell? ⟨b, off + j * 3 + 2, Option.none⟩ = some (.int .u16 (l[j].c : Nat)) := by
  obtain ⟨b, off, h1, h2, h3⟩ := h.at qf_len j hj
  exact ⟨b, off, h1, h2, h3 0 _ rfl, h3 1 _ rfl, h3 2 _ rfl⟩

theorem el_of {t : TypeId} {z : Value} {a b : Nat} (h : (Try.prog.info? t).map (fun i => (i.zero, i.size, i.bytes)) = some (some z, a, b)) : ∃ i, Try.prog.info? t = some i ∧ i.zero = some z ∧ i.size = a ∧ i.bytes = b := by
  rw [Option.map_eq_some_iff] at h
  obtain ⟨i, h1, h2⟩ := h
  simp only [Prod.mk.injEq] at h2
  exact ⟨i, h1, h2.1, h2.2.1, h2.2.2⟩
theorem Sl.src {α : Type} {f : α → List Value} {w : World} {a : Addr} {cap : Nat} {l : List α} (h : Sl f w (some a) cap l) : ∀ j u, (l.flatMap f)[j]? = some u → w.cell? (a.add j) = some u := fun j u hj => by
  rcases h.has with h1 | ⟨b, off, h1, h2, h3⟩
  · rw [h1] at hj; simp at hj
  · cases h1
    rw [Addr.add_lit]
    exact h3 j u hj

theorem Sl.other {α : Type} {f : α → List Value} {w w' : World} {A : Option Addr} {cap g : Nat} {l : List α} (h : Sl f w A cap l) (hw : ∀ b, b ≠ g → w'.heap[b]? = w.heap[b]?) (hz : w.heap.size ≤ w'.heap.size) (hne : ∀ a, A = some a → a.block ≠ g) : Sl f w' A cap l := by
  refine ⟨h.nl, h.le, ?_⟩
  rcases h.has with h1 | ⟨b, off, h1, h2, h3⟩
  · exact .inl h1
  · refine .inr ⟨b, off, h1, Nat.lt_of_lt_of_le h2 hz, fun j u hj => ?_⟩
    have e : w'.cell? ⟨b, off + j, none⟩ = w.cell? ⟨b, off + j, none⟩ := by
      unfold World.cell?
      rw [hw b (hne _ h1)]
    rw [e]
    exact h3 j u hj
theorem ownR_form {w : World} {B : Nat} {e : TypeId} {k : Nat} {v : Value} {n : Nat} {xs : List Value} (h : w.ownsRow B e k v n xs) : ∃ A cap, v = .slice A n cap := by
  rcases h.2 with ⟨rfl, rfl⟩ | ⟨g, cap, cur, rfl, _⟩
  · exact ⟨none, 0, rfl⟩
  · exact ⟨_, cap, rfl⟩
theorem own_block {w : World} {B : Nat} {e : TypeId} {k : Nat} {A : Option Addr} {n cap : Nat} {xs : List Value} (h : w.ownsRow B e k (.slice A n cap) n xs) (hn : 0 < n) : ∃ g, A = some ⟨g, 0, none⟩ ∧ B ≤ g := by
  rcases h.2 with ⟨_, h2⟩ | ⟨g, cap', cur, h1, h2, _⟩
  · omega
  · cases h1; exact ⟨g, rfl, h2⟩
theorem ownR_below {w w' : World} {B : Nat} {e : TypeId} {k : Nat} {v : Value} {n : Nat} {xs : List Value} (h : w.ownsRow B e k v n xs) (hb : Below w.heap.size w w') : w'.ownsRow B e k v n xs := by
  refine ⟨h.1, ?_⟩
  rcases h.2 with h1 | ⟨g, cap, cur, h1, h2, h3, h4⟩
  · exact .inl h1
  · exact .inr ⟨g, cap, cur, h1, h2, (hb.block g (heap_lt h3)).trans h3, h4⟩
/-- The numbers of a slice. -/
def Ns (k : IntKind) (w : World) (A : Option Addr) (l : List Nat) : Prop := ∀ j (h : j < l.length), ∃ b off : Nat, A = some ⟨b, off, none⟩ ∧ w.cell? ⟨b, off + j, none⟩ = some (.int k (l[j] : Nat))
/-- The value of a question. -/
def qV (r : Qu) : Value := .agg #[.string r.n, .int .u16 (r.k : Nat), .int .u16 (r.c : Nat)]
theorem elQ : (Try.prog.info? 35).map (fun i => (i.zero, i.size, i.bytes)) = some (some (qV ⟨⟨#[]⟩, 0, 0⟩), 3, 24) := by kernel_rfl
end Go.Proofs.Ytjjanogfcfapcaa
