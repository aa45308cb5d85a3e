/- Messages in memory: slices of records and of questions; and the contracts of message's small functions: isCode, bitOf, has. -/
import Derived.Test.YtnakljbginbenaaGreatDoorMma
import Derived.Test.YtnakljbginbenaaGreatDoorBrs
import Derived.Test.YtnakljbginbenaaGreatDoorBrq
namespace Go.Proofs.YtnakljbginbenaaGreatDoor
open Go.RowKit
set_option linter.unusedVariables false

/-- The cells of a record, and of a question. -/
def rf (r : Rc) : List Value := [.string r.n, .int .u16 (r.k : Nat), .int .u16 (r.c : Nat), .int .u32 (r.t : Nat), .string r.d]
def qf (r : Rc) : List Value := [.string r.n, .int .u16 (r.k : Nat), .int .u16 (r.c : Nat)]
theorem flat_at {f : Rc → List Value} {k : Nat} (hk : ∀ r, (f r).length = k) : ∀ (l : List Rc) (j i : Nat) (hj : j < l.length), i < k → (l.flatMap f)[j * k + i]? = (f l[j])[i]?
  | [], j, i, hj, _ => absurd hj (by simp)
  | a :: l, 0, i, hj, hi => by
    rw [List.flatMap_cons, List.getElem?_append_left (by rw [hk]; omega)]
    simp
  | a :: l, j + 1, i, hj, hi => by
    rw [List.flatMap_cons, List.getElem?_append_right (by rw [hk, Nat.add_mul]; omega), hk, show (j + 1) * k + i - k = j * k + i by rw [Nat.add_mul]; omega]
    exact flat_at hk l j i (by simpa using hj) hi
theorem flat_len {f : Rc → List Value} {k : Nat} (hk : ∀ r, (f r).length = k) : ∀ l : List Rc, (l.flatMap f).length = l.length * k
  | [] => by simp
  | a :: l => by rw [List.flatMap_cons, List.length_append, hk, flat_len hk l, List.length_cons, Nat.add_mul]; omega
theorem rf_len (r : Rc) : (rf r).length = 5 := rfl
theorem qf_len (r : Rc) : (qf r).length = 3 := rfl
theorem rf_one (l : List Rc) : ∀ u ∈ l.flatMap rf, u.oneCell' = true := fun u hu => by
  obtain ⟨r, _, hr⟩ := List.mem_flatMap.1 hu
  simp only [rf, List.mem_cons, List.not_mem_nil, or_false] at hr
  rcases hr with rfl | rfl | rfl | rfl | rfl <;> rfl
theorem qf_one (l : List Rc) : ∀ u ∈ l.flatMap qf, u.oneCell' = true := fun u hu => by
  obtain ⟨r, _, hr⟩ := List.mem_flatMap.1 hu
  simp only [qf, List.mem_cons, List.not_mem_nil, or_false] at hr
  rcases hr with rfl | rfl | rfl <;> rfl
/-- A slice's elements. -/
structure Sl (f : Rc → List Value) (w : World) (A : Option Addr) (cap : Nat) (l : List Rc) : Prop where
  nl : A = Option.none → cap = 0
  le : l.length ≤ cap
  has : l = [] ∨ ∃ b off, A = some ⟨b, off, none⟩ ∧ b < w.heap.size ∧ ∀ j u, (l.flatMap f)[j]? = some u → w.cell? ⟨b, off + j, none⟩ = some u
section
variable {f : Rc → List Value} {w w' : World} {A : Option Addr} {cap : Nat} {l : List Rc}
theorem Sl.nil (f : Rc → List Value) (w : World) : Sl f w Option.none 0 [] := ⟨fun _ => rfl, Nat.le_refl _, .inl rfl⟩
theorem Sl.below {B : Nat} (h : Sl f w A cap l) (hb : Below B w w') (hB : ∀ b off, A = some ⟨b, off, Option.none⟩ → b < B) : Sl f w' A cap l := by
  refine ⟨h.nl, h.le, ?_⟩
  rcases h.has with h1 | ⟨b, off, h1, h2, h3⟩
  · exact .inl h1
  · exact .inr ⟨b, off, h1, Nat.lt_of_lt_of_le h2 hb.size, fun j u hj => (hb.cell (p := ⟨b, off + j, Option.none⟩) (hB b off h1)).trans (h3 j u hj)⟩
theorem Sl.below' (h : Sl f w A cap l) (hb : Below w.heap.size w w') : Sl f w' A cap l := by
  refine ⟨h.nl, h.le, ?_⟩
  rcases h.has with h1 | ⟨b, off, h1, h2, h3⟩
  · exact .inl h1
  · exact .inr ⟨b, off, h1, Nat.lt_of_lt_of_le h2 hb.size, fun j u hj => (hb.cell (p := ⟨b, off + j, Option.none⟩) h2).trans (h3 j u hj)⟩
theorem Sl.empty (h : Sl f w A cap l) (hA : A = Option.none) : l = [] := by
  have := h.le
  rw [h.nl hA] at this
  exact List.eq_nil_of_length_eq_zero (by omega)
theorem Sl.take (h : Sl f w A cap l) (n : Nat) : Sl f w A cap (l.take n) := by
  refine ⟨h.nl, Nat.le_trans (by rw [List.length_take]; omega) h.le, ?_⟩
  rcases h.has with h1 | ⟨b, off, h1, h2, h3⟩
  · left; rw [h1]; simp
  · refine .inr ⟨b, off, h1, h2, fun j u hj => h3 j u ?_⟩
    have e : l.flatMap f = (l.take n).flatMap f ++ (l.drop n).flatMap f := by rw [← List.flatMap_append, List.take_append_drop]
    rw [e, List.getElem?_append_left (List.getElem?_eq_some_iff.1 hj).1]
    exact hj
/-- The cells of one element. -/
theorem Sl.at {k : Nat} (hk : ∀ r, (f r).length = k) (h : Sl f w A cap l) (j : Nat) (hj : j < l.length) : ∃ b off, A = some ⟨b, off, Option.none⟩ ∧ b < w.heap.size ∧ ∀ i u, (f l[j])[i]? = some u → w.cell? ⟨b, off + j * k + i, Option.none⟩ = some u := by
  rcases h.has with h1 | ⟨b, off, h1, h2, h3⟩
  · rw [h1] at hj; cases hj
  · refine ⟨b, off, h1, h2, fun i u hi => ?_⟩
    have hik : i < k := by have := (List.getElem?_eq_some_iff.1 hi).1; rw [hk] at this; exact this
    rw [Nat.add_assoc]
    exact h3 _ u (by rw [flat_at hk l j i hj hik]; exact hi)
theorem Sl.own {B : Nat} {e : TypeId} {k : Nat} {v : Value} (hk : ∀ r, (f r).length = k) (h : w.ownsRow B e k v l.length (l.flatMap f)) : ∃ A cap, v = .slice A l.length cap ∧ Sl f w A cap l := by
  rcases h.2 with ⟨hv, hn⟩ | ⟨g, cap, cur, hv, hB, hg, hc, hm, hz, ht⟩
  · obtain rfl : l = [] := List.eq_nil_of_length_eq_zero hn
    exact ⟨Option.none, 0, hv, Sl.nil f w⟩
  · refine ⟨_, cap, hv, (fun h => by cases h), hc, .inr ⟨g, 0, rfl, (Array.getElem?_eq_some_iff.1 hg).1, fun j u hj => ?_⟩⟩
    rw [← ht, List.getElem?_take] at hj
    rw [cell_of_row w g (0 + j) cur e (0, 0) hg, Nat.zero_add]
    split at hj
    · simpa using hj
    · cases hj
end
theorem Sl.rec5 {w : World} {A : Option Addr} {cap : Nat} {l : List Rc} (h : Sl rf w A cap l) (j : Nat) (hj : j < l.length) : ∃ b off, A = some ⟨b, off, Option.none⟩ ∧ b < w.heap.size ∧
    w.cell? ⟨b, off + j * 5, Option.none⟩ = some (.string l[j].n) ∧ w.cell? ⟨b, off + j * 5 + 1, Option.none⟩ = some (.int .u16 (l[j].k : Nat)) ∧ w.cell? ⟨b, off + j * 5 + 2, Option.none⟩ = some (.int .u16 (l[j].c : Nat)) ∧ w.cell? ⟨b, off + j * 5 + 3, Option.none⟩ = some (.int .u32 (l[j].t : Nat)) ∧ w.cell? ⟨b, off + j * 5 + 4, Option.none⟩ = some (.string l[j].d) := by
  obtain ⟨b, off, h1, h2, h3⟩ := h.at rf_len j hj
  exact ⟨b, off, h1, h2, h3 0 _ rfl, h3 1 _ rfl, h3 2 _ rfl, h3 3 _ rfl, h3 4 _ rfl⟩
theorem Sl.ask3 {w : World} {A : Option Addr} {cap : Nat} {l : List Rc} (h : Sl qf w A cap l) (j : Nat) (hj : j < l.length) : ∃ b off, A = some ⟨b, off, Option.none⟩ ∧ b < w.heap.size ∧
    w.cell? ⟨b, off + j * 3, Option.none⟩ = some (.string l[j].n) ∧ w.cell? ⟨b, off + j * 3 + 1, Option.none⟩ = some (.int .u16 (l[j].k : Nat)) ∧ w.cell? ⟨b, off + j * 3 + 2, Option.none⟩ = some (.int .u16 (l[j].c : Nat)) := by
  obtain ⟨b, off, h1, h2, h3⟩ := h.at qf_len j hj
  exact ⟨b, off, h1, h2, h3 0 _ rfl, h3 1 _ rfl, h3 2 _ rfl⟩

/-- Where a message's slices lie. -/
structure Ad where
  aq : Option Addr
  cq : Nat
  a1 : Option Addr
  c1 : Nat
  a2 : Option Addr
  c2 : Nat
  a3 : Option Addr
  c3 : Nat
/-- A message's cells. -/
def msV (m : Ms) (d : Ad) : Array Value := #[.int .u16 (m.id : Nat), .bool m.qr, .bool m.aa, .bool m.tc, .bool m.rd, .bool m.ra, .int .i64 m.op, .int .i64 m.rc, .slice d.aq m.q.length d.cq, .slice d.a1 m.an.length d.c1, .slice d.a2 m.ns.length d.c2, .slice d.a3 m.ar.length d.c3]
structure Mg (w : World) (m : Ms) (d : Ad) : Prop where
  q : Sl qf w d.aq d.cq m.q
  an : Sl rf w d.a1 d.c1 m.an
  ns : Sl rf w d.a2 d.c2 m.ns
  ar : Sl rf w d.a3 d.c3 m.ar
theorem Mg.below {w w' : World} {m : Ms} {d : Ad} (h : Mg w m d) (hb : Below w.heap.size w w') : Mg w' m d := ⟨h.q.below' hb, h.an.below' hb, h.ns.below' hb, h.ar.below' hb⟩
theorem msV_all (m : Ms) (d : Ad) : (msV m d).all (·.oneCell') = true := by
  unfold msV
  kernel_rfl
theorem infoM : (Tryz.prog.info? 26).map (·.size) = some 12 := by kernel_rfl
theorem infoM' (m : Ms) (d : Ad) : (Tryz.prog.info? 26).map (·.size) = some (msV m d).size := infoM

set_option maxHeartbeats 1000000 in
theorem code_any (n : Int) (w : World) : Calls Tryz.prog 27 #[.int .i64 n] w fun e w' => e = .returned (.bool (codeB n)) ∧ w' = w := by
  unfold codeB
  cases h1 : decide (0 ≤ n) with
  | false =>
    have h2 : decide (n ≥ 0) = false := h1
    go_enter Tryz.func27, Tryz.ntmps27
    go_wp2_with fail
    go_ret
    exact ⟨rfl, rfl⟩
  | true =>
    have h2 : decide (n ≥ 0) = true := h1
    cases h3 : decide (n ≤ 15) with
    | false =>
      go_enter Tryz.func27, Tryz.ntmps27
      go_wp2_with fail
      go_ret
      exact ⟨rfl, rfl⟩
    | true =>
      go_enter Tryz.func27, Tryz.ntmps27
      go_wp2_with fail
      go_ret
      exact ⟨rfl, rfl⟩

set_option maxHeartbeats 1000000 in
/-- bitOf, at the places of the flags. -/
theorem bitOf_any (p : Nat) (hp : p ≤ 8) (w : World) : Calls Tryz.prog 73 #[.int .i64 p] w fun e w' => e = .returned (.int .u16 ((2 ^ (15 - p) : Nat) : Int)) ∧ w' = w := by
  have hc : p = 0 ∨ p = 1 ∨ p = 2 ∨ p = 3 ∨ p = 4 ∨ p = 5 ∨ p = 6 ∨ p = 7 ∨ p = 8 := by omega
  rcases hc with rfl | rfl | rfl | rfl | rfl | rfl | rfl | rfl | rfl
  all_goals
    go_enter Tryz.func73, Tryz.ntmps73
    go_wp2_with fail
    go_ret
    exact ⟨rfl, rfl⟩
end Go.Proofs.YtnakljbginbenaaGreatDoor
