/- A pack beside slices of numbers that the call makes. -/
import Derived.Test.YtnakljbginbenaaGreatDoorBwi
import Derived.Maps.AppendAt
namespace Go.Proofs.YtnakljbginbenaaGreatDoor
open Go.RowKit
set_option linter.unusedVariables false

theorem info3 : (Tryz.prog.info? 3).map (fun i => (i.zero, i.size, i.bytes)) = some (some (.int .i64 0), 1, 8) := by kernel_rfl
/-- A pack stays while a block of other cells turns. -/
theorem IsP.kept {B b : Nat} {S : List UInt8} {L : Kn} {w w' : World} {row : Option Nat} (h : IsP B b S L w) (hg : w.grownBy w' row) (hr : ∀ g, row = some g → ∃ cur t f, t ≠ 5 ∧ t ≠ 91 ∧ w.heap[g]? = some (.cells cur t f)) : IsP B b S L w' := by
  obtain ⟨h1, v, mv, h2, h3, h4⟩ := h
  refine ⟨h1, v, mv, (hg.block b (heap_lt h2) (fun e => ?_)).trans h2, h3.kept hg ?_, h4.kept hg (fun g e => by obtain ⟨cur, t, f, _, _, h5⟩ := hr g e; exact ⟨cur, t, f, h5⟩)⟩
  · obtain ⟨cur, t, f, _, ht, h5⟩ := hr b e.symm
    rw [h2] at h5
    cases h5
    exact ht rfl
  · cases hv : v.ownBlock with
    | none => exact .inl rfl
    | some g =>
      refine .inr (fun e => ?_)
      obtain ⟨cur, t, f, ht, _, h5⟩ := hr g e.symm
      obtain ⟨_, cur', h6⟩ := row_is h3 g hv
      rw [h5] at h6
      cases h6
      exact ht rfl
theorem St.kept {B b : Nat} {S : List UInt8} {L : Kn} {w w' : World} {row : Option Nat} (h : St B b S L w) (hg : w.grownBy w' row) (hr : ∀ g, row = some g → ∃ cur t f, t ≠ 5 ∧ t ≠ 91 ∧ w.heap[g]? = some (.cells cur t f)) : St B b S L w' := ⟨h.is.kept hg hr, h.kn, h.good⟩
theorem St.alloc {B b : Nat} {S : List UInt8} {L : Kn} {w : World} (h : St B b S L w) (o : Obj) : St B b S L (w.alloc o) := h.kept (World.grownBy_alloc w o none) (fun g e => by cases e)

def ints (xs : List Nat) : List Value := xs.map fun a => .int .i64 (a : Nat)
/-- A slice of numbers of the call's own. -/
def Ints (B : Nat) (v : Value) (xs : List Nat) (w : World) : Prop := w.ownsRow B 3 1 v xs.length (ints xs)
theorem ints_is {B : Nat} {v : Value} {xs : List Nat} {w : World} (h : Ints B v xs w) : ∀ g, v.ownBlock = some g → B ≤ g ∧ ∃ cur, w.heap[g]? = some (.cells cur 3 (0, 0)) := by
  intro g hg
  rcases h.2 with ⟨rfl, _⟩ | ⟨g', cap, cur, rfl, hb, hgg, _⟩
  · cases hg
  · cases hg
    exact ⟨hb, cur, hgg⟩
theorem Ints.kp {B : Nat} {v : Value} {xs : List Nat} {w w' : World} (h : Ints B v xs w) (hk : Kp w w') : Ints B v xs w' := by
  refine ⟨h.1, ?_⟩
  rcases h.2 with hn | ⟨g, cap, cur, rfl, hb, hgg, rest⟩
  · exact .inl hn
  · exact .inr ⟨g, cap, cur, rfl, hb, hk g cur 3 (0, 0) (by decide) (by decide) hgg, rest⟩
theorem Ints.below {B : Nat} {v : Value} {xs : List Nat} {w w' : World} (h : Ints B v xs w) (hb : Below w.heap.size w w') : Ints B v xs w' := h.kp (Kp.below hb)
theorem Ints.other {B : Nat} {v : Value} {xs : List Nat} {w w' : World} {row : Option Nat} (h : Ints B v xs w) (hg : w.grownBy w' row) (hne : v.ownBlock = none ∨ v.ownBlock ≠ row) : Ints B v xs w' := World.ownsRow.kept h hg hne
theorem Ints.alloc {B : Nat} {v : Value} {xs : List Nat} {w : World} (h : Ints B v xs w) (o : Obj) : Ints B v xs (w.alloc o) := World.ownsRow.alloc h o
theorem Ints.at {B : Nat} {A : Option Addr} {n cap : Nat} {xs : List Nat} {w : World} (h : Ints B (.slice A n cap) xs w) (j : Nat) (hj : j < xs.length) : ∃ g, A = some ⟨g, 0, none⟩ ∧ n = xs.length ∧ w.cell? ⟨g, j, none⟩ = some (.int .i64 (xs[j] : Nat)) := by
  rcases h.2 with ⟨hv, h0⟩ | ⟨g, cap', cur, hv, hb, hgg, hle, _, hcs, htk⟩
  · omega
  · cases hv
    refine ⟨g, rfl, rfl, ?_⟩
    have := World.ownsRow.cells h (g := g) rfl j (.int .i64 (xs[j] : Nat)) (by simp [ints, hj])
    unfold Addr.add at this
    split at this
    · rename_i h0; subst h0; exact this
    · simpa using this
theorem ints_snoc (xs : List Nat) (a : Nat) : ints (xs ++ [a]) = ints xs ++ [.int .i64 (a : Nat)] := by simp [ints]
/-- Two slices of numbers do not share a row. -/
def Apart (v v' : Value) : Prop := v.ownBlock = none ∨ v'.ownBlock = none ∨ v.ownBlock ≠ v'.ownBlock
theorem Apart.symm {v v' : Value} (h : Apart v v') : Apart v' v := by
  rcases h with h | h | h
  · exact .inr (.inl h)
  · exact .inl h
  · exact .inr (.inr h.symm)
theorem Apart.ne {v v' : Value} (h : Apart v v') : v.ownBlock = none ∨ v.ownBlock ≠ v'.ownBlock := by
  rcases h with h | h | h
  · exact .inl h
  · cases hv : v.ownBlock with
    | none => exact .inl rfl
    | some g => exact .inr (by rw [h]; simp)
  · exact .inr h
/-- Behind an append to one of two. -/
theorem Apart.step {B : Nat} {v v' u : Value} {xs : List Nat} {w : World} (h : Apart v u) (hu : Ints B u xs w) (hloc : v'.ownBlock = v.ownBlock ∨ v'.ownBlock = some (w.heap.size + 1)) : Apart v' u := by
  rcases hloc with e | e
  · unfold Apart at *
    rw [e]
    exact h
  · cases hb : u.ownBlock with
    | none => exact .inr (.inl hb)
    | some g =>
      refine .inr (.inr ?_)
      rw [e, hb]
      obtain ⟨_, cur, h1⟩ := ints_is hu g hb
      have := heap_lt h1
      intro e'
      have := Option.some.inj e'
      omega
/-- What is known of the parts that were added. -/
def Took (S : List UInt8) (ps : List (ByteArray × Bool)) (ats ends : List Nat) : Prop :=
  ∀ j (h : j < ps.length) (h1 : j < ats.length) (h2 : j < ends.length), ps[j].2 = false → mayB ps[j].1 = true → ∀ (s : ByteArray) (Y : List UInt8), s.data.toList = S ++ Y → tkB s ats[j] ats[j] = some (wire (labs ps[j].1), ends[j])
theorem Took.more {S : List UInt8} {ps : List (ByteArray × Bool)} {ats ends : List Nat} (h : Took S ps ats ends) {S2 X : List UInt8} (hS : S2 = S ++ X) (a e : Nat) (hl : ats.length = ends.length)
    (hlast : ∀ (h : ats.length < ps.length), ps[ats.length].2 = false → mayB ps[ats.length].1 = true → ∀ (s : ByteArray) (Y : List UInt8), s.data.toList = S2 ++ Y → tkB s a a = some (wire (labs ps[ats.length].1), e)) : Took S2 ps (ats ++ [a]) (ends ++ [e]) := by
  intro j hj h1 h2 hr hm s Y hs
  by_cases hlt : j < ats.length
  · rw [List.getElem_append_left hlt, List.getElem_append_left (by omega)]
    exact h j hj hlt (by omega) hr hm s (X ++ Y) (by rw [hs, hS, List.append_assoc])
  · have : j = ats.length := by simp at h1; omega
    subst this
    rw [List.getElem_concat_length rfl, List.getElem_concat_length (by omega)]
    exact hlast hj hr hm s Y hs
end Go.Proofs.YtnakljbginbenaaGreatDoor
