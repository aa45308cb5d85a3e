/- Joined texts: Wha Sha Wma Wmb Whb Whc Whd Wxa Wxb Wxc Wxd Wsa. -/
import Derived.Test.YtjjanogfcfapcaaRows
import Derived.Maps.RangeWalk
import Derived.WalkKit
import Derived.WalkSpells
import Derived.WalkLawsBesides
import Derived.Lib.Hide
import Derived.Deep.QuietTactic
import Derived.BigQuiet
import Derived.Deep.Draws
import Derived.OpenShut
import Derived.Laws.IdiomStrings
import Derived.Lib.AppendZeros
import Derived.Laws.AppendOwnNone
import Derived.Lib.SliceRun
import Derived.Lib.Walk
import Derived.Deep.RegionLaw
import Derived.Deep.RegionWith
import Derived.Laws.OwnMore
import Derived.Laws.ResultCell
import Derived.RegionTactic
import Derived.Deep.DeepCutAuto
import Derived.Below
import Derived.Laws.Rows
import Derived.Laws.Tables
import Derived.Deep.RegionHeld3
import Derived.Deep.AppendLies
import Derived.Deep.RegionHeld
import Derived.StillTailTactics
import Derived.RangeFuncNested
import Derived.RangeFuncBound
import Derived.RangeFuncCalls
import Derived.RangeFuncLeaves
import Derived.RangeFuncBox
import Derived.Shelf.Abstract
import Derived.Shelf.RegionOpen
import Derived.Sort.MapsRangeIn
import Derived.OwnWalkIn
import Derived.TacticsInMore
import Derived.LoopNIn
import Derived.LoopIn
import Derived.Maps.OwnIn
import Derived.Maps.AppendAt

/- Timers, in plain mathematics: a list of ids with times, in order; what setting, taking and being due make of it. Made ahead for stage 11. -/
namespace Go.Proofs.Ytjjanogfcfapcaa.W
set_option linter.unusedVariables false

/-- An id, and its time. -/
structure Ti where
  id : Int
  t : Nat
def ltT (a b : Ti) : Prop := a.t < b.t ∨ a.t = b.t ∧ a.id < b.id
instance (a b : Ti) : Decidable (ltT a b) := by unfold ltT; infer_instance
theorem ltT_trans {a b c : Ti} (h : ltT a b) (k : ltT b c) : ltT a c := by unfold ltT at *; omega
theorem ltT_irrefl (a : Ti) : ¬ ltT a a := by unfold ltT; omega
theorem ltT_tri (a b : Ti) : ltT a b ∨ a = b ∨ ltT b a := by
  unfold ltT
  by_cases h : a.t = b.t ∧ a.id = b.id
  · right; left
    obtain ⟨ai, at'⟩ := a
    obtain ⟨bi, bt⟩ := b
    simp at h
    obtain ⟨rfl, rfl⟩ := h
    rfl
  · omega
/-- In order, and no id twice. -/
structure Ord (l : List Ti) : Prop where
  so : l.Pairwise ltT
  nd : (l.map (·.id)).Nodup
def look (l : List Ti) (id : Int) : Option Nat := (l.find? fun x => x.id == id).map (·.t)
theorem look_nil (id : Int) : look [] id = none := rfl
theorem look_cons (x : Ti) (l : List Ti) (id : Int) : look (x :: l) id = if x.id = id then some x.t else look l id := by
  unfold look
  rw [List.find?_cons]
  by_cases h : x.id = id
  · simp [h]
  · have : (x.id == id) = false := by simpa using h
    rw [this, if_neg h]
theorem look_mem : ∀ {l : List Ti}, (l.map (·.id)).Nodup → ∀ {x : Ti}, x ∈ l ↔ look l x.id = some x.t
  | [], _, x => by simp [look_nil]
  | y :: l, h, x => by
    rw [List.map_cons, List.nodup_cons] at h
    rw [look_cons, List.mem_cons]
    by_cases e : y.id = x.id
    · rw [if_pos e]
      constructor
      · rintro (rfl | hm)
        · rfl
        · exact absurd (List.mem_map.2 ⟨x, hm, e.symm⟩) h.1
      · intro ht
        left
        obtain ⟨xi, xt⟩ := x
        obtain ⟨yi, yt⟩ := y
        simp at e ht
        subst e
        subst ht
        rfl
    · rw [if_neg e]
      constructor
      · rintro (rfl | hm)
        · exact absurd rfl e
        · exact (look_mem h.2).1 hm
      · exact fun ht => .inr ((look_mem h.2).2 ht)
theorem look_none {l : List Ti} {id : Int} (h : ∀ x ∈ l, x.id ≠ id) : look l id = none := by
  unfold look
  rw [List.find?_eq_none.2 (fun x hx => by simpa using h x hx)]
  rfl
theorem look_some {l : List Ti} {id : Int} {a : Nat} (h : look l id = some a) : (⟨id, a⟩ : Ti) ∈ l := by
  unfold look at h
  rw [Option.map_eq_some_iff] at h
  obtain ⟨x, h1, h2⟩ := h
  have h3 := List.find?_some h1
  have h4 := List.mem_of_find?_eq_some h1
  simp at h3
  obtain ⟨xi, xt⟩ := x
  simp at h3 h2
  subst h3
  subst h2
  exact h4
/-- Two lists in order that have the same are one. -/
theorem ord_ext : ∀ {l l' : List Ti}, l.Pairwise ltT → l'.Pairwise ltT → (∀ x, x ∈ l ↔ x ∈ l') → l = l'
  | [], [], _, _, _ => rfl
  | [], y :: l', _, _, h => absurd ((h y).2 (List.mem_cons_self ..)) (by simp)
  | x :: l, [], _, _, h => absurd ((h x).1 (List.mem_cons_self ..)) (by simp)
  | x :: l, y :: l', h1, h2, h => by
    rw [List.pairwise_cons] at h1 h2
    have hxy : x = y := by
      rcases List.mem_cons.1 ((h x).1 (List.mem_cons_self ..)) with e | e
      · exact e
      · rcases List.mem_cons.1 ((h y).2 (List.mem_cons_self ..)) with e' | e'
        · exact e'.symm
        · exact absurd (ltT_trans (h1.1 y e') (h2.1 x e)) (ltT_irrefl x)
    subst hxy
    have ht : ∀ z, z ∈ l ↔ z ∈ l' := fun z => by
      constructor
      · intro hz
        rcases List.mem_cons.1 ((h z).1 (List.mem_cons_of_mem _ hz)) with e | e
        · subst e; exact absurd (h1.1 z hz) (ltT_irrefl z)
        · exact e
      · intro hz
        rcases List.mem_cons.1 ((h z).2 (List.mem_cons_of_mem _ hz)) with e | e
        · subst e; exact absurd (h2.1 z hz) (ltT_irrefl z)
        · exact e
    rw [ord_ext h1.2 h2.2 ht]
/-- What lies in order has no element twice; two of one id are one. -/
theorem Ord.nodup {l : List Ti} (h : Ord l) : l.Nodup := h.so.imp (fun {a b} hab e => by subst e; exact ltT_irrefl a hab)

def delL (l : List Ti) (id : Int) : List Ti := l.filter fun x => x.id != id
theorem delL_ord {l : List Ti} (h : Ord l) (id : Int) : Ord (delL l id) := ⟨h.so.filter _, by
  have hs : List.Sublist ((delL l id).map (·.id)) (l.map (·.id)) := (List.filter_sublist (p := fun x : Ti => x.id != id) (l := l)).map _
  exact hs.nodup h.nd⟩
theorem delL_look (l : List Ti) (id j : Int) : look (delL l id) j = if j = id then none else look l j := by
  unfold delL
  induction l with
  | nil => rw [List.filter_nil, look_nil]; split <;> rfl
  | cons x l ih =>
    rw [List.filter_cons]
    by_cases e : x.id = id
    · rw [if_neg (by simpa using e), ih, look_cons]
      by_cases ej : j = id
      · rw [if_pos ej, if_pos ej]
      · rw [if_neg ej, if_neg ej, if_neg (by omega)]
    · rw [if_pos (by simpa using e), look_cons, look_cons, ih]
      by_cases ej : j = id
      · rw [if_pos ej, if_pos ej, if_neg (by omega)]
      · rw [if_neg ej, if_neg ej]
theorem delL_mem {l : List Ti} {id : Int} {x : Ti} : x ∈ delL l id ↔ x ∈ l ∧ x.id ≠ id := by
  unfold delL
  rw [List.mem_filter]
  simp
def insL (l : List Ti) (x : Ti) : List Ti := (l.takeWhile fun y => decide (ltT y x)) ++ x :: l.dropWhile fun y => decide (ltT y x)
theorem insL_mem {l : List Ti} {x y : Ti} : y ∈ insL l x ↔ y = x ∨ y ∈ l := by
  unfold insL
  have h : y ∈ l ↔ y ∈ (l.takeWhile fun y => decide (ltT y x)) ∨ y ∈ l.dropWhile fun y => decide (ltT y x) := by
    rw [← List.mem_append, List.takeWhile_append_dropWhile]
  rw [List.mem_append, List.mem_cons, h]
  constructor
  · rintro (h | h | h)
    · exact .inr (.inl h)
    · exact .inl h
    · exact .inr (.inr h)
  · rintro (h | h | h)
    · exact .inr (.inl h)
    · exact .inl h
    · exact .inr (.inr h)
theorem insL_cons (y : Ti) (l : List Ti) (x : Ti) : insL (y :: l) x = if ltT y x then y :: insL l x else x :: y :: l := by
  unfold insL
  rw [List.takeWhile_cons, List.dropWhile_cons]
  by_cases h : ltT y x
  · simp [h]
  · simp [h]
theorem insL_so : ∀ {l : List Ti} {x : Ti}, l.Pairwise ltT → (∀ y ∈ l, y ≠ x) → (insL l x).Pairwise ltT
  | [], x, _, _ => by simp [insL]
  | y :: l, x, h, hne => by
    rw [insL_cons]
    have hp := List.pairwise_cons.1 h
    split
    · rename_i hl
      rw [List.pairwise_cons]
      refine ⟨fun z hz => ?_, insL_so hp.2 (fun z hz => hne z (List.mem_cons_of_mem _ hz))⟩
      rcases insL_mem.1 hz with e | e
      · subst e; exact hl
      · exact hp.1 z e
    · rename_i hl
      have hxy : ltT x y := by
        rcases ltT_tri y x with e | e | e
        · exact absurd e hl
        · exact absurd e (hne y (List.mem_cons_self ..))
        · exact e
      rw [List.pairwise_cons]
      refine ⟨fun z hz => ?_, h⟩
      rcases List.mem_cons.1 hz with e | e
      · subst e; exact hxy
      · exact ltT_trans hxy (hp.1 z e)
theorem insL_nd : ∀ {l : List Ti} {x : Ti}, (l.map (·.id)).Nodup → (∀ y ∈ l, y.id ≠ x.id) → ((insL l x).map (·.id)).Nodup
  | [], x, _, _ => by simp [insL]
  | y :: l, x, h, hne => by
    rw [List.map_cons, List.nodup_cons] at h
    rw [insL_cons]
    split
    · rw [List.map_cons, List.nodup_cons]
      refine ⟨fun hm => ?_, insL_nd h.2 (fun z hz => hne z (List.mem_cons_of_mem _ hz))⟩
      obtain ⟨z, hz, e⟩ := List.mem_map.1 hm
      rcases insL_mem.1 hz with e' | e'
      · subst e'; exact hne y (List.mem_cons_self ..) e.symm
      · exact h.1 (List.mem_map.2 ⟨z, e', e⟩)
    · rw [List.map_cons, List.nodup_cons]
      refine ⟨fun hm => ?_, by rw [List.map_cons, List.nodup_cons]; exact h⟩
      obtain ⟨z, hz, e⟩ := List.mem_map.1 hm
      exact hne z hz e
def setL (l : List Ti) (id : Int) (t : Nat) : List Ti := insL (delL l id) ⟨id, t⟩
theorem setL_ord {l : List Ti} (h : Ord l) (id : Int) (t : Nat) : Ord (setL l id t) := by
  have hd := delL_ord h id
  have hn : ∀ y ∈ delL l id, y.id ≠ id := fun y hy => (delL_mem.1 hy).2
  exact ⟨insL_so hd.so (fun y hy e => hn y hy (by rw [e])), insL_nd hd.nd hn⟩
theorem setL_look {l : List Ti} (h : Ord l) (id j : Int) (t : Nat) : look (setL l id t) j = if j = id then some t else look l j := by
  have hs := setL_ord h id t
  by_cases e : j = id
  · subst e
    rw [if_pos rfl]
    exact (look_mem hs.nd (x := ⟨j, t⟩)).1 (insL_mem.2 (.inl rfl))
  · rw [if_neg e]
    have hd := delL_look l id j
    rw [if_neg e] at hd
    rw [← hd]
    cases ho : look (delL l id) j with
    | none =>
      apply look_none
      intro x hx
      rcases insL_mem.1 hx with hx | hx
      · subst hx; exact Ne.symm e
      · intro ex
        subst ex
        rw [(look_mem (delL_ord h id).nd).1 hx] at ho
        cases ho
    | some a =>
      exact (look_mem hs.nd (x := ⟨j, a⟩)).1 (insL_mem.2 (.inr (look_some ho)))
def dueL (l : List Ti) (now : Nat) : List Ti := l.takeWhile fun x => decide (x.t ≤ now)
def restL (l : List Ti) (now : Nat) : List Ti := l.dropWhile fun x => decide (x.t ≤ now)
theorem due_rest (l : List Ti) (now : Nat) : dueL l now ++ restL l now = l := List.takeWhile_append_dropWhile
theorem due_all : ∀ {l : List Ti} {now : Nat}, l.Pairwise ltT → dueL l now = (l.filter fun x => decide (x.t ≤ now)) ∧ restL l now = (l.filter fun x => !decide (x.t ≤ now))
  | [], _, _ => ⟨rfl, rfl⟩
  | y :: l, now, h => by
    have hp := List.pairwise_cons.1 h
    unfold dueL restL
    rw [List.takeWhile_cons, List.dropWhile_cons, List.filter_cons, List.filter_cons]
    by_cases e : y.t ≤ now
    · obtain ⟨h1, h2⟩ := due_all (now := now) hp.2
      unfold dueL at h1
      unfold restL at h2
      simp [e, h1, h2]
    · have ha : ∀ z ∈ l, ¬ z.t ≤ now := fun z hz => by
        have := hp.1 z hz
        unfold ltT at this
        omega
      have f1 : l.filter (fun x => decide (x.t ≤ now)) = [] := by
        rw [List.filter_eq_nil_iff]
        intro z hz
        simpa using ha z hz
      have f2 : l.filter (fun x => !decide (x.t ≤ now)) = l := by
        rw [List.filter_eq_self]
        intro z hz
        simpa using ha z hz
      simp only [e, if_false, decide_false, Bool.false_eq_true, Bool.not_false, if_true]
      rw [f1, f2]
      exact ⟨rfl, rfl⟩
theorem restL_ord {l : List Ti} (h : Ord l) (now : Nat) : Ord (restL l now) := by
  have hs : List.Sublist (restL l now) l := List.dropWhile_sublist _
  exact ⟨h.so.sublist hs, (hs.map _).nodup h.nd⟩
theorem mem_due {l : List Ti} (h : Ord l) {now : Nat} {x : Ti} : x ∈ dueL l now ↔ look l x.id = some x.t ∧ x.t ≤ now := by
  rw [(due_all h.so).1, List.mem_filter, look_mem h.nd, decide_eq_true_eq]
theorem mem_rest {l : List Ti} (h : Ord l) {now : Nat} {x : Ti} : x ∈ restL l now ↔ look l x.id = some x.t ∧ now < x.t := by
  rw [(due_all h.so).2, List.mem_filter, look_mem h.nd]
  simp
theorem restL_look {l : List Ti} (h : Ord l) (now : Nat) (j : Int) : look (restL l now) j = match look l j with | some a => if a ≤ now then none else some a | none => none := by
  cases ho : look l j with
  | none =>
    apply look_none
    intro x hx e
    subst e
    rw [((mem_rest h).1 hx).1] at ho
    cases ho
  | some a =>
    simp only
    by_cases e : a ≤ now
    · rw [if_pos e]
      apply look_none
      intro x hx ex
      obtain ⟨h1, h2⟩ := (mem_rest h).1 hx
      rw [ex, ho] at h1
      cases h1
      omega
    · rw [if_neg e]
      exact (look_mem (restL_ord h now).nd (x := ⟨j, a⟩)).1 ((mem_rest h).2 ⟨ho, by show now < a; omega⟩)
theorem head_least {x : Ti} {l : List Ti} (h : (x :: l).Pairwise ltT) : ∀ y ∈ l, x.t ≤ y.t := fun y hy => by
  have := (List.pairwise_cons.1 h).1 y hy
  unfold ltT at this
  omega
end Go.Proofs.Ytjjanogfcfapcaa.W

/- Mathematics for stage 12: what is due in a row of cells, one least after the other, is what a sorted list of their times says. No function of the program. -/
namespace Go.Proofs.Ytjjanogfcfapcaa.W
set_option linter.unusedVariables false
variable {α : Type} (ex : α → Nat)
/-- The cell of a slot: none = free. -/
def cellOf (c : List (Option α)) (i : Nat) : Option α := match c[i]? with | some o => o | none => none
/-- When a slot's entry ends. -/
def exAt (c : List (Option α)) (i : Nat) : Nat := match cellOf c i with | some e => ex e | none => 0
/-- One look: i is taken for k. -/
def lookK (c : List (Option α)) (now i : Nat) (k : Option Nat) : Option Nat :=
  match cellOf c i with
  | none => k
  | some e => if ex e ≤ now ∧ (k = none ∨ ex e < exAt ex c (k.getD 0)) then some i else k
/-- The least that is due among the first n: the lowest slot of those that end first. -/
def scanK (c : List (Option α)) (now : Nat) : Nat → Option Nat
  | 0 => none
  | n + 1 => lookK ex c now n (scanK c now n)
/-- What is found is due, and no other one is before it. -/
def LeastK (c : List (Option α)) (now n : Nat) : Option Nat → Prop
  | none => ∀ i, i < n → ∀ e, cellOf c i = some e → now < ex e
  | some k => k < n ∧ ∃ e, cellOf c k = some e ∧ ex e ≤ now ∧ ∀ i, i < n → ∀ e', cellOf c i = some e' → ex e' ≤ now → i ≠ k → ex e < ex e' ∨ ex e = ex e' ∧ k < i
theorem scanK_least (c : List (Option α)) (now : Nat) : ∀ n, LeastK ex c now n (scanK ex c now n)
  | 0 => fun i hi => absurd hi (Nat.not_lt_zero i)
  | n + 1 => by
    have ih := scanK_least c now n
    unfold scanK lookK
    cases hc : cellOf c n with
    | none =>
      simp only
      cases hs : scanK ex c now n with
      | none =>
        rw [hs] at ih
        intro i hi e he
        by_cases h : i = n
        · subst h; rw [hc] at he; cases he
        · exact ih i (by omega) e he
      | some k =>
        rw [hs] at ih
        obtain ⟨h1, e, h2, h3, h4⟩ := ih
        refine ⟨by omega, e, h2, h3, fun i hi e' he hle hne => ?_⟩
        by_cases h : i = n
        · subst h; rw [hc] at he; cases he
        · exact h4 i (by omega) e' he hle hne
    | some e =>
      simp only
      cases hs : scanK ex c now n with
      | none =>
        rw [hs] at ih
        by_cases hd : ex e ≤ now
        · rw [if_pos ⟨hd, .inl rfl⟩]
          refine ⟨by omega, e, hc, hd, fun i hi e' he hle hne => ?_⟩
          have := ih i (by omega) e' he
          omega
        · rw [if_neg (fun h => hd h.1)]
          intro i hi e' he
          by_cases h : i = n
          · subst h; rw [hc] at he; cases he; omega
          · exact ih i (by omega) e' he
      | some k =>
        rw [hs] at ih
        obtain ⟨h1, e1, h2, h3, h4⟩ := ih
        have hx : exAt ex c ((some k).getD 0) = ex e1 := by
          show exAt ex c k = ex e1
          unfold exAt
          rw [h2]
        rw [hx]
        by_cases hd : ex e ≤ now ∧ ex e < ex e1
        · rw [if_pos ⟨hd.1, .inr hd.2⟩]
          refine ⟨by omega, e, hc, hd.1, fun i hi e' he hle hne => ?_⟩
          by_cases h : i = k
          · subst h; rw [h2] at he; cases he; exact .inl hd.2
          · have := h4 i (by omega) e' he hle h
            omega
        · rw [if_neg (fun h => hd ⟨h.1, h.2.resolve_left (by simp)⟩)]
          refine ⟨by omega, e1, h2, h3, fun i hi e' he hle hne => ?_⟩
          by_cases h : i = n
          · subst h
            rw [hc] at he
            cases he
            have : ¬ ex e < ex e1 := fun hh => hd ⟨hle, hh⟩
            omega
          · exact h4 i (by omega) e' he hle hne
/-- A list of times that is the cells'. -/
structure TimesOf (c : List (Option α)) (l : List Ti) : Prop where
  ord : Ord l
  at_ : ∀ i : Nat, look l i = (cellOf c i).map ex
  nn : ∀ x ∈ l, 0 ≤ x.id
variable {ex}
theorem cellOf_lt {c : List (Option α)} {i : Nat} {e : α} (h : cellOf c i = some e) : i < c.length := by
  by_cases hi : i < c.length
  · exact hi
  · unfold cellOf at h
    rw [List.getElem?_eq_none (by omega)] at h
    cases h
theorem cellOf_set {c : List (Option α)} {k : Nat} (hk : k < c.length) (o : Option α) (i : Nat) : cellOf (c.set k o) i = if i = k then o else cellOf c i := by
  unfold cellOf
  rw [List.getElem?_set]
  by_cases h : k = i
  · subst h; simp [hk]
  · rw [if_neg h, if_neg (fun e => h e.symm)]
theorem dueL_cons (x : Ti) (l : List Ti) (now : Nat) : dueL (x :: l) now = if x.t ≤ now then x :: dueL l now else [] := by
  unfold dueL
  rw [List.takeWhile_cons]
  by_cases h : x.t ≤ now <;> simp [h]
theorem TimesOf.mem {c : List (Option α)} {l : List Ti} (h : TimesOf ex c l) {x : Ti} (hx : x ∈ l) : ∃ (k : Nat) (e : α), x.id = k ∧ cellOf c k = some e ∧ ex e = x.t := by
  obtain ⟨k, hk⟩ : ∃ k : Nat, x.id = k := ⟨x.id.toNat, by have := h.nn x hx; omega⟩
  have h1 := (look_mem h.ord.nd).1 hx
  rw [hk, h.at_ k] at h1
  cases hc : cellOf c k with
  | none => rw [hc] at h1; cases h1
  | some e => rw [hc] at h1; exact ⟨k, e, hk, hc, by simpa using h1⟩
/-- Nothing is due: none is found. -/
theorem scanK_none {c : List (Option α)} {l : List Ti} {now : Nat} (h : TimesOf ex c l) (hd : dueL l now = []) : scanK ex c now c.length = none := by
  have hl := scanK_least ex c now c.length
  cases hs : scanK ex c now c.length with
  | none => rfl
  | some k =>
    rw [hs] at hl
    obtain ⟨h1, e, h2, h3, _⟩ := hl
    have : (⟨k, ex e⟩ : Ti) ∈ dueL l now := (mem_due h.ord).2 ⟨by show look l k = some (ex e); rw [h.at_ k, h2]; rfl, h3⟩
    rw [hd] at this
    cases this
/-- The first that is due is found. -/
theorem scanK_some {c : List (Option α)} {l r : List Ti} {x : Ti} {now : Nat} (h : TimesOf ex c l) (hd : dueL l now = x :: r) : ∃ (k : Nat) (e : α), x.id = k ∧ scanK ex c now c.length = some k ∧ cellOf c k = some e ∧ ex e = x.t := by
  have hx : x ∈ dueL l now := by rw [hd]; exact List.mem_cons_self ..
  obtain ⟨hx1, hx2⟩ := (mem_due h.ord).1 hx
  have hxl : x ∈ l := (look_mem h.ord.nd).2 hx1
  obtain ⟨k0, e0, hk0, hc0, he0⟩ := h.mem hxl
  have hl := scanK_least ex c now c.length
  cases hs : scanK ex c now c.length with
  | none =>
    rw [hs] at hl
    have := hl k0 (cellOf_lt hc0) e0 hc0
    omega
  | some k =>
    rw [hs] at hl
    obtain ⟨h1, e, h2, h3, h4⟩ := hl
    by_cases hk : k0 = k
    · subst hk
      exact ⟨k0, e0, hk0, rfl, hc0, he0⟩
    · exfalso
      have hm : (⟨k, ex e⟩ : Ti) ∈ dueL l now := (mem_due h.ord).2 ⟨by show look l k = some (ex e); rw [h.at_ k, h2]; rfl, h3⟩
      rw [hd] at hm
      have hne : (⟨k, ex e⟩ : Ti) ≠ x := fun hq => hk (by have := congrArg Ti.id hq; simp only at this; omega)
      have hr : (⟨k, ex e⟩ : Ti) ∈ r := by
        rcases List.mem_cons.1 hm with hq | hq
        · exact absurd hq hne
        · exact hq
      have hso : (dueL l now).Pairwise ltT := h.ord.so.sublist (List.takeWhile_sublist _)
      rw [hd] at hso
      have hlt := (List.pairwise_cons.1 hso).1 _ hr
      have hb := h4 k0 (cellOf_lt hc0) e0 hc0 (by omega) hk
      unfold ltT at hlt
      simp only at hlt
      omega
/-- It goes: the rest is due, in that order. -/
theorem due_next {c : List (Option α)} {l r : List Ti} {x : Ti} {k now : Nat} (h : TimesOf ex c l) (hk : x.id = k) (hlt : k < c.length) (hd : dueL l now = x :: r) : TimesOf ex (c.set k none) (delL l x.id) ∧ dueL (delL l x.id) now = r := by
  constructor
  · refine ⟨delL_ord h.ord _, fun i => ?_, fun y hy => h.nn y (delL_mem.1 hy).1⟩
    rw [delL_look, cellOf_set hlt, hk]
    by_cases e : i = k
    · subst e; simp
    · rw [if_neg (by omega), if_neg e, h.at_ i]
  · cases l with
    | nil => cases hd
    | cons y l =>
      rw [dueL_cons] at hd
      by_cases hy : y.t ≤ now
      · rw [if_pos hy] at hd
        obtain ⟨rfl, rfl⟩ := List.cons.inj hd
        have hn := h.ord.nd
        rw [List.map_cons, List.nodup_cons] at hn
        have e : delL (y :: l) y.id = l := by
          unfold delL
          rw [List.filter_cons]
          simp only [bne_self_eq_false, Bool.false_eq_true, if_false]
          refine List.filter_eq_self.2 fun z hz => ?_
          have : z.id ≠ y.id := fun q => hn.1 (List.mem_map.2 ⟨z, hz, q⟩)
          simpa using this
        rw [e]
      · rw [if_neg hy] at hd
        cases hd
/-- Setting a cell sets the time. -/
theorem TimesOf.set {c : List (Option α)} {l : List Ti} (h : TimesOf ex c l) {k : Nat} (hlt : k < c.length) (e : α) : TimesOf ex (c.set k (some e)) (setL l k (ex e)) := by
  refine ⟨setL_ord h.ord _ _, fun i => ?_, fun y hy => ?_⟩
  · rw [setL_look h.ord, cellOf_set hlt]
    by_cases q : i = k
    · subst q; simp
    · rw [if_neg (by omega), if_neg q, h.at_ i]
  · rcases insL_mem.1 hy with rfl | hy
    · simp
    · exact h.nn y (delL_mem.1 hy).1
/-- Freeing a cell takes the time away. -/
theorem TimesOf.free {c : List (Option α)} {l : List Ti} (h : TimesOf ex c l) {k : Nat} (hlt : k < c.length) : TimesOf ex (c.set k none) (delL l k) := by
  refine ⟨delL_ord h.ord _, fun i => ?_, fun y hy => h.nn y (delL_mem.1 hy).1⟩
  rw [delL_look, cellOf_set hlt]
  by_cases q : i = k
  · subst q; simp
  · rw [if_neg (by omega), if_neg q, h.at_ i]
theorem TimesOf.new (n : Nat) : TimesOf ex (List.replicate n none) [] := by
  refine ⟨⟨List.Pairwise.nil, List.nodup_nil⟩, fun i => ?_, fun y hy => by cases hy⟩
  have : cellOf (List.replicate n (none : Option α)) i = none := by
    unfold cellOf
    rw [List.getElem?_replicate]
    split <;> simp_all
  rw [this]
  rfl
end Go.Proofs.Ytjjanogfcfapcaa.W

/- A map of ids with times, told by a sorted list: over 'World.ownsMap'. Made ahead for stage 11: no function of the program in it. -/
namespace Go.Proofs.Ytjjanogfcfapcaa.W
open Go.RowKit
open Go.Maps (Keyed IsMap Tidy)
set_option linter.unusedVariables false

theorem delL_length : ∀ {l : List Ti} {id : Int}, (l.map (·.id)).Nodup → (delL l id).length + (if (look l id).isSome then 1 else 0) = l.length
  | [], id, _ => by simp [delL, look_nil]
  | x :: l, id, h => by
    rw [List.map_cons, List.nodup_cons] at h
    have ih := delL_length (id := id) h.2
    rw [look_cons]
    by_cases e : x.id = id
    · have hn : look l id = none := look_none fun y hy ey => h.1 (by rw [e, ← ey]; exact List.mem_map_of_mem hy)
      rw [hn] at ih
      have d : delL (x :: l) id = delL l id := by simp [delL, e]
      rw [d, if_pos e]
      simp at ih ⊢
      exact ih
    · have d : delL (x :: l) id = x :: delL l id := by simp [delL, e]
      rw [d, if_neg e, List.length_cons, List.length_cons]
      omega
theorem insL_length (l : List Ti) (x : Ti) : (insL l x).length = l.length + 1 := by
  have e := congrArg List.length (List.takeWhile_append_dropWhile (p := fun y => decide (ltT y x)) (l := l))
  rw [List.length_append] at e
  unfold insL
  rw [List.length_append, List.length_cons]
  omega
theorem setL_length {l : List Ti} (h : (l.map (·.id)).Nodup) (id : Int) (t : Nat) : (setL l id t).length = if (look l id).isSome then l.length else l.length + 1 := by
  have e := delL_length (id := id) h
  unfold setL
  rw [insL_length]
  split at e
  · rename_i e1; rw [if_pos e1]; exact e
  · rename_i e1; rw [if_neg e1]; omega
/-- The part of a list that lies on some spokes. -/
theorem part_ord {l : List Ti} (h : Ord l) (p : Int → Bool) : Ord (l.filter fun x => p x.id) := ⟨h.so.filter _, (List.filter_sublist.map _).nodup h.nd⟩
theorem part_mem {l : List Ti} {p : Int → Bool} {x : Ti} : x ∈ (l.filter fun x => p x.id) ↔ x ∈ l ∧ p x.id = true := by simp
theorem part_look {l : List Ti} (p : Int → Bool) (id : Int) : look (l.filter fun x => p x.id) id = if p id then look l id else none := by
  induction l with
  | nil => simp [look_nil]
  | cons x l ih =>
    rw [List.filter_cons, look_cons]
    by_cases e : x.id = id
    · subst e
      by_cases c : p x.id = true
      · rw [if_pos c, if_pos c, look_cons, if_pos rfl, if_pos rfl]
      · rw [if_neg c, ih, if_neg c, if_neg c]
    · rw [if_neg e]
      by_cases c : p x.id = true
      · rw [if_pos c, look_cons, if_neg e, ih]
      · rw [if_neg c, ih]
theorem part_del (l : List Ti) (p : Int → Bool) (id : Int) : ((delL l id).filter fun x => p x.id) = delL (l.filter fun x => p x.id) id := by
  unfold delL
  rw [List.filter_filter, List.filter_filter]
  exact List.filter_congr fun x _ => Bool.and_comm _ _
theorem ord_of_look {l l' : List Ti} (h : Ord l) (h' : Ord l') (e : ∀ id, look l id = look l' id) : l = l' :=
  ord_ext h.so h'.so fun x => by rw [look_mem h.nd, look_mem h'.nd, e]
theorem part_del_other {l : List Ti} {p : Int → Bool} {id : Int} (hp : p id = false) : ((delL l id).filter fun x => p x.id) = l.filter fun x => p x.id := by
  unfold delL
  rw [List.filter_filter]
  refine List.filter_congr fun x _ => ?_
  by_cases e : x.id = id
  · rw [e, hp]; rfl
  · simp [e]
theorem part_set {l : List Ti} (h : Ord l) {p : Int → Bool} {id : Int} (hp : p id = true) (t : Nat) : ((setL l id t).filter fun x => p x.id) = setL (l.filter fun x => p x.id) id t := by
  refine ord_of_look (part_ord (setL_ord h id t) p) (setL_ord (part_ord h p) id t) fun j => ?_
  rw [part_look, setL_look h, setL_look (part_ord h p), part_look]
  by_cases e : j = id
  · rw [if_pos e, if_pos e, e, if_pos hp]
  · rw [if_neg e, if_neg e]
theorem part_set_other {l : List Ti} (h : Ord l) {p : Int → Bool} {id : Int} (hp : p id = false) (t : Nat) : ((setL l id t).filter fun x => p x.id) = l.filter fun x => p x.id := by
  refine ord_of_look (part_ord (setL_ord h id t) p) (part_ord h p) fun j => ?_
  rw [part_look, part_look, setL_look h]
  by_cases e : j = id
  · rw [e, hp]; simp
  · rw [if_neg e]
/-- How many lie on the first spokes. -/
def upTo (sp : Int → Nat) (l : List Ti) : Nat → Nat
  | 0 => 0
  | s + 1 => upTo sp l s + (l.filter fun x => sp x.id == s).length
theorem upTo_eq (sp : Int → Nat) (l : List Ti) : ∀ s, upTo sp l s = (l.filter fun x => decide (sp x.id < s)).length
  | 0 => by
    rw [List.filter_eq_nil_iff.2 fun x _ => by simp]
    rfl
  | s + 1 => by
    rw [upTo, upTo_eq sp l s]
    clear upTo_eq
    induction l with
    | nil => rfl
    | cons x l ih =>
      simp only [List.filter_cons]
      rcases Nat.lt_trichotomy (sp x.id) s with c | c | c
      · rw [if_pos (by simpa using c), if_neg (by simp; omega), if_pos (by simp; omega)]
        simp only [List.length_cons]; omega
      · rw [if_neg (by simp; omega), if_pos (by simpa using c), if_pos (by simp; omega)]
        simp only [List.length_cons]; omega
      · rw [if_neg (by simp; omega), if_neg (by simp; omega), if_neg (by simp; omega)]
        exact ih
theorem upTo_all {sp : Int → Nat} {s : Nat} (h : ∀ id, sp id < s) (l : List Ti) : upTo sp l s = l.length := by
  rw [upTo_eq]
  rw [List.filter_eq_self.2 fun x _ => by simpa using h x.id]

/-- The map's datum holds just the list's ids, each with its time. -/
structure Tells (D : DataW Unit) (l : List Ti) : Prop where
  tidy : Tidy D
  ord : Ord l
  has : ∀ id, Maps.has D (.int .i64 id) = (look l id).isSome
  at_ : ∀ id z, D.atKey (.int .i64 id) z = match look l id with | some t => .lit (.int .u64 (t : Nat)) | none => z
  size : Maps.size D = l.length
theorem key_lit (a : Int) : WideAt.IsKeyLit (.int .i64 a) := trivial
theorem lit_ne {a b : Int} (h : a ≠ b) : (Lit.int .i64 a) ≠ .int .i64 b := fun e => h (by cases e; rfl)
theorem tells_nil : Tells (.map []) [] := ⟨Maps.tidy_empty, ⟨List.Pairwise.nil, List.nodup_nil⟩, fun _ => rfl, fun _ _ => rfl, rfl⟩
theorem Tells.put {D : DataW Unit} {l : List Ti} (h : Tells D l) (id : Int) (t : Nat) : Tells (D.put (.int .i64 id) (.lit (.int .u64 (t : Nat)))) (setL l id t) := by
  refine ⟨h.tidy.put (key_lit id) _, setL_ord h.ord id t, fun j => ?_, fun j z => ?_, ?_⟩
  · rw [setL_look h.ord]
    by_cases e : j = id
    · subst e; rw [if_pos rfl, Maps.has_put_same h.tidy.isMap (key_lit _)]; rfl
    · rw [if_neg e, Maps.has_put_other (lit_ne e), h.has]
  · rw [setL_look h.ord]
    by_cases e : j = id
    · subst e; rw [if_pos rfl, Maps.atKey_put_same h.tidy.isMap (key_lit _)]
    · rw [if_neg e, Maps.atKey_put_other (lit_ne e), h.at_]
  · rw [Maps.size_put h.tidy, setL_length h.ord.nd, h.has, h.size]
theorem Tells.del {D : DataW Unit} {l : List Ti} (h : Tells D l) (id : Int) : Tells (D.del (.int .i64 id)) (delL l id) := by
  refine ⟨h.tidy.del _, delL_ord h.ord id, fun j => ?_, fun j z => ?_, ?_⟩
  · rw [delL_look]
    by_cases e : j = id
    · subst e; rw [if_pos rfl, Maps.has_del_same]; rfl
    · rw [if_neg e, Maps.has_del_other (lit_ne e), h.has]
  · rw [delL_look]
    by_cases e : j = id
    · subst e; rw [if_pos rfl, Maps.atKey_del_same]
    · rw [if_neg e, Maps.atKey_del_other (lit_ne e), h.at_]
  · have a := Maps.size_del (k := .int .i64 id) h.tidy
    have b := delL_length (id := id) h.ord.nd
    rw [h.has, h.size] at a
    omega

/-- Block b is a map of ids to times of at most n entries; they are the list's. -/
def Mp (P : Program) (k e : TypeId) (w : World) (b n : Nat) (l : List Ti) : Prop := ∃ D : DataW Unit, w.ownsMap P k (plainElem P e) b n D ∧ Tells D l
variable {P : Program} {k e : TypeId} {w : World} {b n r : Nat} {l td : List Ti}
theorem mp_made (w : World) (P : Program) (k e : TypeId) : Mp P k e (w.alloc (.map #[] 0)) w.heap.size 0 [] := ⟨_, World.ownsMap_made w P k _, tells_nil⟩
theorem Mp.ord (h : Mp P k e w b n l) : Ord l := let ⟨_, _, t⟩ := h; t.ord
theorem Mp.lt (h : Mp P k e w b n l) : b < w.heap.size := let ⟨_, o, _⟩ := h; o.lt
theorem Mp.len (h : Mp P k e w b n l) : l.length ≤ n := by obtain ⟨_, o, t⟩ := h; rw [← t.size]; exact o.size_le
theorem Mp.kept {w' : World} {row : Option Nat} (h : Mp P k e w b n l) (hg : w.grownBy w' row) (hne : some b ≠ row) : Mp P k e w' b n l := let ⟨D, o, t⟩ := h; ⟨D, o.kept hg hne, t⟩
theorem Mp.setCell (h : Mp P k e w b n l) {a : Addr} (ha : b ≠ a.block) (u : Value) : Mp P k e (w.setCell a u) b n l := let ⟨D, o, t⟩ := h; ⟨D, o.setCell ha u, t⟩
theorem Mp.block {w' : World} (h : Mp P k e w b n l) (hb : w'.heap[b]? = w.heap[b]?) : Mp P k e w' b n l := let ⟨D, ⟨es, c, h0, h1⟩, t⟩ := h; ⟨D, ⟨es, c, hb.trans h0, h1⟩, t⟩
/-- The bound may be any that the entries keep. -/
theorem Mp.tight (h : Mp P k e w b n l) : Mp P k e w b l.length l := by
  obtain ⟨D, ⟨es, c, h0, F, hs, hD⟩, t⟩ := h
  refine ⟨D, ⟨es, c, h0, F, ?_, hD⟩, t⟩
  have e1 := t.size
  rw [hD] at e1
  rw [← e1, Maps.size_eq, length_read]
  exact Nat.le_refl _

section
variable {ops : Array Oper} {rest : List Oper} {o : Oper} {a : Act} {Q : Exit → Act → World → Prop}
theorem wpList_mp_look (hg : o.guard = none) (m x : Operand) (t : TypeId) (hop : o.op = Op.lookup t m x true) (K : Keyed P k) (ht : P.underlying t = some (.map k e)) (hk : P.underlying k = some (.int .i64)) (he : P.underlying e = some (.int .u64))
    (hz : (zeroValue e).run P w = .ok (.int .u64 0) w) (id : Int) (hm : a.eval m = .map (some b)) (hI : Mp P k e w b n l) (hx : a.eval x = .int .i64 id) (hw : (Lit.int .i64 id).wf = true)
    (hK : wpList P ops Q rest (a.put o.dst (.tuple #[.int .u64 (((look l id).getD 0 : Nat) : Int), .bool (look l id).isSome])) w) : wpList P ops Q (o :: rest) a w := by
  obtain ⟨D, hown, T⟩ := hI
  refine wpList_lookup_own_ok_int w hg m x t hop k e .u64 K ht he hz b n D hm hown _ _ hx (Maps.keyOf_int_mk hk hw) ?_
  intro c hat hwc
  rw [T.has]
  rw [T.at_] at hat
  cases hl : look l id with
  | none => rw [hl] at hat hK; cases hat; exact hK
  | some v => rw [hl] at hat hK; cases hat; exact hK
theorem wpList_mp_put (hg : o.guard = none) (m x v : Operand) (t : TypeId) (hop : o.op = Op.mapUpdate t m x v) (K : Keyed P k) (ht : P.underlying t = some (.map k e)) (hk : P.underlying k = some (.int .i64)) (he : P.underlying e = some (.int .u64))
    (id : Int) (u : Nat) (hm : a.eval m = .map (some b)) (hI : Mp P k e w b n l) (hn : n < maxLen) (hx : a.eval x = .int .i64 id) (hv : a.eval v = .int .u64 (u : Int)) (hw : (Lit.int .i64 id).wf = true) (hu : (Lit.int .u64 (u : Int)).wf = true)
    (hK : ∀ w', Mp P k e w' b (n + 1) (setL l id u) → w.mapTurned w' b → wpList P ops Q rest (a.put o.dst undef) w') : wpList P ops Q (o :: rest) a w := by
  obtain ⟨D, hown, T⟩ := hI
  exact wpList_mapUpdate_in w hg m x v t hop k e K ht (plainElem P e) b n D hm hown hn _ _ _ hx hv (Maps.keyOf_int_mk hk hw) _ _ (plainElem_int he hu) fun w' h1 h2 => hK w' ⟨_, h1, T.put id u⟩ h2
theorem wpList_mp_del (hg : o.guard = none) (m x : Operand) (t : TypeId) (hop : o.op = Op.call { callee := Callee.builtin Builtin.delete, args := #[m, x], argTypes := #[t, k] }) (K : Keyed P k) (ht : P.underlying t = some (.map k e)) (hk : P.underlying k = some (.int .i64))
    (id : Int) (hm : a.eval m = .map (some b)) (hI : Mp P k e w b n l) (hx : a.eval x = .int .i64 id) (hw : (Lit.int .i64 id).wf = true)
    (hK : ∀ w', Mp P k e w' b n (delL l id) → w.mapTurned w' b → wpList P ops Q rest (a.put o.dst (.tuple #[])) w') : wpList P ops Q (o :: rest) a w := by
  obtain ⟨D, hown, T⟩ := hI
  exact wpList_delete_own w hg m x t k hop e K ht (plainElem P e) b n D hm hown _ _ hx (Maps.keyOf_int_mk hk hw) fun w' h1 h2 => hK w' ⟨_, h1, T.del id⟩ h2
theorem wpList_mp_len (hg : o.guard = none) (m : Operand) (t : TypeId) (hop : o.op = Op.call { callee := Callee.builtin Builtin.len, args := #[m], argTypes := #[t] }) (ht : P.underlying t = some (.map k e))
    (hm : a.eval m = .map (some b)) (hI : Mp P k e w b n l) (hK : wpList P ops Q rest (a.put o.dst (.int .i64 (l.length : Nat))) w) : wpList P ops Q (o :: rest) a w := by
  obtain ⟨D, hown, T⟩ := hI
  refine wpList_len_own w hg m t hop k e ht (plainElem P e) b n D hm hown ?_
  rw [T.size]
  exact hK

/-- 'for id, at := range m' under way: td are still to come. -/
def Rg (P : Program) (k e : TypeId) (w : World) (b r n : Nat) (l td : List Ti) : Prop := ∃ (D : DataW Unit) (left : Lit → Bool) (cnt : Nat), w.ranges P k (plainElem P e) b r n D left cnt ∧ Tells D l ∧ (∀ id, left (.int .i64 id) = (look td id).isSome) ∧ Ord td ∧ ∀ x ∈ td, x ∈ l
theorem Rg.mp (h : Rg P k e w b r n l td) : Mp P k e w b n l := let ⟨D, _, _, h, t, _⟩ := h; ⟨D, h.owns, t⟩
theorem Rg.ne (h : Rg P k e w b r n l td) : r ≠ b := let ⟨D, _, _, h, t, _⟩ := h; h.ne
theorem Rg.lt (h : Rg P k e w b r n l td) : r < w.heap.size := let ⟨D, _, _, h, t, _⟩ := h; h.lt
theorem Rg.todo (h : Rg P k e w b r n l td) : Ord td := let ⟨_, _, _, _, _, _, h, _⟩ := h; h
theorem Rg.sub (h : Rg P k e w b r n l td) : ∀ x ∈ td, x ∈ l := let ⟨_, _, _, _, _, _, _, h⟩ := h; h
theorem Rg.kept {w' : World} {row : Option Nat} (h : Rg P k e w b r n l td) (hg : w.grownBy w' row) (hb : some b ≠ row) (hr : some r ≠ row) : Rg P k e w' b r n l td := let ⟨D, left, cnt, h, t⟩ := h; ⟨D, left, cnt, h.kept hg hb hr, t⟩
theorem wpList_mp_range (hg : o.guard = none) (m : Operand) (t : TypeId) (hop : o.op = Op.range t m) (K : Keyed P k) (ht : P.underlying t = some (.map k e)) (hm : a.eval m = .map (some b)) (hI : Mp P k e w b n l)
    (hK : ∀ w', Rg P k e w' b w.heap.size n l l → w.grownBy w' none → w'.heap.size = w.heap.size + 1 → wpList P ops Q rest (a.put o.dst (.pointer (some ⟨w.heap.size, 0, none⟩))) w') : wpList P ops Q (o :: rest) a w := by
  obtain ⟨D, hown, T⟩ := hI
  exact wpList_range_own w hg m t hop k e K ht (plainElem P e) b n D hm hown fun w' h1 h2 h3 => hK w' ⟨D, _, _, h1, T, T.has, T.ord, fun x hx => hx⟩ h2 h3
theorem wpList_mp_next (hg : o.guard = none) (it : Operand) (hop : o.op = Op.next it false) (K : Keyed P k) (hk : P.underlying k = some (.int .i64)) (he : P.underlying e = some (.int .u64)) (td : List Ti) (hit : a.eval it = .pointer (some ⟨r, 0, none⟩)) (h : Rg P k e w b r n l td)
    (hDone : td = [] → wpList P ops Q rest (a.put o.dst (.tuple #[.bool false])) w)
    (hMore : ∀ (x : Ti) (w' : World), x ∈ td → (Lit.int .i64 x.id).wf = true → (Lit.int .u64 (x.t : Int)).wf = true → Rg P k e w' b r n l (delL td x.id) → w'.rangeLeft b r < w.rangeLeft b r → w.grownBy w' (some r) → w'.heap.size = w.heap.size →
      (Instr.entry (.pointer (some ⟨r, 0, none⟩))).run P w' = .ok (.tuple #[.int .i64 x.id, .int .u64 (x.t : Nat)]) w' → wpList P ops Q rest (a.put o.dst (.tuple #[.bool true, .int .i64 x.id, .int .u64 (x.t : Nat)])) w') : wpList P ops Q (o :: rest) a w := by
  obtain ⟨D, left, cnt, hrg, T, hl, hO, hs⟩ := h
  refine wpList_next_ranges_ii w hg it hop k e .i64 .u64 K hk he b r n D left cnt hit hrg (fun _ h0 => hDone ?_) ?_
  · cases td with
    | nil => rfl
    | cons x td =>
      have a1 := hl x.id
      rw [h0, (look_mem hO.nd).1 (List.mem_cons_self ..)] at a1
      cases a1
  · intro x c w' cnt' hwx hwc hlx hat hrg' hlt hg' hsz hen
    rw [hl] at hlx
    obtain ⟨t, ht⟩ := Option.isSome_iff_exists.1 hlx
    have hm := look_some ht
    have hml := hs _ hm
    have ht' := (look_mem T.ord.nd).1 hml
    have a1 := hat (.lit (.int .u64 0))
    rw [T.at_, ht'] at a1
    cases a1
    refine hMore ⟨x, t⟩ w' hm hwx hwc ⟨D, _, cnt', hrg', T, fun j => ?_, delL_ord hO x, fun y hy => hs y (delL_mem.1 hy).1⟩ (by rw [hrg'.left_eq, hrg.left_eq]; exact hlt) hg' hsz hen
    rw [delL_look]
    by_cases e1 : j = x
    · subst e1; rw [if_pos rfl, WideAt.sameKey_self (key_lit j)]; simp
    · rw [if_neg e1, hl, Maps.sameKey_ne (lit_ne e1)]; simp
theorem wpList_mp_drop (hg : o.guard = none) (m x : Operand) (t : TypeId) (hop : o.op = Op.call { callee := Callee.builtin Builtin.delete, args := #[m, x], argTypes := #[t, k] }) (K : Keyed P k) (ht : P.underlying t = some (.map k e)) (hk : P.underlying k = some (.int .i64))
    (td : List Ti) (id : Int) (hm : a.eval m = .map (some b)) (hI : Rg P k e w b r n l td) (hx : a.eval x = .int .i64 id) (hw : (Lit.int .i64 id).wf = true)
    (hK : ∀ w', Rg P k e w' b r n (delL l id) (delL td id) → w'.rangeLeft b r ≤ w.rangeLeft b r → w.mapTurned w' b → wpList P ops Q rest (a.put o.dst (.tuple #[])) w') : wpList P ops Q (o :: rest) a w := by
  obtain ⟨D, left, cnt, hrg, T, hl, hO, hs⟩ := hI
  refine wpList_delete_ranges w hg m x t k hop e K ht (plainElem P e) b r n D left cnt hm hrg _ _ hx (Maps.keyOf_int_mk hk hw) fun w' cnt' h1 h2 h3 => hK w' ⟨_, _, _, h1, T.del id, fun j => ?_, delL_ord hO id, fun y hy => ?_⟩ (by rw [h1.left_eq, hrg.left_eq]; exact h2) h3
  · rw [delL_look]
    by_cases e1 : j = id
    · subst e1; rw [if_pos rfl, WideAt.sameKey_self (key_lit j)]; simp
    · rw [if_neg e1, hl, Maps.sameKey_ne (lit_ne e1)]; simp
  · obtain ⟨a1, a2⟩ := delL_mem.1 hy
    exact delL_mem.2 ⟨hs y a1, a2⟩
end
theorem delL_twice (l : List Ti) (id : Int) : delL (delL l id) id = delL l id := by
  unfold delL
  rw [List.filter_filter]
  exact List.filter_congr fun x _ => by simp
end Go.Proofs.Ytjjanogfcfapcaa.W

/- A wheel of spokes in a slice, []map[int]uint64, told by a sorted list: the contracts of spoke, At, Del, Set. -/
namespace Go.Proofs.Ytjjanogfcfapcaa.W
open Go.RowKit
open Go.Maps (Keyed)
set_option linter.unusedVariables false

theorem keyedI : Keyed Try.prog 3 := Maps.int_keyed Try.underlying3
theorem zeroU (w : World) : (zeroValue 37).run Try.prog w = .ok (.int .u64 0) w := by kernel_rfl
/-- The spoke of an id. -/
def uid (id : Int) : Nat := (id % 18446744073709551616).toNat
def spk (s : Nat) (id : Int) : Nat := uid id % s
abbrev Mq := Mp Try.prog 3 37
structure Wl (w : World) (g sb s n : Nat) (bm : Nat → Nat) (l : List Ti) : Prop where
  c0 : w.cell? ⟨g, 0, none⟩ = some (.slice (some ⟨sb, 0, none⟩) s s)
  e0 : ∀ j, j < s → w.cell? ⟨sb, j, none⟩ = some (.map (some (bm j)))
  mp : ∀ j, j < s → Mq w (bm j) n (l.filter fun x => spk s x.id == j)
  inj : ∀ i j, i < s → j < s → bm i = bm j → i = j
  ord : Ord l
  pos : 0 < s
  le : s ≤ 256
theorem spk_lt {s : Nat} (h : 0 < s) (id : Int) : spk s id < s := Nat.mod_lt _ h
theorem wrap_uid (id : Int) : IntKind.u64.wrap id = (uid id : Nat) := by
  rw [IntKind.wrap_u64]
  unfold uid
  omega
theorem uid_lt (id : Int) : uid id < 18446744073709551616 := by
  unfold uid
  omega
set_option maxHeartbeats 1000000 in
theorem spoke_any (id : Int) {w : World} {g sb s n : Nat} {bm : Nat → Nat} {l : List Ti} (h : Wl w g sb s n bm l) : Calls Try.prog 60 #[.pointer (some ⟨g, 0, none⟩), .int .i64 id] w fun e w' => e = .returned (.map (some (bm (spk s id)))) ∧ ∃ q, w' = w.drewN q := by
  have c0 := h.c0
  have hp := h.pos
  have hl := h.le
  have hlt := spk_lt hp id
  have e0 := h.e0 _ hlt
  have r1 := wrap_uid id
  have r2 : IntKind.u64.wrap (s : Nat) = (s : Nat) := by rw [IntKind.wrap_u64]; omega
  have r3 : ((uid id : Nat) : Int).tmod (s : Nat) = (spk s id : Nat) := by rw [Int.tmod_eq_emod_of_nonneg (by omega)]; rfl
  have r4 : IntKind.u64.wrap (spk s id : Nat) = (spk s id : Nat) := by rw [IntKind.wrap_u64]; omega
  have r5 : ((s : Nat) : Int) ≠ 0 := by omega
  have s0 : (0 : Int) ≤ (spk s id : Nat) := by omega
  have s1 : ((spk s id : Nat) : Int) < (s : Nat) := by omega
  generalize spk s id = j at *
  generalize uid id = u at *
  go_enter Try.func60, Try.ntmps60
  go_wp2_with fail
  go_quiet (fail)
  go_wp2
  go_ret
  exact ⟨rfl, _, rfl⟩
theorem spoke_nil (id : Int) (w : World) : Calls Try.prog 60 #[.pointer none, .int .i64 id] w fun e w' => e = .returned (.map none) ∧ w' = w := by
  go_enter Try.func60, Try.ntmps60
  go_wp2_with fail
  go_ret
  exact ⟨rfl, rfl⟩
theorem nat_wf64 {t : Nat} (h : t < 18446744073709551616) : (Lit.int .u64 (t : Nat)).wf = true := by
  have hmin : IntKind.u64.min = 0 := rfl
  have hmax : IntKind.u64.max = 18446744073709551615 := rfl
  simp only [Lit.wf, Bool.and_eq_true, decide_eq_true_eq]
  omega
theorem Mp.drewN {P : Program} {k e : TypeId} {w : World} {b n : Nat} {l : List Ti} (h : Mp P k e w b n l) (q : Nat) : Mp P k e (w.drewN q) b n l := h.block rfl
theorem Wl.ne_g {w : World} {g sb s n : Nat} {bm : Nat → Nat} {l : List Ti} (h : Wl w g sb s n bm l) {j : Nat} (hj : j < s) : g ≠ bm j := by
  obtain ⟨_, ⟨es, c, h0, _⟩, _⟩ := h.mp j hj
  have c0 := h.c0
  intro e
  rw [e] at c0
  simp [World.cell?, h0] at c0
theorem Wl.ne_b {w : World} {g sb s n : Nat} {bm : Nat → Nat} {l : List Ti} (h : Wl w g sb s n bm l) {j : Nat} (hj : j < s) : sb ≠ bm j := by
  obtain ⟨_, ⟨es, c, h0, _⟩, _⟩ := h.mp j hj
  have c0 := h.e0 0 h.pos
  intro e
  rw [e] at c0
  simp [World.cell?, h0] at c0
set_option maxHeartbeats 1000000 in
theorem at_any (id : Int) (hw : (Lit.int .i64 id).wf = true) {w : World} {g sb s n : Nat} {bm : Nat → Nat} {l : List Ti} (h : Wl w g sb s n bm l) :
    Calls Try.prog 63 #[.pointer (some ⟨g, 0, none⟩), .int .i64 id] w fun e w' => e = .returned (.tuple #[.int .u64 (((look l id).getD 0 : Nat) : Int), .bool (look l id).isSome]) ∧ ∃ q, w' = w.drewN q := by
  have HC := Lib.hid (spoke_any id h)
  have hj := spk_lt h.pos id
  have HM := Lib.hid (h.mp _ hj)
  have HL := Lib.hid (part_look (l := l) (fun i => spk s i == spk s id) id)
  rw [if_pos (by simp)] at HL
  generalize spk s id = j at *
  clear h
  go_enter Try.func63, Try.ntmps63
  go_wp2_with (first
    | (go_at_call 60; with_reducible (refine HC.out.mono ?_); rintro e w1 ⟨rfl, q, rfl⟩)
    | (at_lookup; refine wpList_mp_look rfl _ _ _ rfl keyedI Try.underlying99 Try.underlying3 Try.underlying37 (zeroU _) id rfl (HM.out.drewN _) rfl hw ?_; rw [HL.out])
    | fail)
  go_ret2
  exact ⟨rfl, _, rfl⟩
theorem Mp.mono {P : Program} {k e : TypeId} {w : World} {b n n' : Nat} {l : List Ti} (h : Mp P k e w b n l) (hn : n ≤ n') : Mp P k e w b n' l := let ⟨D, o, t⟩ := h; ⟨D, o.mono hn, t⟩
theorem cell_grown {w w' : World} {r : Nat} (hg : w.grownBy w' (some r)) {b i : Nat} {v : Value} (h : w.cell? ⟨b, i, none⟩ = some v) (hne : b ≠ r) : w'.cell? ⟨b, i, none⟩ = some v := by
  have hlt : b < w.heap.size := by
    by_cases c : b < w.heap.size
    · exact c
    · simp [World.cell?, Array.getElem?_eq_none (Nat.le_of_not_lt c)] at h
  have e := hg.block b hlt (by simpa using hne)
  unfold World.cell? at h ⊢
  rw [e]
  exact h
/-- One spoke has turned: the wheel behind it. -/
theorem Wl.step {w w' : World} {g sb s n n' : Nat} {bm : Nat → Nat} {l l' : List Ti} (h : Wl w g sb s n bm l) {j : Nat} (hj : j < s) (hg : w.grownBy w' (some (bm j))) (hO : Ord l') (hm : Mq w' (bm j) n' (l'.filter fun x => spk s x.id == j))
    (ho : ∀ i, i < s → i ≠ j → (l'.filter fun x => spk s x.id == i) = l.filter fun x => spk s x.id == i) (hn : n ≤ n') : Wl w' g sb s n' bm l' where
  c0 := cell_grown hg h.c0 (h.ne_g hj)
  e0 i hi := cell_grown hg (h.e0 i hi) (h.ne_b hj)
  mp i hi := by
    by_cases e : i = j
    · subst e; exact hm
    · rw [ho i hi e]
      exact ((h.mp i hi).kept hg (fun e2 => e (h.inj i j hi hj (by simpa using e2)))).mono hn
  inj := h.inj
  ord := hO
  pos := h.pos
  le := h.le
theorem Wl.drewN {w : World} {g sb s n : Nat} {bm : Nat → Nat} {l : List Ti} (h : Wl w g sb s n bm l) (q : Nat) : Wl (w.drewN q) g sb s n bm l := ⟨h.c0, h.e0, fun j hj => (h.mp j hj).drewN q, h.inj, h.ord, h.pos, h.le⟩
theorem eq_nil (b : Nat) (w : World) : (binOp .eql 99 (.map (some b)) (.map none)).run Try.prog w = .ok (.bool false) w := by kernel_rfl
set_option maxHeartbeats 1000000 in
theorem del_any (id : Int) (hw : (Lit.int .i64 id).wf = true) {w : World} {g sb s n : Nat} {bm : Nat → Nat} {l : List Ti} (h : Wl w g sb s n bm l) :
    Calls Try.prog 56 #[.pointer (some ⟨g, 0, none⟩), .int .i64 id] w fun e w' => e = .returned (.bool (look l id).isSome) ∧ w.grownBy w' (some (bm (spk s id))) ∧ Wl w' g sb s n bm (delL l id) := by
  have HA := Lib.hid (at_any id hw h)
  have HC := Lib.hid (fun q => spoke_any id (h.drewN q))
  have hj := spk_lt h.pos id
  have HM := Lib.hid (h.mp _ hj)
  have HW := Lib.hid (fun w' (hg : w.grownBy w' (some (bm (spk s id)))) (hm : Mq w' (bm (spk s id)) n (delL (l.filter fun x => spk s x.id == spk s id) id)) =>
    h.step hj hg (delL_ord h.ord id) (by rw [part_del l (fun i => spk s i == spk s id) id]; exact hm) (fun i hi hne => part_del_other (p := fun x => spk s x == i) (by simp; omega)) (Nat.le_refl n))
  generalize spk s id = j at *
  generalize (l.filter fun x => spk s x.id == j) = lj at *
  generalize look l id = o at *
  clear h
  go_enter Try.func56, Try.ntmps56
  go_wp2_with (first
    | (go_at_call 63; with_reducible (refine HA.out.mono ?_); rintro e w1 ⟨rfl, q, rfl⟩)
    | (go_at_call 60; with_reducible (refine (HC.out _).mono ?_); rintro e w1 ⟨rfl, q, rfl⟩)
    | (at_delete; refine wpList_mp_del rfl _ _ _ rfl keyedI Try.underlying99 Try.underlying3 id rfl (by first | exact HM.out.drewN _ | exact (HM.out.drewN _).drewN _ | exact HM.out) rfl hw ?_; intro w2 hm2 ht2)
    | fail)
  go_ret
  have hg2 : w.grownBy w2 (some (bm j)) := ⟨ht2.grown.os, ht2.grown.tape, ht2.grown.output, ht2.grown.size, ht2.grown.block⟩
  exact ⟨rfl, hg2, HW.out w2 hg2 hm2⟩
set_option maxHeartbeats 1000000 in
theorem set_any (id : Int) (hw : (Lit.int .i64 id).wf = true) (t : Nat) (ht : t < 18446744073709551616) {w : World} {g sb s n : Nat} {bm : Nat → Nat} {l : List Ti} (h : Wl w g sb s n bm l) (hn : n < 100000) :
    Calls Try.prog 52 #[.pointer (some ⟨g, 0, none⟩), .int .i64 id, .int .u64 (t : Nat)] w fun e w' => e = .returned (.int .i64 0) ∧ w.grownBy w' (some (bm (spk s id))) ∧ Wl w' g sb s (n + 1) bm (setL l id t) := by
  have HC := Lib.hid (spoke_any id h)
  have hj := spk_lt h.pos id
  have HM := Lib.hid (h.mp _ hj)
  have hu : (Lit.int .u64 (t : Nat)).wf = true := nat_wf64 ht
  have hnm : n < maxLen := Nat.lt_of_lt_of_le hn (by decide)
  have HW := Lib.hid (fun w' (hg : w.grownBy w' (some (bm (spk s id)))) (hm : Mq w' (bm (spk s id)) (n + 1) (setL (l.filter fun x => spk s x.id == spk s id) id t)) =>
    h.step hj hg (setL_ord h.ord id t) (by rw [part_set h.ord (p := fun i => spk s i == spk s id) (by simp)]; exact hm) (fun i hi hne => part_set_other h.ord (p := fun x => spk s x == i) (by simp; omega) t) (Nat.le_succ n))
  generalize spk s id = j at *
  generalize (l.filter fun x => spk s x.id == j) = lj at *
  generalize bm j = bj at *
  have hen := eq_nil bj
  clear h
  go_enter Try.func52, Try.ntmps52
  go_wp2_with (first
    | (go_at_call 60; with_reducible (refine HC.out.mono ?_); rintro e w1 ⟨rfl, q, rfl⟩)
    | (at_mapUpdate; refine wpList_mp_put rfl _ _ _ _ rfl keyedI Try.underlying99 Try.underlying3 Try.underlying37 id t rfl (HM.out.drewN _) hnm rfl rfl hw hu ?_; intro w2 hm2 ht2)
    | fail)
  go_ret
  have hg2 : w.grownBy w2 (some bj) := ⟨ht2.grown.os, ht2.grown.tape, ht2.grown.output, ht2.grown.size, ht2.grown.block⟩
  exact ⟨rfl, hg2, HW.out w2 hg2 hm2⟩
theorem look_nilmap (id : Int) (w : World) : (Instr.lookup 99 (.map none) (.int .i64 id) true).run Try.prog w = .ok (.tuple #[.int .u64 0, .bool false]) w := by kernel_rfl
set_option maxHeartbeats 1000000 in
theorem at_nil (id : Int) (w : World) : Calls Try.prog 63 #[.pointer none, .int .i64 id] w fun e w' => e = .returned (.tuple #[.int .u64 0, .bool false]) ∧ w' = w := by
  have HC := Lib.hid (spoke_nil id w)
  have hln := look_nilmap id
  go_enter Try.func63, Try.ntmps63
  go_wp2_with (first
    | (go_at_call 60; with_reducible (refine HC.out.mono ?_); rintro e w1 ⟨rfl, rfl⟩)
    | fail)
  go_ret2
  exact ⟨rfl, rfl⟩
theorem nil_nil (w : World) : (binOp .eql 99 (.map none) (.map none)).run Try.prog w = .ok (.bool true) w := by kernel_rfl
set_option maxHeartbeats 1000000 in
theorem del_nil (id : Int) (hw : (Lit.int .i64 id).wf = true) (w : World) : Calls Try.prog 56 #[.pointer none, .int .i64 id] w fun e w' => e = .returned (.bool false) ∧ w' = w := by
  have HC := Lib.hid (spoke_nil id w)
  have HA := Lib.hid (at_nil id w)
  have hdn := fun w' => Go.Maps.drop_nil (w := w') keyedI Try.underlying99 (Maps.keyOf_int_mk Try.underlying3 hw) 0
  go_enter Try.func56, Try.ntmps56
  go_wp2_with (first
    | (go_at_call 63; with_reducible (refine HA.out.mono ?_); rintro e w1 ⟨rfl, rfl⟩)
    | (go_at_call 60; with_reducible (refine HC.out.mono ?_); rintro e w1 ⟨rfl, rfl⟩)
    | fail)
  go_ret
  exact ⟨rfl, rfl⟩
set_option maxHeartbeats 1000000 in
theorem set_nil (id : Int) (t : Nat) (w : World) : Calls Try.prog 52 #[.pointer none, .int .i64 id, .int .u64 (t : Nat)] w fun e w' => e = .returned (.int .i64 1) ∧ w' = w := by
  have HC := Lib.hid (spoke_nil id w)
  have hen := nil_nil
  go_enter Try.func52, Try.ntmps52
  go_wp2_with (first
    | (go_at_call 60; with_reducible (refine HC.out.mono ?_); rintro e w1 ⟨rfl, rfl⟩)
    | fail)
  go_ret
  exact ⟨rfl, rfl⟩
end Go.Proofs.Ytjjanogfcfapcaa.W

/- Items (derrickref11.Item) in memory; the contracts of derrickref11.less, Del, At, Next. Made ahead for stage 11 at a practice seat: look at the type numbers. -/
namespace Go.Proofs.Ytjjanogfcfapcaa.W
open Go.RowKit
set_option linter.unusedVariables false

theorem heap_lt {w : World} {g : Nat} {o : Obj} (h : w.heap[g]? = some o) : g < w.heap.size := (Array.getElem?_eq_some_iff.1 h).1
theorem blk_cell {w : World} {b : Nat} {cs : Array Value} {t : TypeId} (h : w.heap[b]? = some (.cells cs t (0, 0))) (i : Nat) : w.cell? ⟨b, i, none⟩ = cs[i]? := cell_of_row w b i cs t (0, 0) h
theorem el_of {t : TypeId} {z : Value} {a b : Nat} (h : (Try.prog.info? t).map (fun i => (i.zero, i.size, i.bytes)) = some (some z, a, b)) : ∃ i, Try.prog.info? t = some i ∧ i.zero = some z ∧ i.size = a ∧ i.bytes = b := by
  rw [Option.map_eq_some_iff] at h
  obtain ⟨i, h1, h2⟩ := h
  simp only [Prod.mk.injEq] at h2
  exact ⟨i, h1, h2.1, h2.2.1, h2.2.2⟩
theorem ownR_form {w : World} {B : Nat} {e : TypeId} {k : Nat} {v : Value} {n : Nat} {xs : List Value} (h : w.ownsRow B e k v n xs) : ∃ A cap, v = .slice A n cap := by
  rcases h.2 with ⟨rfl, rfl⟩ | ⟨g, cap, cur, rfl, _⟩
  · exact ⟨none, 0, rfl⟩
  · exact ⟨_, cap, rfl⟩
theorem ownR_below {w w' : World} {B : Nat} {e : TypeId} {k : Nat} {v : Value} {n : Nat} {xs : List Value} (h : w.ownsRow B e k v n xs) (hb : Below w.heap.size w w') : w'.ownsRow B e k v n xs := by
  refine ⟨h.1, ?_⟩
  rcases h.2 with h1 | ⟨g, cap, cur, h1, h2, h3, h4⟩
  · exact .inl h1
  · exact .inr ⟨g, cap, cur, h1, h2, (hb.block g (heap_lt h3)).trans h3, h4⟩
def zI : Value := .agg #[.int .i64 0, .int .u64 0]
/-- The cells of an item. -/
def tf (x : Ti) : List Value := [.int .i64 x.id, .int .u64 (x.t : Nat)]
theorem tf_len (l : List Ti) : (l.flatMap tf).length = l.length * 2 := by
  induction l with
  | nil => rfl
  | cons a l ih => rw [List.flatMap_cons, List.length_append, ih, List.length_cons]; simp [tf]; omega
theorem tf_at : ∀ (l : List Ti) (j i : Nat) (hj : j < l.length), i < 2 → (l.flatMap tf)[j * 2 + i]? = (tf l[j])[i]?
  | [], j, i, hj, _ => absurd hj (by simp)
  | a :: l, 0, i, hj, hi => by
    rw [List.flatMap_cons, List.getElem?_append_left (by simp [tf]; omega)]
    simp
  | a :: l, j + 1, i, hj, hi => by
    rw [List.flatMap_cons, List.getElem?_append_right (by simp [tf]; omega), show (j + 1) * 2 + i - (tf a).length = j * 2 + i by simp [tf]; omega]
    simpa using tf_at l j i (by simpa using hj) hi
theorem tf_one (l : List Ti) : ∀ u ∈ l.flatMap tf, u.oneCell' = true := fun u hu => by
  obtain ⟨r, _, hr⟩ := List.mem_flatMap.1 hu
  simp only [tf, List.mem_cons, List.not_mem_nil, or_false] at hr
  rcases hr with rfl | rfl <;> rfl
/-- A slice of items. -/
structure Ss (w : World) (A : Option Addr) (cap : Nat) (l : List Ti) : Prop where
  nl : A = Option.none → cap = 0
  le : l.length ≤ cap
  has : l = [] ∨ ∃ b off, A = some ⟨b, off, none⟩ ∧ b < w.heap.size ∧ ∀ j u, (l.flatMap tf)[j]? = some u → w.cell? ⟨b, off + j, none⟩ = some u
section
variable {w w' : World} {A : Option Addr} {cap : Nat} {l : List Ti}
theorem Ss.nil (w : World) : Ss w Option.none 0 [] := ⟨fun _ => rfl, Nat.le_refl _, .inl rfl⟩
theorem Ss.below (h : Ss w A cap l) (hb : Below w.heap.size w w') : Ss w' A cap l := by
  refine ⟨h.nl, h.le, ?_⟩
  rcases h.has with h1 | ⟨b, off, h1, h2, h3⟩
  · exact .inl h1
  · exact .inr ⟨b, off, h1, Nat.lt_of_lt_of_le h2 hb.size, fun j u hj => (hb.cell (p := ⟨b, off + j, Option.none⟩) h2).trans (h3 j u hj)⟩
theorem Ss.at (h : Ss w A cap l) (j : Nat) (hj : j < l.length) : ∃ b off, A = some ⟨b, off, Option.none⟩ ∧ b < w.heap.size ∧ w.cell? ⟨b, off + j * 2, Option.none⟩ = some (.int .i64 l[j].id) ∧ w.cell? ⟨b, off + j * 2 + 1, Option.none⟩ = some (.int .u64 (l[j].t : Nat)) := by
  rcases h.has with h1 | ⟨b, off, h1, h2, h3⟩
  · rw [h1] at hj; cases hj
  · refine ⟨b, off, h1, h2, ?_, ?_⟩
    · exact h3 (j * 2) _ (tf_at l j 0 hj (by omega))
    · rw [Nat.add_assoc]
      exact h3 (j * 2 + 1) _ (tf_at l j 1 hj (by omega))
end
theorem flat_snoc (l : List Ti) (x : Ti) : (l ++ [x]).flatMap tf = l.flatMap tf ++ tf x := by rw [List.flatMap_append]; simp

theorem delL_take (l : List Ti) (id : Int) (j : Nat) (hj : j < l.length) : delL (l.take (j + 1)) id = if l[j].id = id then delL (l.take j) id else delL (l.take j) id ++ [l[j]] := by
  unfold delL
  rw [List.take_add_one, List.getElem?_eq_getElem hj, List.filter_append]
  by_cases h : l[j].id = id
  · simp [h]
  · simp [h]
/-- Is there such an id? -/
def hasL (l : List Ti) (id : Int) : Bool := l.any fun x => x.id == id
theorem hasL_take (l : List Ti) (id : Int) (j : Nat) (hj : j < l.length) : hasL (l.take (j + 1)) id = (hasL (l.take j) id || decide (l[j].id = id)) := by
  unfold hasL
  rw [List.take_add_one, List.getElem?_eq_getElem hj, List.any_append]
  simp [Bool.beq_eq_decide_eq]

end Go.Proofs.Ytjjanogfcfapcaa.W

/- The contracts of derrickref11.At, Next, Due, Set. Made ahead for stage 11 at a practice seat. -/
namespace Go.Proofs.Ytjjanogfcfapcaa.W
open Go.RowKit
set_option linter.unusedVariables false

theorem look_snoc (l : List Ti) (x : Ti) (id : Int) (h : look l id = none) : look (l ++ [x]) id = if x.id = id then some x.t else none := by
  unfold look at *
  rw [List.find?_append]
  have hn : l.find? (fun x => x.id == id) = none := by simpa using h
  rw [hn]
  by_cases e : x.id = id
  · simp [e]
  · simp [e]
theorem look_take {l : List Ti} {id : Int} {j : Nat} (hj : j < l.length) (h : look (l.take j) id = none) : look (l.take (j + 1)) id = if l[j].id = id then some l[j].t else none := by
  rw [List.take_add_one, List.getElem?_eq_getElem hj]
  exact look_snoc _ _ _ h
theorem look_found : ∀ {l : List Ti} {id : Int} {j : Nat} (hj : j < l.length), look (l.take j) id = none → l[j].id = id → look l id = some l[j].t
  | [], id, j, hj, _, _ => absurd hj (by simp)
  | x :: l, id, 0, hj, _, e => by
    rw [look_cons, if_pos (show x.id = id from e)]
    rfl
  | x :: l, id, j + 1, hj, h, e => by
    rw [List.take_succ_cons, look_cons] at h
    rw [look_cons]
    by_cases ex : x.id = id
    · rw [if_pos ex] at h; cases h
    · rw [if_neg ex] at h ⊢
      exact look_found (by simpa using hj) h e
/-- At's answer, in two parts. -/
def lkT (o : Option Nat) : Nat := o.getD 0
/-- The least time. -/
def nextL (l : List Ti) : Option Nat := l.head?.map (·.t)
/-- A slice of ints. -/
def NsI (w : World) (A : Option Addr) (l : List Int) : Prop := ∀ j (h : j < l.length), ∃ b off : Nat, A = some ⟨b, off, none⟩ ∧ b < w.heap.size ∧ w.cell? ⟨b, off + j, none⟩ = some (.int .i64 l[j])
theorem NsI.below {w w' : World} {A : Option Addr} {l : List Int} (h : NsI w A l) (hb : Below w.heap.size w w') : NsI w' A l := fun j hj => by
  obtain ⟨b, off, h1, h2, h3⟩ := h j hj
  exact ⟨b, off, h1, Nat.lt_of_lt_of_le h2 hb.size, (hb.cell (p := ⟨b, off + j, none⟩) h2).trans h3⟩
def valI (l : List Int) : List Value := l.map fun i => Value.int .i64 i
theorem valI_snoc (l : List Int) (i : Int) : valI (l ++ [i]) = valI l ++ [Value.int .i64 i] := by simp [valI]
theorem elI : (Try.prog.info? 3).map (fun i => (i.zero, i.size, i.bytes)) = some (some (.int .i64 0), 1, 8) := by kernel_rfl
theorem newI (W : World) (n : Int) : ∀ j u, ([Value.int .i64 n] : List Value)[j]? = some u → (W.alloc (.cells #[.int .i64 n] 3)).cell? ((⟨W.heap.size, 0, none⟩ : Addr).add j) = some u := fun j u hj => by
  have h := heap_alloc_new W (Obj.cells #[.int .i64 n] 3)
  rw [Addr.add_lit, Nat.zero_add, blk_cell h j, ← hj]
  simp
theorem nsI_own {w : World} {B : Nat} {v : Value} {l : List Int} (h : w.ownsRow B 3 1 v l.length (valI l)) : ∃ A cap, v = .slice A l.length cap ∧ NsI w A l := by
  rcases h.2 with ⟨hv, hn⟩ | ⟨g, cap, cur, hv, hB, hg, hc, hm, hz, ht⟩
  · exact ⟨none, 0, by rw [hv, hn], fun j hj => by omega⟩
  · subst hv
    refine ⟨_, cap, rfl, fun j hj => ⟨g, 0, rfl, heap_lt hg, ?_⟩⟩
    rw [Nat.zero_add, h.cellAt j (by omega)]
    simp [valI, hj]
theorem due_at : ∀ {l : List Ti} {now j : Nat}, j ≤ l.length → (∀ x ∈ l.take j, x.t ≤ now) → (∀ h : j < l.length, now < l[j].t) → dueL l now = l.take j ∧ restL l now = l.drop j
  | [], now, j, hj, _, _ => by
    have : j = 0 := by simpa using hj
    subst this
    exact ⟨rfl, rfl⟩
  | x :: l, now, 0, _, _, h => by
    have := h (by simp)
    simp only [List.getElem_cons_zero] at this
    unfold dueL restL
    rw [List.takeWhile_cons, List.dropWhile_cons]
    have e : decide (x.t ≤ now) = false := by simp; omega
    rw [e]
    exact ⟨rfl, rfl⟩
  | x :: l, now, j + 1, hj, ha, h => by
    have e : decide (x.t ≤ now) = true := by simpa using ha x (by simp)
    obtain ⟨h1, h2⟩ := due_at (l := l) (now := now) (j := j) (by simpa using hj) (fun y hy => ha y (by rw [List.take_succ_cons]; exact List.mem_cons_of_mem _ hy)) (fun hlt => h (by simpa using hlt))
    unfold dueL restL at *
    rw [List.takeWhile_cons, List.dropWhile_cons, e, h1, h2]
    exact ⟨rfl, rfl⟩
theorem Ss.drop {w : World} {b off cap : Nat} {l : List Ti} (h : Ss w (some ⟨b, off, none⟩) cap l) (j : Nat) (hj : j ≤ l.length) : Ss w (some ⟨b, off + j * 2, none⟩) (cap - j) (l.drop j) := by
  refine ⟨(fun h => by cases h), by rw [List.length_drop]; have := h.le; omega, ?_⟩
  rcases h.has with h1 | ⟨b', off', h1, h2, h3⟩
  · left; rw [h1]; simp
  · cases h1
    refine .inr ⟨b, off + j * 2, rfl, h2, fun i u hu => ?_⟩
    rw [Nat.add_assoc]
    refine h3 (j * 2 + i) u ?_
    have e : l.flatMap tf = (l.take j).flatMap tf ++ (l.drop j).flatMap tf := by rw [← List.flatMap_append, List.take_append_drop]
    rw [e, List.getElem?_append_right (by rw [tf_len, List.length_take]; omega), tf_len, List.length_take, Nat.min_eq_left hj, Nat.add_sub_cancel_left]
    exact hu

end Go.Proofs.Ytjjanogfcfapcaa.W

/- The contract of derrickref11.Set. Made ahead for stage 11 at a practice seat. -/
namespace Go.Proofs.Ytjjanogfcfapcaa.W
open Go.RowKit
set_option linter.unusedVariables false

theorem ins_at : ∀ {l : List Ti} {x : Ti} {j : Nat}, j ≤ l.length → (∀ y ∈ l.take j, ltT y x) → (∀ h : j < l.length, ¬ ltT l[j] x) → insL l x = l.take j ++ x :: l.drop j
  | [], x, j, hj, _, _ => by
    have : j = 0 := by simpa using hj
    subst this
    rfl
  | y :: l, x, 0, _, _, h => by
    have := h (by simp)
    simp only [List.getElem_cons_zero] at this
    rw [insL_cons, if_neg this]
    rfl
  | y :: l, x, j + 1, hj, ha, h => by
    rw [insL_cons, if_pos (ha y (by simp)), ins_at (l := l) (x := x) (j := j) (by simpa using hj) (fun z hz => ha z (by rw [List.take_succ_cons]; exact List.mem_cons_of_mem _ hz)) (fun hlt => h (by simpa using hlt))]
    rfl
end Go.Proofs.Ytjjanogfcfapcaa.W

/- What a wheel's iterator hands on: the mathematics of what has come; the contracts of the functions all and all$1. -/
namespace Go.Proofs.Ytjjanogfcfapcaa.W
open Go.RowKit Go.Shelf
open Go.Maps (Keyed)
set_option linter.unusedVariables false
attribute [local go_sem] Oper.semAt_some

/-- The least time of a set of timers. -/
structure Lst (o : Option Nat) (S : Ti → Prop) : Prop where
  no : o = none → ∀ x, ¬ S x
  lo : ∀ m, o = some m → (∃ x, S x ∧ x.t = m) ∧ ∀ x, S x → m ≤ x.t
theorem Lst.start : Lst none fun _ => False := ⟨fun _ _ h => h, fun _ h => (by cases h)⟩
theorem Lst.congr {o : Option Nat} {S S' : Ti → Prop} (h : Lst o S) (e : ∀ x, S x ↔ S' x) : Lst o S' := by
  have : S = S' := funext fun x => propext (e x)
  rw [← this]; exact h
theorem Lst.more {o : Option Nat} {S : Ti → Prop} (h : Lst o S) (x : Ti) (hm : o = none ∨ ∃ m, o = some m ∧ x.t < m) : Lst (some x.t) fun y => S y ∨ y = x := by
  refine ⟨fun h => (by cases h), fun m e => ?_⟩
  cases e
  refine ⟨⟨x, .inr rfl, rfl⟩, fun y hy => ?_⟩
  rcases hy with hy | rfl
  · rcases hm with rfl | ⟨m, rfl, hm⟩
    · exact absurd hy (h.no rfl y)
    · have := (h.lo m rfl).2 y hy; omega
  · exact Nat.le_refl _
theorem Lst.stay {o : Option Nat} {S : Ti → Prop} (h : Lst o S) (x : Ti) {m : Nat} (e : o = some m) (hm : m ≤ x.t) : Lst o fun y => S y ∨ y = x := by
  subst e
  refine ⟨fun h => (by cases h), fun m' e => ?_⟩
  cases e
  obtain ⟨⟨y, hy, ey⟩, hl⟩ := h.lo m rfl
  refine ⟨⟨y, .inl hy, ey⟩, fun z hz => ?_⟩
  rcases hz with hz | rfl
  · exact hl z hz
  · exact hm
theorem Lst.head {o : Option Nat} {l : List Ti} (h : Lst o fun x => x ∈ l) (hO : Ord l) : o = l.head?.map (·.t) := by
  cases l with
  | nil =>
    cases o with
    | none => rfl
    | some m => obtain ⟨⟨x, hx, _⟩, _⟩ := h.lo m rfl; cases hx
  | cons x l =>
    cases o with
    | none => exact absurd (List.mem_cons_self ..) (h.no rfl x)
    | some m =>
      obtain ⟨⟨y, hy, ey⟩, hl⟩ := h.lo m rfl
      have a := hl x (List.mem_cons_self ..)
      have b : x.t ≤ y.t := by
        rcases List.mem_cons.1 hy with rfl | hy
        · exact Nat.le_refl _
        · exact head_least hO.so y hy
      have : m = x.t := by omega
      rw [this]; rfl
/-- The timers on the first spokes. -/
def onF (s : Nat) (l : List Ti) (j : Nat) (x : Ti) : Prop := x ∈ l ∧ spk s x.id < j
theorem below_cell {w w' : World} {b i : Nat} {v : Value} (h : Below w.heap.size w w') (hc : w.cell? ⟨b, i, none⟩ = some v) : w'.cell? ⟨b, i, none⟩ = some v := by
  have hlt : b < w.heap.size := by
    by_cases c : b < w.heap.size
    · exact c
    · simp [World.cell?, Array.getElem?_eq_none (Nat.le_of_not_lt c)] at hc
  have e := h.block b hlt
  unfold World.cell? at hc ⊢
  rw [e]
  exact hc
theorem below_grown {a b c : World} {row : Option Nat} (h : Below a.heap.size a b) (g : b.grownBy c row) (hr : ∀ r, row = some r → a.heap.size ≤ r) : Below a.heap.size a c where
  os := g.os.trans h.os
  tape := g.tape.trans h.tape
  output := g.output.trans h.output
  size := Nat.le_trans h.size g.size
  block i hi := (g.block i (Nat.lt_of_lt_of_le hi h.size) (fun e => by have := hr i e.symm; omega)).trans (h.block i hi)
/-- What has come of a spoke. -/
theorem come_step {lj td : List Ti} (hO : Ord td) (hs : ∀ x ∈ td, x ∈ lj) {x : Ti} (hx : x ∈ td) (S : Ti → Prop) (y : Ti) : (S y ∨ y ∈ lj ∧ y ∉ td) ∨ y = x ↔ S y ∨ y ∈ lj ∧ y ∉ delL td x.id := by
  have key : y ∈ delL td x.id ↔ y ∈ td ∧ y ≠ x := by
    rw [delL_mem]
    refine and_congr_right fun hy => not_congr ⟨fun e => ?_, fun e => by rw [e]⟩
    have a := (look_mem hO.nd).1 hy
    have b := (look_mem hO.nd).1 hx
    rw [e, b] at a
    cases x; cases y
    simp at a e
    simp [a, e]
  rw [key]
  by_cases e : y = x
  · subst e
    simp [hx, hs y hx]
  · simp [e]

theorem Rg.of_walks {P : Program} {k e : TypeId} {w w' : World} {b r n : Nat} {l td : List Ti} (h : Rg P k e w b r n l td) (hk : KeepsWalks w w') : Rg P k e w' b r n l td := let ⟨D, left, cnt, h, t⟩ := h; ⟨D, left, cnt, h.of_walks hk, t⟩
theorem Rg.left_walks {P : Program} {k e : TypeId} {w w' : World} {b r n : Nat} {l td : List Ti} (h : Rg P k e w b r n l td) (hk : KeepsWalks w w') : w'.rangeLeft b r = w.rangeLeft b r := by
  obtain ⟨D, left, cnt, h, t⟩ := h
  rw [(h.of_walks hk).left_eq, h.left_eq]
theorem Rg.walk {P : Program} {k e : TypeId} {w : World} {b r n : Nat} {l td : List Ti} (h : Rg P k e w b r n l td) : ∃ o : Obj, w.heap[r]? = some o ∧ o.isWalk = true := let ⟨D, left, cnt, h, t⟩ := h; h.iter_walk
section
variable {F : Fence} {nF : Nat} {P : Program} {k e : TypeId} {w : World} {b n r : Nat} {l td : List Ti} {ops : Array Oper} {rest : List Oper} {o : Oper} {a : Act} {Q : Exit → Act → World → Prop}
theorem wpListIn_mp_range (hg : o.guard = none) (m : Operand) (t : TypeId) (hop : o.op = Op.range t m) (K : Keyed P k) (ht : P.underlying t = some (.map k e)) (hm : a.eval m = .map (some b)) (hI : Mp P k e w b n l)
    (hK : ∀ w', Rg P k e w' b w.heap.size n l l → w.grownBy w' none → w'.heap.size = w.heap.size + 1 → wpListIn F nF P ops Q rest (a.put o.dst (.pointer (some ⟨w.heap.size, 0, none⟩))) w') : wpListIn F nF P ops Q (o :: rest) a w := by
  obtain ⟨D, hown, T⟩ := hI
  exact wpListIn_range_own w hg m t hop k e K ht (plainElem P e) b n D hm hown fun w' h1 h2 h3 => hK w' ⟨D, _, _, h1, T, T.has, T.ord, fun x hx => hx⟩ h2 h3
theorem wpListIn_mp_next (hg : o.guard = none) (it : Operand) (hop : o.op = Op.next it false) (K : Keyed P k) (hk : P.underlying k = some (.int .i64)) (he : P.underlying e = some (.int .u64)) (td : List Ti) (hit : a.eval it = .pointer (some ⟨r, 0, none⟩)) (h : Rg P k e w b r n l td)
    (hDone : td = [] → wpListIn F nF P ops Q rest (a.put o.dst (.tuple #[.bool false])) w)
    (hMore : ∀ (x : Ti) (w' : World), x ∈ td → (Lit.int .i64 x.id).wf = true → (Lit.int .u64 (x.t : Int)).wf = true → Rg P k e w' b r n l (delL td x.id) → w'.rangeLeft b r < w.rangeLeft b r → w.grownBy w' (some r) → w'.heap.size = w.heap.size →
      (Instr.entry (.pointer (some ⟨r, 0, none⟩))).run P w' = .ok (.tuple #[.int .i64 x.id, .int .u64 (x.t : Nat)]) w' → wpListIn F nF P ops Q rest (a.put o.dst (.tuple #[.bool true, .int .i64 x.id, .int .u64 (x.t : Nat)])) w') : wpListIn F nF P ops Q (o :: rest) a w := by
  obtain ⟨D, left, cnt, hrg, T, hl, hO, hs⟩ := h
  refine wpListIn_next_ranges_ii w hg it hop k e .i64 .u64 K hk he b r n D left cnt hit hrg (fun _ h0 => hDone ?_) ?_
  · cases td with
    | nil => rfl
    | cons x td =>
      have a1 := hl x.id
      rw [h0, (look_mem hO.nd).1 (List.mem_cons_self ..)] at a1
      cases a1
  · intro x c w' cnt' hwx hwc hlx hat hrg' hlt hg' hsz hen
    rw [hl] at hlx
    obtain ⟨t, ht⟩ := Option.isSome_iff_exists.1 hlx
    have hm := look_some ht
    have hml := hs _ hm
    have ht' := (look_mem T.ord.nd).1 hml
    have a1 := hat (.lit (.int .u64 0))
    rw [T.at_, ht'] at a1
    cases a1
    refine hMore ⟨x, t⟩ w' hm hwx hwc ⟨D, _, cnt', hrg', T, fun j => ?_, delL_ord hO x, fun y hy => hs y (delL_mem.1 hy).1⟩ (by rw [hrg'.left_eq, hrg.left_eq]; exact hlt) hg' hsz hen
    rw [delL_look]
    by_cases e1 : j = x
    · subst e1; rw [if_pos rfl, WideAt.sameKey_self (key_lit j)]; simp
    · rw [if_neg e1, hl, Maps.sameKey_ne (lit_ne e1)]; simp
end
theorem nodup_len : ∀ (a b : List Ti), a.Nodup → (∀ x ∈ a, x ∈ b) → a.length ≤ b.length := by
  intro a
  induction a with
  | nil => intro b _ _; simp
  | cons x a ih =>
    intro b hn hs
    rw [List.nodup_cons] at hn
    obtain ⟨b1, b2, rfl⟩ := List.append_of_mem (hs x (List.mem_cons_self ..))
    have := ih (b1 ++ b2) hn.2 fun y hy => by
      have := hs y (List.mem_cons_of_mem _ hy)
      rcases List.mem_append.1 this with c | c
      · exact List.mem_append.2 (.inl c)
      · rcases List.mem_cons.1 c with c | c
        · subst c; exact absurd hy hn.1
        · exact List.mem_append.2 (.inr c)
    simp only [List.length_append, List.length_cons] at this ⊢
    omega
/-- What a round keeps: all that lay below n₀, and every map and iterator. -/
def Kpw (n₀ : Nat) (A B : World) : Prop := Below n₀ A B ∧ KeepsWalks A B
theorem kpw_t {n₀ : Nat} {A B C : World} (h : Kpw n₀ A B) (k : Kpw n₀ B C) : Kpw n₀ A C := ⟨h.1.trans k.1, h.2.trans k.2⟩
theorem kpw_b {n₀ : Nat} {w : World} (hn : n₀ ≤ w.heap.size) (W : World) (l : Nat) (o o' : Obj) (hl : w.heap.size ≤ l) (h : W.heap[l]? = some o) (h1 : o.isCells = false) (h2 : o.isWalk = false) : Kpw n₀ W (W.putObj l o') :=
  ⟨belowK_b hn W l o o' hl h h1 h2, KeepsWalks.putObj _ h h2⟩
/-- The wheel lies below n₀. -/
structure Low (n₀ g sb s : Nat) (bm : Nat → Nat) : Prop where
  g : g < n₀
  b : sb < n₀
  m : ∀ j, j < s → bm j < n₀
theorem Wl.low {w w' : World} {n₀ g sb s n : Nat} {bm : Nat → Nat} {l : List Ti} (h : Wl w g sb s n bm l) (hl : Low n₀ g sb s bm) (hb : Below n₀ w w') : Wl w' g sb s n bm l :=
  ⟨(hb.cell (p := ⟨g, 0, none⟩) hl.g).trans h.c0, fun j hj => (hb.cell (p := ⟨sb, j, none⟩) hl.b).trans (h.e0 j hj), fun j hj => (h.mp j hj).block (hb.block _ (hl.m j hj)), h.inj, h.ord, h.pos, h.le⟩
theorem Wl.isLow {w : World} {g sb s n : Nat} {bm : Nat → Nat} {l : List Ti} (h : Wl w g sb s n bm l) : Low w.heap.size g sb s bm := by
  have lt : ∀ (b i : Nat) (v : Value), w.cell? ⟨b, i, none⟩ = some v → b < w.heap.size := fun b i v hc => by
    by_cases c : b < w.heap.size
    · exact c
    · simp [World.cell?, Array.getElem?_eq_none (Nat.le_of_not_lt c)] at hc
  exact ⟨lt _ _ _ h.c0, lt _ _ _ (h.e0 0 h.pos), fun j hj => (h.mp j hj).lt⟩
theorem below_at {n₀ : Nat} {a b : World} {row : Option Nat} (g : a.grownBy b row) (hr : ∀ r, row = some r → n₀ ≤ r) (hn : n₀ ≤ a.heap.size) : Below n₀ a b where
  os := g.os
  tape := g.tape
  output := g.output
  size := g.size
  block i hi := g.block i (Nat.lt_of_lt_of_le hi hn) (fun e => by have := hr i e.symm; omega)
abbrev encT (x : Ti) : Array Value := #[.int .i64 x.id, .int .u64 (x.t : Nat)]
/-- All have come: each once. -/
structure AllT (l ys : List Ti) : Prop where
  nd : ys.Nodup
  mem : ∀ x, x ∈ ys ↔ x ∈ l
  wf : ∀ x ∈ ys, (Lit.int .i64 x.id).wf = true
/-- Those on the first spokes have come, and of one more spoke all but td. -/
structure Come (s : Nat) (l : List Ti) (j : Nat) (lj td pre : List Ti) : Prop where
  nd : pre.Nodup
  mem : ∀ y, y ∈ pre ↔ onF s l j y ∨ y ∈ lj ∧ y ∉ td
  wf : ∀ y ∈ pre, (Lit.int .i64 y.id).wf = true
theorem Come.start (s : Nat) (l : List Ti) : Come s l 0 [] [] [] := ⟨List.nodup_nil, fun y => by simp [onF], fun y h => (by cases h)⟩
theorem Come.spoke {s : Nat} {l : List Ti} {j : Nat} {pre : List Ti} (h : Come s l j [] [] pre) (lj : List Ti) : Come s l j lj lj pre := ⟨h.nd, fun y => by rw [h.mem]; simp, h.wf⟩
theorem Come.next {s : Nat} {l : List Ti} {j : Nat} {pre : List Ti} (h : Come s l j (l.filter fun x => spk s x.id == j) [] pre) : Come s l (j + 1) [] [] pre := ⟨h.nd, fun y => by
  rw [h.mem]
  unfold onF
  rw [List.mem_filter, beq_iff_eq]
  simp only [List.not_mem_nil, not_false_eq_true, and_true, or_false]
  constructor
  · rintro (⟨a, b⟩ | ⟨a, b⟩)
    · exact ⟨a, by omega⟩
    · exact ⟨a, by omega⟩
  · rintro ⟨a, b⟩
    by_cases c : spk s y.id = j
    · exact .inr ⟨a, c⟩
    · exact .inl ⟨a, by omega⟩, h.wf⟩
theorem Come.fresh {s : Nat} {l : List Ti} {j : Nat} {td pre : List Ti} (h : Come s l j (l.filter fun x => spk s x.id == j) td pre) (hs : ∀ x ∈ td, x ∈ (l.filter fun x => spk s x.id == j)) {x : Ti} (hx : x ∈ td) : x ∉ pre := fun hp => by
  have h1 := List.mem_filter.1 (hs x hx)
  rw [beq_iff_eq] at h1
  rcases (h.mem x).1 hp with ⟨_, a⟩ | ⟨_, a⟩
  · omega
  · exact a hx
theorem Come.more {s : Nat} {l : List Ti} {j : Nat} {td pre : List Ti} (h : Come s l j (l.filter fun x => spk s x.id == j) td pre) (hO : Ord td) (hs : ∀ x ∈ td, x ∈ (l.filter fun x => spk s x.id == j)) {x : Ti} (hx : x ∈ td) (hw : (Lit.int .i64 x.id).wf = true) : Come s l j (l.filter fun x => spk s x.id == j) (delL td x.id) (pre ++ [x]) := by
  refine ⟨?_, fun y => ?_, fun y hy => ?_⟩
  · rw [List.nodup_append]
    refine ⟨h.nd, by simp, fun a ha b hb e => ?_⟩
    rw [List.mem_singleton.1 hb] at e
    subst e
    exact h.fresh hs hx ha
  · rw [List.mem_append, List.mem_singleton, h.mem, come_step hO hs hx (onF s l j) y]
  · rcases List.mem_append.1 hy with a | a
    · exact h.wf y a
    · rw [List.mem_singleton.1 a]; exact hw
theorem Come.lt {s : Nat} {l : List Ti} {j : Nat} {td pre : List Ti} (h : Come s l j (l.filter fun x => spk s x.id == j) td pre) (hs : ∀ x ∈ td, x ∈ (l.filter fun x => spk s x.id == j)) {x : Ti} (hx : x ∈ td) : pre.length < l.length := by
  have hn : (x :: pre).Nodup := List.nodup_cons.2 ⟨h.fresh hs hx, h.nd⟩
  have := nodup_len (x :: pre) l hn fun y hy => by
    rcases List.mem_cons.1 hy with rfl | hy
    · exact (List.mem_filter.1 (hs y hx)).1
    · rcases (h.mem y).1 hy with ⟨a, _⟩ | ⟨a, _⟩
      · exact a
      · exact (List.mem_filter.1 a).1
  simp at this
  omega
theorem Come.all {s : Nat} {l pre : List Ti} (h : Come s l s [] [] pre) (hp : 0 < s) : AllT l pre := ⟨h.nd, fun x => by rw [h.mem]; unfold onF; simp [spk_lt hp], h.wf⟩

set_option maxRecDepth 100000 in
set_option maxHeartbeats 2000000 in
theorem all1_in (nd : Nat) (hn : 1 ≤ nd) (lp Bn n₀ : Nat) {g sb s n : Nat} {bm : Nat → Nat} {l : List Ti} (J Jx : List Ti → World → Prop)
    (hY : ∀ pre x W, J pre W → pre.length < l.length → YieldAt Fence.wide (nd - 1) Try.prog lp (encT x) W fun e W' =>
      (e = .returned (.bool true) ∧ J (pre ++ [x]) W' ∧ Kpw n₀ W W') ∨ (e = .returned (.bool false) ∧ Jx (pre ++ [x]) W'))
    (W : World) (hJ : AbidesFrom W.heap.size J) (hBn : W.cell? ⟨Bn, 0, none⟩ = some (.pointer (some ⟨g, 0, none⟩))) (h : Wl W g sb s n bm l) (hL : Low n₀ g sb s bm) (hn0 : n₀ ≤ W.heap.size) (h0 : J [] W) :
    CallsIn Fence.wide nd Try.prog 64 #[.func (.yield lp) #[] #[], .pointer (some ⟨Bn, 0, none⟩)] W fun e W' => (∃ v, e = .returned v) ∧
      ((∃ ys, AllT l ys ∧ J ys W') ∨ (∃ pre : List Ti, True ∧ Jx pre W')) := by
  have c0 := h.c0
  have hle := h.le
  have HW := Lib.hid h
  have HL := Lib.hid hL
  clear h
  refine callsIn_of_wp Try.func64 rfl trivial ?_ rfl
  simp only [Try.ntmps64, List.size_toArray, List.length_cons, List.length_nil, Nat.reduceAdd, Nat.reduceSub, Array.replicate_succ, Array.replicate_zero, List.push_toArray, List.append_toArray, List.nil_append, List.cons_append]
  gi_wp2
  gi_loopw [14] (fun y wr => ∃ (j : Nat) (pre : List Ti), j ≤ s ∧ y = .int .i64 j ∧ Wl wr g sb s n bm l ∧ Come s l j [] [] pre ∧ J pre wr ∧ W.heap.size ≤ wr.heap.size) (fun y _ => s - (intOf y).toNat)
  case atStart => exact ⟨0, [], Nat.zero_le _, rfl, HW.out, Come.start s l, h0, Nat.le_refl _⟩
  case round =>
    clear h0
    obtain ⟨j, pre, hj, rfl, hWl, hC, hJs, hsz⟩ := hrel
    by_cases hlt : j < s
    · have d1 : decide ((j : Int) < (s : Nat)) = true := by simp; omega
      have e0 := hWl.e0 j hlt
      have HM := Lib.hid (hWl.mp j hlt)
      have s0 : (0 : Int) ≤ (j : Nat) := by omega
      have s1 : (j : Int) < (s : Nat) := by omega
      have HI := Lib.hid (And.intro hWl (And.intro (hC.spoke (l.filter fun x => spk s x.id == j)) hJs))
      clear hWl hC hJs
      gi_wp2_with (first
        | (gi_at_range; refine wpListIn_mp_range rfl _ _ rfl keyedI Try.underlying99 rfl HM.out ?_; intro w0 hrg0 hg0 hs0)
        | gi_in)
      go_frame
      have HR0 := Lib.hid hrg0
      have HI0 := Lib.hid (And.intro (HI.out.1.low HL.out (below_at hg0 (fun r h => by cases h) (by omega))) (And.intro HI.out.2.1 (hJ pre wr w0 none HI.out.2.2 hg0 (fun r e => by cases e))))
      have hsz0 : W.heap.size ≤ w0.heap.size := by omega
      clear hrg0 hg0 hs0 HI HM
      generalize wr.heap.size = r at *
      gi_loopw [5, 6] (fun _ _ wq => ∃ (td pre : List Ti), Wl wq g sb s n bm l ∧ Rg Try.prog 3 37 wq (bm j) r n (l.filter fun x => spk s x.id == j) td ∧ Come s l j (l.filter fun x => spk s x.id == j) td pre ∧ J pre wq ∧ W.heap.size ≤ wq.heap.size) (fun _ _ wq => wq.rangeLeft (bm j) r)
      case atStart => exact ⟨_, pre, HI0.out.1, HR0.out, HI0.out.2.1, HI0.out.2.2, hsz0⟩
      case round =>
        clear HI0 HR0 hsz0
        obtain ⟨td, pre1, hWl, hR, hC, hJs, hsz1⟩ := hrel
        have HI := Lib.hid (And.intro hWl (And.intro hR (And.intro hC hJs)))
        clear hWl hR hC hJs
        gi_wp2_with (first
          | (gi_at_next; refine wpListIn_mp_next rfl _ rfl keyedI Try.underlying3 Try.underlying37 td rfl HI.out.2.1 ?_ ?_)
          | gi_in)
        · intro htd
          gi_wp2
          subst htd
          refine ⟨⟨j + 1, pre1, hlt, by go_num, HI.out.1, HI.out.2.2.1.next, HI.out.2.2.2, hsz1⟩, by simp [intOf]; omega⟩
        · intro x w1 hx hwx hwt hR1 hlt1 hg1 hsz2 hen
          have hJ1 : J pre1 w1 := hJ pre1 _ w1 (some r) HI.out.2.2.2 hg1 (fun q e => by cases e; exact ⟨hsz, HI.out.2.1.walk⟩)
          obtain ⟨fn, tmps, assign, body, hy, hRn⟩ := hY pre1 x w1 hJ1 (HI.out.2.2.1.lt HI.out.2.1.sub hx)
          have HN := Lib.hid (And.intro (HI.out.1.low HL.out (below_at hg1 (fun q e => by cases e; omega) (by omega))) (And.intro hR1 (HI.out.2.2.1.more HI.out.2.1.todo HI.out.2.1.sub hx hwx)))
          have HT := Lib.hid hlt1
          have hsz3 : W.heap.size ≤ w1.heap.size := by omega
          clear hR1 hlt1 hg1 hsz2 hwx hwt hJ1 HI
          dsimp only [encT] at hy
          gi_wp2
          refine hRn.mono ?_
          rintro e W3 (⟨rfl, hJ3, hk3⟩ | ⟨rfl, hJx3⟩)
          · have HK := Lib.hid hk3
            have HJ3 := Lib.hid hJ3
            clear hk3 hJ3
            gi_wp2
            go_roundw
            case rel => exact ⟨delL td x.id, pre1 ++ [x], HN.out.1.low HL.out HK.out.1, HN.out.2.1.of_walks HK.out.2, HN.out.2.2, HJ3.out, Nat.le_trans hsz3 HK.out.1.size⟩
            case measure => rw [HN.out.2.1.left_walks HK.out.2]; exact HT.out
          · have HJ3 := Lib.hid hJx3
            clear hJx3
            gi_wp2
            refine bodyPost_ret (results_none rfl _ _ _) rfl ?_
            exact ⟨⟨_, rfl⟩, .inr ⟨pre1 ++ [x], trivial, HJ3.out⟩⟩
    · have e : j = s := by omega
      subst e
      have d1 : decide ((j : Int) < (j : Nat)) = false := by simp
      have HA := Lib.hid (And.intro (hC.all HW.out.pos) hJs)
      clear hC hJs hWl
      gi_wp2
      go_end0
      exact ⟨⟨_, rfl⟩, .inl ⟨pre, HA.out.1, HA.out.2⟩⟩
end Go.Proofs.Ytjjanogfcfapcaa.W

/- The contracts of Len and Next of a wheel that is told by a list; of a wheel that is nil, too. -/
namespace Go.Proofs.Ytjjanogfcfapcaa.W
open Go.RowKit Go.Shelf
open Go.Maps (Keyed)
set_option linter.unusedVariables false
attribute [local go_sem] Oper.semAt_some

set_option maxHeartbeats 1000000 in
theorem all_gives (nd : Nat) (p : Option Addr) (w : World) : CallsIn Fence.wide nd Try.prog 57 #[.pointer p] w fun e w' => e = .returned (.func (.func 64) #[] #[.pointer (some ⟨w.heap.size, 0, none⟩)]) ∧ w' = w.alloc (.cells #[.pointer p] 67) := by
  refine callsIn_of_wp Try.func57 rfl trivial ?_ rfl
  simp only [Try.ntmps57, List.size_toArray, List.length_cons, List.length_nil, Nat.reduceAdd, Nat.reduceSub, Array.replicate_succ, Array.replicate_zero, List.push_toArray, List.append_toArray, List.nil_append, List.cons_append]
  gi_wp2
  go_ret
  exact ⟨rfl, rfl⟩
theorem all_stops (nd : Nat) (hn : 1 ≤ nd) (Bn n₀ : Nat) {g sb s n : Nat} {bm : Nat → Nat} {l : List Ti} (w : World) (hB : Bn < w.heap.size) (hn0 : n₀ ≤ w.heap.size) (hc : w.cell? ⟨Bn, 0, none⟩ = some (.pointer (some ⟨g, 0, none⟩))) (h : Wl w g sb s n bm l) (hL : Low n₀ g sb s bm) :
    SeqStopsK Fence.wide nd Try.prog 64 #[.pointer (some ⟨Bn, 0, none⟩)] encT (Kpw n₀) (AllT l) (fun _ => True) l.length w := fun lp J Jx W hW hJ hJx hY h0 =>
  all1_in nd hn lp Bn n₀ J Jx hY W hJ ((hW.cell (p := ⟨Bn, 0, none⟩) hB).trans hc) (h.low hL (hW.mono hn0)) hL (Nat.le_trans hn0 hW.size) h0
set_option maxRecDepth 100000 in
set_option maxHeartbeats 1000000 in
theorem nil_stops (nd : Nat) (hn : 1 ≤ nd) (Bn n₀ : Nat) (w : World) (hB : Bn < w.heap.size) (hc : w.cell? ⟨Bn, 0, none⟩ = some (.pointer none)) :
    SeqStopsK Fence.wide nd Try.prog 64 #[.pointer (some ⟨Bn, 0, none⟩)] encT (Kpw n₀) (AllT []) (fun _ => True) 0 w := fun lp J Jx W hW hJ hJx hY h0 => by
  have hcW := (hW.cell (p := ⟨Bn, 0, none⟩) hB).trans hc
  refine callsIn_of_wp Try.func64 rfl trivial ?_ rfl
  simp only [Try.ntmps64, List.size_toArray, List.length_cons, List.length_nil, Nat.reduceAdd, Nat.reduceSub, Array.replicate_succ, Array.replicate_zero, List.push_toArray, List.append_toArray, List.nil_append, List.cons_append]
  gi_wp2
  refine bodyPost_ret (results_none rfl _ _ _) rfl ?_
  exact ⟨⟨_, rfl⟩, .inl ⟨[], ⟨List.nodup_nil, fun x => Iff.rfl, fun x h => (by cases h)⟩, h0⟩⟩
/-- The wheel, or none: what comes of it. -/
def WlN (w : World) (p : Option Addr) (l : List Ti) : Prop := (p = none ∧ l = []) ∨ ∃ g sb s n bm, p = some ⟨g, 0, none⟩ ∧ Wl w g sb s n bm l
theorem WlN.stops {w0 : World} {p : Option Addr} {l : List Ti} (h : WlN w0 p l) (nd : Nat) (hn : 1 ≤ nd) (Bn : Nat) (w : World) (hb : Below w0.heap.size w0 w) (hB : Bn < w.heap.size) (hc : w.cell? ⟨Bn, 0, none⟩ = some (.pointer p)) :
    SeqStopsK Fence.wide nd Try.prog 64 #[.pointer (some ⟨Bn, 0, none⟩)] encT (Kpw w0.heap.size) (AllT l) (fun _ => True) l.length w := by
  rcases h with ⟨rfl, rfl⟩ | ⟨g, sb, s, n, bm, rfl, h⟩
  · exact nil_stops nd hn Bn _ w hB hc
  · exact all_stops nd hn Bn _ w hB hb.size hc (h.low h.isLow hb) h.isLow
theorem AllT.len {l ys : List Ti} (h : AllT l ys) (hl : l.Nodup) : ys.length = l.length := ((List.perm_ext_iff_of_nodup h.nd hl).2 h.mem).length_eq
theorem WlN.ord {w : World} {p : Option Addr} {l : List Ti} (h : WlN w p l) : Ord l := by
  rcases h with ⟨rfl, rfl⟩ | ⟨g, sb, s, n, bm, rfl, h⟩
  · exact ⟨List.Pairwise.nil, List.nodup_nil⟩
  · exact h.ord
theorem ownFrom_ex {β γ : Type} {B : Nat} {I : γ → β → World → Prop} (h : ∀ c, OwnFrom B (I c)) : OwnFrom B (fun s W => ∃ c, I c s W) := fun s W W' row ⟨c, hc⟩ hg hr => ⟨c, h c s W W' row hc hg hr⟩
theorem kpw_set {n₀ : Nat} {W : World} {b : Nat} (h : n₀ ≤ b) (v : Value) : Kpw n₀ W (W.setCell ⟨b, 0, none⟩ v) := ⟨(Below.refl n₀ W).setCell (p := ⟨b, 0, none⟩) h _, KeepsWalks.setCell _ _ _⟩
theorem kpw_refl (n₀ : Nat) (W : World) : Kpw n₀ W W := ⟨Below.refl _ _, KeepsWalks.refl _⟩

theorem Lst.more_l {o : Option Nat} {pre : List Ti} (h : Lst o fun x => x ∈ pre) (x : Ti) (hm : o = none ∨ ∃ m, o = some m ∧ x.t < m) : Lst (some x.t) fun y => y ∈ pre ++ [x] := (h.more x hm).congr fun y => by simp
theorem Lst.stay_l {o : Option Nat} {pre : List Ti} (h : Lst o fun x => x ∈ pre) (x : Ti) {m : Nat} (e : o = some m) (hm : m ≤ x.t) : Lst o fun y => y ∈ pre ++ [x] := (h.stay x e hm).congr fun y => by simp
end Go.Proofs.Ytjjanogfcfapcaa.W

/- The contract of New: a wheel that has nothing. -/
namespace Go.Proofs.Ytjjanogfcfapcaa.W
open Go.RowKit
open Go.Maps (Keyed)
set_option linter.unusedVariables false

theorem elMp : (Try.prog.info? 99).map (fun i => (i.zero, i.size, i.bytes)) = some (some (.map none), 1, 8) := by kernel_rfl
structure Nw (w : World) (s j : Nat) (wr : World) : Prop where
  sz : wr.heap.size = w.heap.size + 1 + j
  row : ∃ cur, wr.heap[w.heap.size]? = some (.cells cur 99 (0, 0)) ∧ cur.size = s ∧ ∀ i, i < s → cur[i]? = some (if i < j then .map (some (w.heap.size + 1 + i)) else .map none)
  mp : ∀ i, i < j → wr.heap[w.heap.size + 1 + i]? = some (.map #[] 0)
  bel : Below w.heap.size w wr
theorem Nw.step {w wr : World} {s j : Nat} (h : Nw w s j wr) (hj : j < s) : Nw w s (j + 1) ((wr.alloc (.map #[] 0)).setCell ⟨w.heap.size, j, none⟩ (.map (some (w.heap.size + 1 + j)))) := by
  obtain ⟨cur, hc, hcs, hce⟩ := h.row
  have hg := World.grownBy_alloc wr (Obj.map #[] 0) none
  have hsz := h.sz
  have old : ∀ i, i < wr.heap.size → (wr.alloc (.map #[] 0)).heap[i]? = wr.heap[i]? := fun i hi => hg.block i hi (by simp)
  have far : ∀ i, i ≠ w.heap.size → ((wr.alloc (.map #[] 0)).setCell ⟨w.heap.size, j, none⟩ (.map (some (w.heap.size + 1 + j)))).heap[i]? = (wr.alloc (.map #[] 0)).heap[i]? := fun i hi => RowKit.Below.heap_setCell _ _ _ _ hi
  have hrow : ((wr.alloc (.map #[] 0)).setCell ⟨w.heap.size, j, none⟩ (.map (some (w.heap.size + 1 + j)))).heap[w.heap.size]? = some (.cells (cur.setIfInBounds j (.map (some (w.heap.size + 1 + j)))) 99 (0, 0)) := by
    have := (old w.heap.size (by omega)).trans hc
    simp [World.setCell, Array.getElem?_modify, this]
  refine ⟨?_, ⟨_, hrow, by simpa using hcs, fun i hi => ?_⟩, fun i hi => ?_, ?_⟩
  · simp [World.setCell, hsz]; omega
  · rw [Array.getElem?_setIfInBounds]
    by_cases e : j = i
    · subst e; rw [if_pos rfl, if_pos (by omega), if_pos (by omega)]
    · rw [if_neg e, hce i hi]
      by_cases c : i < j
      · rw [if_pos c, if_pos (by omega)]
      · rw [if_neg c, if_neg (by omega)]
  · rw [far _ (by omega)]
    by_cases e : i = j
    · subst e
      have := (MapKept.heap_alloc wr (Obj.map #[] 0)).1
      rw [hsz] at this
      exact this
    · rw [old _ (by omega)]
      exact h.mp i (by omega)
  · have hb := h.bel.alloc h.bel.size (Obj.map #[] 0)
    refine ⟨hb.os, hb.tape, hb.output, ?_, fun i hi => ?_⟩
    · have := hb.size
      simpa [World.setCell] using this
    · rw [far i (by omega)]
      exact hb.block i hi
theorem Nw.wl {w w' : World} {s : Nat} (h : Nw w s s w') (h1 : 1 ≤ s) (h2 : s ≤ 256) : Wl (w'.alloc (.cells #[.slice (some ⟨w.heap.size, 0, none⟩) s s] 101)) w'.heap.size w.heap.size s 0 (fun i => w.heap.size + 1 + i) [] := by
  obtain ⟨cur, hc, hcs, hce⟩ := h.row
  have hsz := h.sz
  have old : ∀ i, i < w'.heap.size → (w'.alloc (.cells #[.slice (some ⟨w.heap.size, 0, none⟩) s s] 101)).heap[i]? = w'.heap[i]? := fun i hi => (World.grownBy_alloc w' _ none).block i hi (by simp)
  have hb := heap_alloc_new w' (Obj.cells #[.slice (some ⟨w.heap.size, 0, none⟩) s s] 101)
  exact ⟨by rw [blk_cell hb]; rfl, fun i hi => by rw [blk_cell ((old _ (by omega)).trans hc), hce i hi, if_pos hi], fun i hi => ⟨_, ⟨#[], 0, (old _ (by omega)).trans (h.mp i hi), ⟨by simp, MapKept.stamped_empty 0, by simp⟩, Nat.le_refl _, rfl⟩, tells_nil⟩, fun i j _ _ e => by omega, ⟨List.Pairwise.nil, List.nodup_nil⟩, h1, h2⟩
set_option maxHeartbeats 2000000 in
theorem new_any (s : Nat) (h1 : 1 ≤ s) (h2 : s ≤ 256) (w : World) : Calls Try.prog 27 #[.int .i64 (s : Nat)] w fun e w' => ∃ g sb bm, e = .returned (.pointer (some ⟨g, 0, none⟩)) ∧ Wl w' g sb s 0 bm [] ∧ Below w.heap.size w w' ∧ w.heap.size ≤ g ∧ w.heap.size ≤ sb ∧ ∀ j, j < s → w.heap.size ≤ bm j := by
  obtain ⟨i0, hi, hz0, hz1, hz2⟩ := el_of elMp
  have hmk := run_make w 98 99 i0 (.map none) (P := Try.prog) Try.underlying98 hi hz0 .i64 .i64 s s (by omega) (by omega) (by rw [hz2]; omega) (by omega)
  have hmm := @run_makeMap Try.prog 99
  rw [hz1, Int.toNat_natCast, Nat.mul_one] at hmk
  obtain ⟨cs, hcs⟩ : ∃ cs, madeCells (Value.map none).cells s = cs := ⟨_, rfl⟩
  have hcz : cs.size = s := by rw [← hcs]; simp [size_madeCells]
  have hce : ∀ i, i < s → cs[i]? = some (.map none) := by
    intro i hi
    rw [← hcs]
    simp [madeCells, Value.cells, hi, Nat.mod_one]
  rw [hcs] at hmk
  have hb0 := heap_alloc_new w (Obj.cells cs 99)
  have hl0 := (Below.refl w.heap.size w).alloc (Nat.le_refl _) (Obj.cells cs 99)
  have es : (w.alloc (Obj.cells cs 99)).heap.size = w.heap.size + 1 := by simp
  generalize w.alloc (Obj.cells cs 99) = w1 at *
  have HN := Lib.hid (show Nw w s 0 w1 from ⟨es, ⟨cs, hb0, hcz, fun i hi => by rw [hce i hi]; rfl⟩, fun i hi => absurd hi (Nat.not_lt_zero _), hl0⟩)
  clear hb0 hl0 hcs hcz hce hi hz0 hz1 hz2
  have d1 : decide ((s : Int) < 1) = false := by simp; omega
  have d2 : decide ((256 : Int) < s) = false := by simp; omega
  have HE := Lib.hid es
  go_enter Try.func27, Try.ntmps27
  go_wp2_with fail
  go_loopw [15] (fun x wr => ∃ j : Nat, j ≤ s ∧ x = .int .i64 j ∧ Nw w s j wr) (fun x _ => s - (intOf x).toNat)
  case atStart => exact ⟨0, Nat.zero_le _, rfl, HN.out⟩
  case round =>
    obtain ⟨j, hj, rfl, hN⟩ := hrel
    by_cases hlt : j < s
    · have d3 : decide ((j : Int) < (s : Nat)) = true := by simp; omega
      have s0 : (0 : Int) ≤ (j : Nat) := by omega
      have s1 : (j : Int) < (s : Nat) := by omega
      obtain ⟨cur, hc, hcs, hce⟩ := hN.row
      have hsz := hN.sz
      have hal : ∀ i, i < wr.heap.size → (wr.alloc (.map #[] 0)).heap[i]? = wr.heap[i]? := fun i hi => (World.grownBy_alloc wr (Obj.map #[] 0) none).block i hi (by simp)
      have hr := (hal w.heap.size (by omega)).trans hc
      have c1 : (wr.alloc (.map #[] 0)).cell? ⟨w.heap.size, j, none⟩ = some (.map none) := by
        rw [blk_cell hr, hce j hlt, if_neg (Nat.lt_irrefl _)]
      have f1 : (wr.alloc (.map #[] 0)).frozen? ⟨w.heap.size, j, none⟩ = false := by
        simp [World.frozen?, hr]
      have HNj := Lib.hid (hN.step hlt)
      clear hc hcs hce hN hr hal
      rw [← hsz] at HNj
      clear hsz
      go_wp2_with fail
      exact ⟨⟨j + 1, hlt, by go_num, HNj.out⟩, by simp [intOf]; omega⟩
    · have e : j = s := by omega
      subst e
      have d3 : decide ((j : Int) < (j : Nat)) = false := by simp
      have HNj := Lib.hid hN
      clear hN
      go_wp2_with fail
      go_ret
      have hsz := HNj.out.sz
      exact ⟨_, _, _, rfl, HNj.out.wl h1 h2, HNj.out.bel.alloc HNj.out.bel.size _, by omega, Nat.le_refl _, fun i _ => by omega⟩
set_option maxHeartbeats 1000000 in
theorem new_none (z : Int) (h : z < 1 ∨ 256 < z) (w : World) : Calls Try.prog 27 #[.int .i64 z] w fun e w' => e = .returned (.pointer none) ∧ w' = w := by
  by_cases h1 : z < 1
  · have d1 : decide (z < 1) = true := by simp [h1]
    go_enter Try.func27, Try.ntmps27
    go_wp2_with fail
    go_ret
    exact ⟨rfl, rfl⟩
  · have d1 : decide (z < 1) = false := by simp; omega
    have d2 : decide (256 < z) = true := by simp; omega
    go_enter Try.func27, Try.ntmps27
    go_wp2_with fail
    go_ret
    exact ⟨rfl, rfl⟩
end Go.Proofs.Ytjjanogfcfapcaa.W

/- The contract of Due, over what it asks of the sort that it calls. -/
namespace Go.Proofs.Ytjjanogfcfapcaa.W
open Go.RowKit Go.Shelf
open Go.Maps (Keyed)
set_option linter.unusedVariables false
attribute [local go_sem] Oper.semAt_some

/-- Of what was there only the wheel's maps have turned. -/
structure Fw (bm : Nat → Nat) (s : Nat) (w w' : World) : Prop where
  os : w'.os = w.os
  tape : w'.tape = w.tape
  output : w'.output = w.output
  size : w.heap.size ≤ w'.heap.size
  block : ∀ i, i < w.heap.size → (∀ j, j < s → i ≠ bm j) → w'.heap[i]? = w.heap[i]?
theorem Fw.refl (bm : Nat → Nat) (s : Nat) (w : World) : Fw bm s w w := ⟨rfl, rfl, rfl, Nat.le_refl _, fun _ _ _ => rfl⟩
theorem Fw.grown {bm : Nat → Nat} {s : Nat} {a b c : World} {row : Option Nat} (h : Fw bm s a b) (g : b.grownBy c row) (hr : ∀ r, row = some r → a.heap.size ≤ r ∨ ∃ j, j < s ∧ r = bm j) : Fw bm s a c where
  os := g.os.trans h.os
  tape := g.tape.trans h.tape
  output := g.output.trans h.output
  size := Nat.le_trans h.size g.size
  block i hi hn := (g.block i (Nat.lt_of_lt_of_le hi h.size) (fun e => by
    rcases hr i e.symm with c | ⟨j, hj, c⟩
    · omega
    · exact hn j hj c)).trans (h.block i hi hn)
theorem Fw.below {bm : Nat → Nat} {s : Nat} {a b c : World} (h : Fw bm s a b) (g : Below a.heap.size b c) : Fw bm s a c where
  os := g.os.trans h.os
  tape := g.tape.trans h.tape
  output := g.output.trans h.output
  size := Nat.le_trans h.size g.size
  block i hi hn := (g.block i hi).trans (h.block i hi hn)
theorem Wl.keptBut {w w' : World} {g sb s n : Nat} {bm : Nat → Nat} {l : List Ti} (h : Wl w g sb s n bm l) {row : Option Nat} (hg : w.grownBy w' row) (h1 : row ≠ some g) (h2 : row ≠ some sb) (h3 : ∀ j, j < s → row ≠ some (bm j)) : Wl w' g sb s n bm l := by
  have cell : ∀ (b i : Nat) (v : Value), row ≠ some b → w.cell? ⟨b, i, none⟩ = some v → w'.cell? ⟨b, i, none⟩ = some v := by
    intro b i v hne hc
    have hlt : b < w.heap.size := by
      by_cases c : b < w.heap.size
      · exact c
      · simp [World.cell?, Array.getElem?_eq_none (Nat.le_of_not_lt c)] at hc
    have e := hg.block b hlt (fun e => hne e.symm)
    unfold World.cell? at hc ⊢
    rw [e]
    exact hc
  exact ⟨cell _ _ _ h1 h.c0, fun j hj => cell _ _ _ h2 (h.e0 j hj), fun j hj => (h.mp j hj).kept hg (fun e => h3 j hj e.symm), h.inj, h.ord, h.pos, h.le⟩

section
variable {F : Fence} {nF : Nat} {P : Program} {k e : TypeId} {w : World} {b n r : Nat} {l td : List Ti} {ops : Array Oper} {rest : List Oper} {o : Oper} {a : Act} {Q : Exit → Act → World → Prop}
theorem wpListIn_mp_del (hg : o.guard = none) (m x : Operand) (t : TypeId) (hop : o.op = Op.call { callee := Callee.builtin Builtin.delete, args := #[m, x], argTypes := #[t, k] }) (K : Keyed P k) (ht : P.underlying t = some (.map k e)) (hk : P.underlying k = some (.int .i64))
    (id : Int) (hm : a.eval m = .map (some b)) (hI : Mp P k e w b n l) (hx : a.eval x = .int .i64 id) (hw : (Lit.int .i64 id).wf = true)
    (hK : ∀ w', Mp P k e w' b n (delL l id) → w.mapTurned w' b → wpListIn F nF P ops Q rest (a.put o.dst (.tuple #[])) w') : wpListIn F nF P ops Q (o :: rest) a w := by
  obtain ⟨D, hown, T⟩ := hI
  exact wpListIn_delete_own w hg m x t k hop e K ht (plainElem P e) b n D hm hown _ _ hx (Maps.keyOf_int_mk hk hw) fun w' h1 h2 => hK w' ⟨_, h1, T.del id⟩ h2
end
theorem KeepsOthers.walks {A B : World} (h : KeepsOthers A B) : KeepsWalks A B := ⟨h.size, fun k o hk ho => h.same k o hk (by cases o <;> simp_all [Obj.isWalk, Obj.isCells])⟩
/-- The ids of those whose time has come. -/
def dueI (now : Nat) (pre : List Ti) : List Int := (pre.filter fun x => decide (x.t ≤ now)).map (·.id)
theorem dueI_hit {now : Nat} (pre : List Ti) {x : Ti} (h : x.t ≤ now) : dueI now (pre ++ [x]) = dueI now pre ++ [x.id] := by simp [dueI, h]
theorem dueI_miss {now : Nat} (pre : List Ti) {x : Ti} (h : ¬ x.t ≤ now) : dueI now (pre ++ [x]) = dueI now pre := by simp [dueI, h]
theorem dueI_len (now : Nat) (pre : List Ti) : (dueI now pre).length ≤ pre.length := by
  unfold dueI
  rw [List.length_map]
  exact List.length_filter_le _ _
theorem dueI_nodup {now : Nat} {l ys : List Ti} (h : AllT l ys) (hO : Ord l) : (dueI now ys).Nodup := by
  have hp : ys.Perm l := (List.perm_ext_iff_of_nodup h.nd hO.nodup).2 h.mem
  have : (ys.map (·.id)).Nodup := (hp.map _).nodup_iff.2 hO.nd
  exact ((List.filter_sublist (p := fun x : Ti => decide (x.t ≤ now)) (l := ys)).map _).nodup this
theorem dueI_perm {now : Nat} {l ys : List Ti} (h : AllT l ys) (hO : Ord l) : (dueI now ys).Perm ((dueL l now).map (·.id)) := by
  have hp : ys.Perm l := (List.perm_ext_iff_of_nodup h.nd hO.nodup).2 h.mem
  unfold dueI
  rw [(due_all hO.so).1]
  exact (hp.filter _).map _
/-- An id with its time. -/
def tiOf (l : List Ti) (i : Int) : Ti := ⟨i, (look l i).getD 0⟩
theorem tiOf_mem {l : List Ti} (hO : Ord l) {x : Ti} (h : x ∈ l) : tiOf l x.id = x := by
  unfold tiOf
  rw [(look_mem hO.nd).1 h]
  rfl
theorem due_sorted {now : Nat} {l : List Ti} (hO : Ord l) {ids : List Int} (hp : ids.Perm ((dueL l now).map (·.id))) (hs : (ids.map (tiOf l)).Pairwise ltT) : ids = (dueL l now).map (·.id) := by
  have hsub : List.Sublist (dueL l now) l := List.takeWhile_sublist _
  have e : ids.map (tiOf l) = dueL l now := by
    refine ord_ext hs (hO.so.sublist hsub) fun x => ?_
    rw [List.mem_map]
    constructor
    · rintro ⟨i, hi, rfl⟩
      obtain ⟨y, hy, rfl⟩ := List.mem_map.1 (hp.mem_iff.1 hi)
      rw [tiOf_mem hO (hsub.subset hy)]
      exact hy
    · intro hx
      exact ⟨x.id, hp.mem_iff.2 (List.mem_map.2 ⟨x, hx, rfl⟩), tiOf_mem hO (hsub.subset hx)⟩
  rw [← e, List.map_map]
  have : ((fun x => x.id) ∘ tiOf l) = id := funext fun i => rfl
  show ids = List.map ((fun x => x.id) ∘ tiOf l) ids
  rw [this, List.map_id]
def delAll (l : List Ti) (ids : List Int) : List Ti := ids.foldl delL l
theorem delAll_look : ∀ (ids : List Int) (l : List Ti) (j : Int), look (delAll l ids) j = if j ∈ ids then none else look l j
  | [], l, j => by simp [delAll]
  | i :: ids, l, j => by
    show look (delAll (delL l i) ids) j = _
    rw [delAll_look ids, delL_look]
    by_cases e : j = i
    · simp [e]
    · by_cases c : j ∈ ids <;> simp [e, c]
theorem delAll_ord : ∀ (ids : List Int) {l : List Ti}, Ord l → Ord (delAll l ids)
  | [], _, h => h
  | i :: ids, _, h => delAll_ord ids (delL_ord h i)
theorem delAll_due {now : Nat} {l : List Ti} (hO : Ord l) : delAll l ((dueL l now).map (·.id)) = restL l now := by
  refine ord_of_look (delAll_ord _ hO) (restL_ord hO now) fun j => ?_
  rw [delAll_look, restL_look hO]
  have hm : j ∈ (dueL l now).map (·.id) ↔ ∃ a, look l j = some a ∧ a ≤ now := by
    rw [List.mem_map]
    constructor
    · rintro ⟨x, hx, rfl⟩
      exact ⟨x.t, (mem_due hO).1 hx⟩
    · rintro ⟨a, h1, h2⟩
      exact ⟨⟨j, a⟩, (mem_due hO).2 ⟨h1, h2⟩, rfl⟩
  by_cases c : j ∈ (dueL l now).map (·.id)
  · rw [if_pos c]
    obtain ⟨a, h1, h2⟩ := hm.1 c
    rw [h1]
    simp [h2]
  · rw [if_neg c]
    cases ho : look l j with
    | none => rfl
    | some a =>
      simp only
      rw [if_neg fun h => c (hm.2 ⟨a, ho, h⟩)]
theorem delAll_snoc (l : List Ti) (ids : List Int) (i : Int) : delAll l (ids ++ [i]) = delL (delAll l ids) i := by simp [delAll]
/-- What is asked of the sort: at k ids at most. -/
def SortC (k : Nat) : Prop := ∀ (w : World) (g sb s n : Nat) (bm : Nat → Nat) (l : List Ti) (ids : List Int) (A : Option Addr) (cap B : Nat), Wl w g sb s n bm l → Low B g sb s bm → B ≤ w.heap.size → ids.length ≤ k → ids.Nodup → (∀ i ∈ ids, (Lit.int .i64 i).wf = true) →
  w.ownsRow B 3 1 (.slice A ids.length cap) ids.length (valI ids) →
  Calls Try.prog 58 #[.slice A ids.length cap, .func (.func 59) #[.pointer (some ⟨g, 0, none⟩)] #[]] w fun e w' => e = .returned (.tuple #[]) ∧
    ∃ ids' : List Int, ids'.Perm ids ∧ (ids'.map (tiOf l)).Pairwise ltT ∧ w'.ownsRow B 3 1 (.slice A ids.length cap) ids.length (valI ids') ∧ w.grownBy w' (Value.slice A ids.length cap).ownBlock
theorem elI2 : (Try.prog.info? 3).map (fun i => (i.zero, i.size, i.bytes)) = some (some (.int .i64 0), 1, 8) := elI
theorem Fw.bel {bm : Nat → Nat} {s : Nat} {a b : World} (g : Below a.heap.size a b) : Fw bm s a b := (Fw.refl bm s a).below g
theorem own_ne_def {w : World} {base e size n r : Nat} {v : Value} {xs : List Value} (h : w.ownsRow base e size v n xs) {o : Obj} (hr : w.heap[r]? = some o) (ho : o.isCells = false) : some r ≠ v.ownBlock := by
  intro hv
  rcases h.2 with ⟨rfl, _⟩ | ⟨g, cap, cur, rfl, _, hg, _⟩
  · simp [Value.ownBlock] at hv
  · simp [Value.ownBlock] at hv
    subst hv
    rw [hg] at hr
    cases hr
    cases ho

set_option maxRecDepth 100000 in
set_option maxHeartbeats 4000000 in
theorem due_any (k : Nat) (HS : SortC k) (hk : k ≤ 100000) (now : Nat) {w : World} {g sb s n : Nat} {bm : Nat → Nat} {l : List Ti} (h : Wl w g sb s n bm l) (hl : (dueL l now).length ≤ k) (hl2 : l.length ≤ 100000) :
    Calls Try.prog 44 #[.pointer (some ⟨g, 0, none⟩), .int .u64 (now : Nat)] w fun e w' => ∃ A c, e = .returned (.slice A (dueL l now).length c) ∧ NsI w' A ((dueL l now).map (·.id)) ∧ Wl w' g sb s n bm (restL l now) ∧ Fw bm s w w' := by
  obtain ⟨i0, hi, hz0, hz1, hz2⟩ := el_of elI
  have HW := Lib.hid h
  have HN := Lib.hid (show WlN w (some ⟨g, 0, none⟩) l from .inr ⟨g, sb, s, n, bm, rfl, h⟩)
  have HSS := Lib.hid HS
  clear h HS
  refine (callsIn_wide (n := 3)).1 ?_
  refine callsIn_of_wp_marks Try.func44 rfl trivial ?_ rfl
  simp only [Try.ntmps44, List.size_toArray, List.length_cons, List.length_nil, Nat.reduceAdd, Nat.reduceSub, Array.replicate_succ, Array.replicate_zero, List.push_toArray, List.append_toArray, List.nil_append, List.cons_append]
  gi_wp2_with (refine ⟨trivial, ?_⟩; gi_at_call 57; refine (all_gives 2 _ _).mono ?_; rintro e w' ⟨rfl, rfl⟩)
  have bT := Boxed.new w 37 (.int .u64 (now : Nat))
  have bD := Boxed.new (w.alloc (.cells #[.int .u64 (now : Nat)] 37)) 79 (.slice none 0 0)
  rw [World.size_alloc] at bD
  have bN := Boxed.new ((w.alloc (.cells #[.int .u64 (now : Nat)] 37)).alloc (.cells #[.slice none 0 0] 79)) 67 (.pointer (some ⟨g, 0, none⟩))
  rw [World.size_alloc, World.size_alloc] at bN
  have hB0 : Below w.heap.size w (((w.alloc (.cells #[.int .u64 (now : Nat)] 37)).alloc (.cells #[.slice none 0 0] 79)).alloc (.cells #[.pointer (some ⟨g, 0, none⟩)] 67)) := (((Below.refl _ w).alloc (Nat.le_refl _) _).alloc (by simp) _).alloc (by simp; omega) _
  refine wpIn_rangeFunc_ownG rfl (by omega) (gf := 64) (lb := #[.pointer (some ⟨w.heap.size + 1 + 1, 0, none⟩)]) rfl trivial (enters_of Try.func64 (by kernel_rfl) rfl)
    (HN.out.stops 2 (by omega) (w.heap.size + 1 + 1) _ hB0 (by simp) bN.cell) kpw_t (kpw_b (by simp; omega)) (Below.refl _ _) (fun _ => rfl)
    (fun pre W => (Boxed W w.heap.size 37 (.int .u64 (now : Nat)) ∧ ∃ v, Boxed W (w.heap.size + 1) 79 v ∧ W.ownsRow w.heap.size 3 1 v (dueI now pre).length (valI (dueI now pre)) ∧ True) ∧ Below w.heap.size w W)
    (fun _ _ _ => False)
    (OwnFrom.and (OwnFrom.and (Own.from (boxed_own _ _ _) _) (Own.from (holdsRow_own w.heap.size (w.heap.size + 1) 79 3 1 (fun pre => (dueI now pre).length) (fun pre => valI (dueI now pre)) (fun _ _ => True)) _)) (ownFrom_below (Nat.le_refl _) (by simp; omega)))
    (fun _ _ _ _ _ hs _ _ => hs)
    ⟨⟨(bT.alloc _).alloc _, _, bD.alloc _, World.ownsRow_nil _ _ _ _, trivial⟩, hB0⟩
    (fun x => { tmps := #[.pointer (some ⟨g, 0, none⟩), .int .u64 (now : Nat), undef, .pointer (some ⟨w.heap.size, 0, none⟩), .slice none 0 0, .pointer (some ⟨w.heap.size + 1, 0, none⟩), .int .i64 x.id, .int .u64 (x.t : Nat), undef, undef, .pointer (some ⟨g, 0, none⟩), .func (.func 64) #[] #[.pointer (some ⟨w.heap.size + 1 + 1, 0, none⟩)], .int .i64 x.id, .int .u64 (x.t : Nat), undef, undef, undef, undef, undef, undef, undef, undef, undef, undef, undef, undef, undef, undef, undef, undef, undef, undef, undef, undef, undef, undef, undef], defers := [] }) ?assign ?body ?done ?stop
  case assign =>
    intro lp x W K hK
    gi_wp2
    exact hK
  case body =>
    rintro lp pre x W ⟨⟨b1, v, b2, hrow, _⟩, hB⟩ hlt
    have c1 := b1.cell
    have c2 := b2.cell
    have hpl := dueI_len now pre
    have HB1 := Lib.hid b1
    by_cases ht : x.t ≤ now
    · have d1 : decide ((x.t : Int) ≤ (now : Nat)) = true := by simp; omega
      have hne : 79 ≠ 3 := by decide
      gi_wp2_with (gi_at_builtin; refine wpListIn_append_own _ rfl _ _ 79 rfl w.heap.size 3 i0 (.int .i64 0) 1 8 Try.underlying79 hi hz0 hz1 hz2 rfl (by decide) _ _ _ rfl (hrow.alloc _) ⟨W.heap.size, 0, none⟩ 1 1 [.int .i64 x.id] rfl rfl (cell_one_new _ _ _) (by simp [Value.oneCell']) (by unfold maxLen; omega) (by omega) (by have := hB.size; simp; omega) ?_; intro v' w1 hown' hgrow _; obtain ⟨g', cap', rfl⟩ := ownsRow_succ hown'; obtain ⟨hv1, hv2, hr2, hk2, hb2⟩ := b2.appended hne hrow hB.size (by omega) hown' hgrow; have hc1 := hv1.cell; have hf1 := hv1.frozen)
      refine ⟨hk2.from _, ⟨hb2, hk2.walks⟩, ⟨?_, _, hv2, by rw [dueI_hit pre ht, valI_snoc]; simpa using hr2, trivial⟩, hB.trans hb2⟩
      exact ((HB1.out.alloc _).kept hgrow (HB1.out.not_row (by decide) hrow)).other (B' := w.heap.size + 1) (by omega) _
    · have d1 : decide ((x.t : Int) ≤ (now : Nat)) = false := by simp; omega
      gi_wp2
      exact ⟨KeepsFrom.refl _ _, kpw_refl _ _, ⟨HB1.out, v, b2, by rw [dueI_miss pre ht]; exact hrow, trivial⟩, hB⟩
  case done =>
    rintro D ys W hD hA ⟨⟨b1, v, b2, hrow, _⟩, hB⟩ hK
    obtain ⟨Av, cv, rfl⟩ := ownR_form hrow
    have hO := HW.out.ord
    have hpm := dueI_perm (now := now) hA hO
    have hlen : (dueI now ys).length = (dueL l now).length := by rw [hpm.length_eq, List.length_map]
    have hwf : ∀ i ∈ dueI now ys, (Lit.int .i64 i).wf = true := fun i hi => by
      obtain ⟨x, hx, rfl⟩ := List.mem_map.1 hi
      exact hA.wf x (List.mem_filter.1 hx).1
    have HSo := Lib.hid (HSS.out W g sb s n bm l (dueI now ys) Av cv w.heap.size (HW.out.low HW.out.isLow hB) HW.out.isLow hB.size (by omega) (dueI_nodup hA hO) hwf hrow)
    have HI := Lib.hid (And.intro hrow (And.intro b2 (And.intro hB (And.intro hK (And.intro hpm hwf)))))
    clear hA hpm hrow b1 b2 hB hwf
    generalize dueI now ys = ids at *
    rw [hlen] at HSo HI
    have c2 := HI.out.2.1.cell
    clear hlen
    have hDD : w.heap.size ≤ D := by simp at hD; omega
    clear hD
    generalize hm : (dueL l now).length = m at *
    have hml : m ≤ k := hl
    gi_wp2_with (refine ⟨trivial, ?_⟩; gi_at_call 58; with_reducible (refine (callsIn_wide.2 HSo.out).mono ?_); rintro e w2 ⟨rfl, ids', hp, hso, hrow2, hg2⟩; have c3 := (HI.out.2.1.kept hg2 (HI.out.2.1.not_row (by decide) HI.out.1)).cell)
    have hids : ids' = (dueL l now).map (·.id) := due_sorted hO (hp.trans HI.out.2.2.2.2.1) hso
    have hlen : ids'.length = m := by rw [hids, List.length_map, hm]
    have hnrow : ∀ r, (Value.slice Av m cv).ownBlock = some r → w.heap.size ≤ r := fun r e => (HI.out.1.lt r e).1
    have hW2 := (HW.out.low HW.out.isLow HI.out.2.2.1).keptBut hg2 (fun e => by have := hnrow _ e; have := HW.out.isLow.g; omega) (fun e => by have := hnrow _ e; have := HW.out.isLow.b; omega) (fun j hj e => by have := hnrow _ e; have := HW.out.isLow.m j hj; omega)
    have hF2 : Fw bm s w w2 := (Fw.bel HI.out.2.2.1).grown hg2 (fun r e => .inl (hnrow r e))
    have hb2 := HI.out.2.1.kept hg2 (HI.out.2.1.not_row (by decide) HI.out.1)
    have hK2 : w2.heap[D]? = some (.deferred (some [])) := (hg2.block D (heap_lt hK) (own_ne_def HI.out.1 hK rfl)).trans hK
    have hwf2 : ∀ i ∈ ids', (Lit.int .i64 i).wf = true := fun i hi => HI.out.2.2.2.2.2 i (hp.mem_iff.1 hi)
    have HS2 := Lib.hid (And.intro hW2 (And.intro hrow2 (And.intro hF2 (And.intro hb2 hK2))))
    clear hW2 hrow2 hF2 hb2 hK2 HI HSo hg2 hso hp hK
    have HE := Lib.hid hids
    clear hids
    gi_loopw [9, 27] (fun _ x wr => ∃ j : Nat, j ≤ m ∧ x = .int .i64 j ∧ Wl wr g sb s n bm (delAll l (ids'.take j)) ∧ wr.ownsRow w.heap.size 3 1 (.slice Av m cv) m (valI ids') ∧ Fw bm s w wr ∧ Boxed wr (w.heap.size + 1) 79 (.slice Av m cv) ∧ wr.heap[D]? = some (.deferred (some []))) (fun _ x _ => m - (intOf x).toNat)
    case atStart => exact ⟨0, Nat.zero_le _, rfl, HS2.out⟩
    case round =>
      clear HS2
      obtain ⟨j, hj, rfl, hWl, hrw, hF, hbx, hKr⟩ := hrel
      by_cases hlt : j < m
      · have d1 : decide ((j : Int) < (m : Nat)) = true := by simp; omega
        have hrw' := hrw
        rw [← hlen] at hrw'
        obtain ⟨A3, c3', e3, hN3⟩ := nsI_own hrw'
        cases e3
        obtain ⟨bb, off, rfl, hbb, hcb⟩ := hN3 j (by omega)
        have s0 : (0 : Int) ≤ (j : Nat) := by omega
        have s1 : (j : Int) < (m : Nat) := by omega
        have hwi := hwf2 ids'[j] (List.getElem_mem _)
        have hj2 := spk_lt hWl.pos ids'[j]
        have HC := Lib.hid (spoke_any ids'[j] hWl)
        have HM := Lib.hid (hWl.mp _ hj2)
        have hsn : ids'.take (j + 1) = ids'.take j ++ [ids'[j]] := by rw [List.take_add_one, List.getElem?_eq_getElem (by omega)]; rfl
        have HT := Lib.hid (show ∀ w4, wr.grownBy w4 (some (bm (spk s ids'[j]))) → Mq w4 (bm (spk s ids'[j])) n (delL ((delAll l (ids'.take j)).filter fun x => spk s x.id == spk s ids'[j]) ids'[j]) → Wl w4 g sb s n bm (delAll l (ids'.take (j + 1))) ∧ w4.ownsRow w.heap.size 3 1 (.slice (some ⟨bb, off, none⟩) m cv) m (valI ids') ∧ Fw bm s w w4 ∧ Boxed w4 (w.heap.size + 1) 79 (.slice (some ⟨bb, off, none⟩) m cv) ∧ w4.heap[D]? = some (.deferred (some [])) from fun w4 hg4 hm4 => by
          have hbl := HW.out.isLow.m _ hj2
          refine ⟨?_, hrw.kept hg4 (.inr fun e => ?_), hF.grown hg4 (fun q e => by cases e; exact .inr ⟨_, hj2, rfl⟩), hbx.kept hg4 (fun e => by have := Option.some.inj e; omega), (hg4.block D (heap_lt hKr) (fun e => by have := Option.some.inj e; omega)).trans hKr⟩
          · rw [hsn, delAll_snoc]
            exact hWl.step hj2 hg4 (delL_ord hWl.ord _) (by rw [part_del _ (fun i => spk s i == spk s ids'[j]) ids'[j]]; exact hm4) (fun i hi hne => part_del_other (p := fun x => spk s x == i) (by simp; omega)) (Nat.le_refl n)
          · have := (hrw.lt _ e).1
            omega)
        clear hWl hrw hrw' hF hbx hKr hN3 hsn
        generalize ids'[j] = id at *
        generalize spk s id = jj at *
        generalize ((delAll l (ids'.take j)).filter fun x => spk s x.id == jj) = lj at *
        gi_wp2_with (first
          | (refine ⟨trivial, ?_⟩; gi_at_call 60; with_reducible (refine (callsIn_wide.2 HC.out).mono ?_); rintro e w3 ⟨rfl, q, rfl⟩)
          | (gi_at_delete; refine wpListIn_mp_del rfl _ _ _ rfl keyedI Try.underlying99 Try.underlying3 id rfl (HM.out.drewN _) rfl hwi ?_; intro w4 hm4 ht4)
          | gi_in)
        have HT4 := Lib.hid (HT.out w4 ⟨ht4.grown.os, ht4.grown.tape, ht4.grown.output, ht4.grown.size, ht4.grown.block⟩ hm4)
        clear hm4 ht4
        go_roundw
        case rel => exact ⟨j + 1, hlt, by go_num, HT4.out⟩
        case measure => simp [intOf]; omega
      · have e : j = m := by omega
        subst e
        have d1 : decide ((j : Int) < (j : Nat)) = false := by simp
        have c4 := hbx.cell
        rw [← hlen, List.take_length, HE.out, delAll_due hO] at hWl
        rw [HE.out] at hrw
        have hrp := ownsRow_putObj hrw (.deferred none) hKr rfl
        have hlm : ((dueL l now).map (·.id)).length = j := by rw [List.length_map, hm]
        have hNf : NsI (wr.putObj D (.deferred none)) Av ((dueL l now).map (·.id)) := by
          rw [← hlm] at hrp
          obtain ⟨A3, c3', e3, hN3⟩ := nsI_own hrp
          cases e3
          exact hN3
        have hWf := hWl.low HW.out.isLow (belowK_b (n₀ := w.heap.size) (w := w) (Nat.le_refl _) wr D _ (.deferred none) hDD hKr rfl rfl)
        have hFf := hF.grown (grownBy_putObj' wr D (.deferred none)) (fun q e => by cases e; exact .inl hDD)
        have HF := Lib.hid (And.intro hNf (And.intro hWf hFf))
        clear hrw hrp hNf hWf hFf hWl hF hbx hlm
        gi_wp2
        refine ⟨by simp, .inl ⟨_, _, rfl, run_takeDeferred hKr, ?_⟩⟩
        exact ⟨_, results_tmp rfl _ _ _, Av, cv, by rw [hm]; rfl, HF.out⟩
  case stop =>
    rintro D c pre W _ _ h _
    exact h.elim
end Go.Proofs.Ytjjanogfcfapcaa.W

/- slices.SortFunc at one int at most: nothing turns, whatever is compared. -/
namespace Go.Proofs.Ytjjanogfcfapcaa.W
open Go.RowKit Go.Shelf
set_option linter.unusedVariables false
attribute [local go_sem] Oper.semAt_some

set_option maxRecDepth 100000 in
set_option maxHeartbeats 1000000 in
theorem len64_one (n : Nat) (h : n ≤ 1) (w : World) : Calls Try.prog 79 #[.int .u64 (n : Nat)] w fun e w' => (∃ m : Int, e = .returned (.int .i64 m)) ∧ w' = w := by
  obtain rfl | rfl : n = 0 ∨ n = 1 := by omega
  · go_enter Try.func79, Try.ntmps79
    go_wp2_with fail
    go_ret
    exact ⟨⟨_, rfl⟩, rfl⟩
  · go_enter Try.func79, Try.ntmps79
    go_wp2_with fail
    go_ret
    exact ⟨⟨_, rfl⟩, rfl⟩
set_option maxHeartbeats 1000000 in
theorem len_one (n : Nat) (h : n ≤ 1) (w : World) : Calls Try.prog 66 #[.int .u64 (n : Nat)] w fun e w' => (∃ m : Int, e = .returned (.int .i64 m)) ∧ w' = w := by
  have HC := Lib.hid (len64_one n h w)
  clear h
  go_enter Try.func66, Try.ntmps66
  go_wp2_with (go_at_call 79; with_reducible (refine HC.out.mono ?_); rintro e w' ⟨⟨m, rfl⟩, rfl⟩)
  go_ret
  exact ⟨⟨_, rfl⟩, rfl⟩
set_option maxHeartbeats 1000000 in
theorem ins_one (n : Nat) (h : n ≤ 1) (A : Option Addr) (cap : Nat) (fv : Value) (w : World) : Calls Try.prog 70 #[.slice A n cap, .int .i64 0, .int .i64 (n : Nat), fv] w fun e w' => e = .returned (.tuple #[]) ∧ w' = w := by
  have d1 : decide ((1 : Int) < (n : Nat)) = false := by simp; omega
  go_enter Try.func70, Try.ntmps70
  go_wp2_with fail
  refine wp_loop_rounds 1 ?_
  rw [rounds_succ]
  go_wp2_with fail
  go_end0
  exact ⟨rfl, rfl⟩
set_option maxHeartbeats 1000000 in
theorem pdq_one (n : Nat) (h : n ≤ 1) (A : Option Addr) (cap : Nat) (m : Int) (fv : Value) (w : World) : Calls Try.prog 65 #[.slice A n cap, .int .i64 0, .int .i64 (n : Nat), .int .i64 m, fv] w fun e w' => e = .returned (.tuple #[]) ∧ w' = w := by
  have HC := Lib.hid (ins_one n h A cap fv w)
  have d1 : decide ((n : Int) ≤ 12) = true := by simp; omega
  have d2 : IntKind.i64.wrap ((n : Int) - 0) = (n : Nat) := by rw [IntKind.wrap_i64]; omega
  go_enter Try.func65, Try.ntmps65
  go_wp2_with fail
  refine wp_loop_rounds 1 ?_
  rw [rounds_succ]
  go_wp2_with (go_at_call 70; with_reducible (refine HC.out.mono ?_); rintro e w' ⟨rfl, rfl⟩)
  (try simp only [Exit.inBlock, Exit.then]); refine bodyPost_ret (results_none rfl _ _ _) rfl ?_
  exact ⟨rfl, rfl⟩
set_option maxHeartbeats 1000000 in
theorem sort_one (n : Nat) (h : n ≤ 1) (A : Option Addr) (cap : Nat) (fv : Value) (w : World) : Calls Try.prog 58 #[.slice A n cap, fv] w fun e w' => e = .returned (.tuple #[]) ∧ w' = w := by
  have HC := Lib.hid (fun m => pdq_one n h A cap m fv w)
  have HL := Lib.hid (len_one n h w)
  have d2 : IntKind.u64.wrap (n : Int) = (n : Nat) := by rw [IntKind.wrap_u64]; omega
  clear h
  go_enter Try.func58, Try.ntmps58
  go_wp2_with (first
    | (go_at_call 66; with_reducible (refine HL.out.mono ?_); rintro e w' ⟨⟨m, rfl⟩, rfl⟩)
    | (go_at_call 65; with_reducible (refine (HC.out _).mono ?_); rintro e w' ⟨rfl, rfl⟩)
    | fail)
  go_end0
  exact ⟨rfl, rfl⟩
theorem sortC_one : SortC 1 := by
  intro w g sb s n bm l ids A cap B h hL hB hk hn hw ho
  refine (sort_one ids.length hk A cap _ w).mono ?_
  rintro e w' ⟨he, rfl⟩
  refine ⟨he, ids, List.Perm.refl _, ?_, ho, ⟨rfl, rfl, rfl, Nat.le_refl _, fun _ _ _ => rfl⟩⟩
  cases ids with
  | nil => exact List.Pairwise.nil
  | cons a t =>
    cases t with
    | nil => simp
    | cons b t => simp at hk
set_option maxRecDepth 100000 in
set_option maxHeartbeats 4000000 in
theorem due_nil (now : Nat) (w : World) : Calls Try.prog 44 #[.pointer none, .int .u64 (now : Nat)] w fun e w' => e = .returned (.slice none 0 0) ∧ Below w.heap.size w w' := by
  have HN := Lib.hid (show WlN w none [] from .inl ⟨rfl, rfl⟩)
  refine (callsIn_wide (n := 3)).1 ?_
  refine callsIn_of_wp_marks Try.func44 rfl trivial ?_ rfl
  simp only [Try.ntmps44, List.size_toArray, List.length_cons, List.length_nil, Nat.reduceAdd, Nat.reduceSub, Array.replicate_succ, Array.replicate_zero, List.push_toArray, List.append_toArray, List.nil_append, List.cons_append]
  gi_wp2_with (refine ⟨trivial, ?_⟩; gi_at_call 57; refine (all_gives 2 _ _).mono ?_; rintro e w' ⟨rfl, rfl⟩)
  have bT := Boxed.new w 37 (.int .u64 (now : Nat))
  have bD := Boxed.new (w.alloc (.cells #[.int .u64 (now : Nat)] 37)) 79 (.slice none 0 0)
  rw [World.size_alloc] at bD
  have bN := Boxed.new ((w.alloc (.cells #[.int .u64 (now : Nat)] 37)).alloc (.cells #[.slice none 0 0] 79)) 67 (.pointer none)
  rw [World.size_alloc, World.size_alloc] at bN
  have hB0 : Below w.heap.size w (((w.alloc (.cells #[.int .u64 (now : Nat)] 37)).alloc (.cells #[.slice none 0 0] 79)).alloc (.cells #[.pointer none] 67)) := (((Below.refl _ w).alloc (Nat.le_refl _) _).alloc (by simp) _).alloc (by simp; omega) _
  refine wpIn_rangeFunc_ownF rfl (by omega) (gf := 64) (lb := #[.pointer (some ⟨w.heap.size + 1 + 1, 0, none⟩)]) rfl trivial (enters_of Try.func64 (by kernel_rfl) rfl)
    (HN.out.stops 2 (by omega) (w.heap.size + 1 + 1) _ hB0 (by simp) bN.cell) kpw_t (kpw_b (by simp; omega)) (Below.refl _ _) (fun _ => rfl)
    (fun pre W => Boxed W (w.heap.size + 1) 79 (.slice none 0 0) ∧ Below w.heap.size w W)
    (fun _ _ _ => False)
    (OwnFrom.and (Own.from (boxed_own _ _ _) _) (ownFrom_below (Nat.le_refl _) (by simp; omega)))
    (fun _ _ _ _ _ hs _ _ => hs)
    ⟨bD.alloc _, hB0⟩
    (fun x => { tmps := #[.pointer none, .int .u64 (now : Nat), undef, .pointer (some ⟨w.heap.size, 0, none⟩), .slice none 0 0, .pointer (some ⟨w.heap.size + 1, 0, none⟩), .int .i64 x.id, .int .u64 (x.t : Nat), undef, undef, .pointer none, .func (.func 64) #[] #[.pointer (some ⟨w.heap.size + 1 + 1, 0, none⟩)], .int .i64 x.id, .int .u64 (x.t : Nat), undef, undef, undef, undef, undef, undef, undef, undef, undef, undef, undef, undef, undef, undef, undef, undef, undef, undef, undef, undef, undef, undef, undef], defers := [] }) ?assign ?body ?done ?stop
  case assign =>
    intro lp x W K hK
    gi_wp2
    exact hK
  case body =>
    rintro lp pre x W _ hlt
    exact absurd hlt (Nat.not_lt_zero _)
  case done =>
    rintro D ys W hD hA ⟨b2, hB⟩ hK
    have c2 := b2.cell
    have HSo := Lib.hid (sort_one 0 (by omega) none 0 (.func (.func 59) #[.pointer none] #[]) W)
    have hDD : w.heap.size ≤ D := by simp at hD; omega
    clear hD hA
    gi_wp2_with (refine ⟨trivial, ?_⟩; gi_at_call 58; with_reducible (refine (callsIn_wide.2 HSo.out).mono ?_); rintro e w2 ⟨rfl, rfl⟩)
    gi_loopw [9, 27] (fun _ x wr => x = .int .i64 0 ∧ wr = w2) (fun _ _ _ => 0)
    case atStart => exact ⟨rfl, rfl⟩
    case round =>
      obtain ⟨rfl, rfl⟩ := hrel
      gi_wp2
      refine ⟨by simp, .inl ⟨_, _, rfl, run_takeDeferred hK, ?_⟩⟩
      exact ⟨_, results_tmp rfl _ _ _, rfl, hB.trans (belowK_b (w := w) (Nat.le_refl _) _ D _ _ hDD hK rfl rfl)⟩
  case stop =>
    rintro D c pre W _ _ h _
    exact h.elim
end Go.Proofs.Ytjjanogfcfapcaa.W
