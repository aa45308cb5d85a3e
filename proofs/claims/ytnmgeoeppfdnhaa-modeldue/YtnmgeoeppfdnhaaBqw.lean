/- Joined texts: Wha Sha. -/
import Derived.Test.YtnmgeoeppfdnhaaRows

/- Timers, in plain mathematics: a list of ids with times, in order; what setting, taking and being due make of it. Made ahead for stage 11. -/
namespace Go.Proofs.Ytnmgeoeppfdnhaa.W
set_option linter.unusedVariables false

/-- An id, and its time. -/
structure Ti where
  id : Int
  t : Nat
def ltT (a b : Ti) : Prop := a.t < b.t ∨ a.t = b.t ∧ a.id < b.id
instance (a b : Ti) : Decidable (ltT a b) := by unfold ltT; infer_instance
theorem ltT_trans {a b c : Ti} (h : ltT a b) (k : ltT b c) : ltT a c := by unfold ltT at *; omega
theorem ltT_irrefl (a : Ti) : ¬ ltT a a := by unfold ltT; omega
theorem ltT_tri (a b : Ti) : ltT a b ∨ a = b ∨ ltT b a := by
  unfold ltT
  by_cases h : a.t = b.t ∧ a.id = b.id
  · right; left
    obtain ⟨ai, at'⟩ := a
    obtain ⟨bi, bt⟩ := b
    simp at h
    obtain ⟨rfl, rfl⟩ := h
    rfl
  · omega
/-- In order, and no id twice. -/
structure Ord (l : List Ti) : Prop where
  so : l.Pairwise ltT
  nd : (l.map (·.id)).Nodup
def look (l : List Ti) (id : Int) : Option Nat := (l.find? fun x => x.id == id).map (·.t)
theorem look_nil (id : Int) : look [] id = none := rfl
theorem look_cons (x : Ti) (l : List Ti) (id : Int) : look (x :: l) id = if x.id = id then some x.t else look l id := by
  unfold look
  rw [List.find?_cons]
  by_cases h : x.id = id
  · simp [h]
  · have : (x.id == id) = false := by simpa using h
    rw [this, if_neg h]
theorem look_mem : ∀ {l : List Ti}, (l.map (·.id)).Nodup → ∀ {x : Ti}, x ∈ l ↔ look l x.id = some x.t
  | [], _, x => by simp [look_nil]
  | y :: l, h, x => by
    rw [List.map_cons, List.nodup_cons] at h
    rw [look_cons, List.mem_cons]
    by_cases e : y.id = x.id
    · rw [if_pos e]
      constructor
      · rintro (rfl | hm)
        · rfl
        · exact absurd (List.mem_map.2 ⟨x, hm, e.symm⟩) h.1
      · intro ht
        left
        obtain ⟨xi, xt⟩ := x
        obtain ⟨yi, yt⟩ := y
        simp at e ht
        subst e
        subst ht
        rfl
    · rw [if_neg e]
      constructor
      · rintro (rfl | hm)
        · exact absurd rfl e
        · exact (look_mem h.2).1 hm
      · exact fun ht => .inr ((look_mem h.2).2 ht)
theorem look_none {l : List Ti} {id : Int} (h : ∀ x ∈ l, x.id ≠ id) : look l id = none := by
  unfold look
  rw [List.find?_eq_none.2 (fun x hx => by simpa using h x hx)]
  rfl
theorem look_some {l : List Ti} {id : Int} {a : Nat} (h : look l id = some a) : (⟨id, a⟩ : Ti) ∈ l := by
  unfold look at h
  rw [Option.map_eq_some_iff] at h
  obtain ⟨x, h1, h2⟩ := h
  have h3 := List.find?_some h1
  have h4 := List.mem_of_find?_eq_some h1
  simp at h3
  obtain ⟨xi, xt⟩ := x
  simp at h3 h2
  subst h3
  subst h2
  exact h4
/-- Two lists in order that have the same are one. -/
theorem ord_ext : ∀ {l l' : List Ti}, l.Pairwise ltT → l'.Pairwise ltT → (∀ x, x ∈ l ↔ x ∈ l') → l = l'
  | [], [], _, _, _ => rfl
  | [], y :: l', _, _, h => absurd ((h y).2 (List.mem_cons_self ..)) (by simp)
  | x :: l, [], _, _, h => absurd ((h x).1 (List.mem_cons_self ..)) (by simp)
  | x :: l, y :: l', h1, h2, h => by
    rw [List.pairwise_cons] at h1 h2
    have hxy : x = y := by
      rcases List.mem_cons.1 ((h x).1 (List.mem_cons_self ..)) with e | e
      · exact e
      · rcases List.mem_cons.1 ((h y).2 (List.mem_cons_self ..)) with e' | e'
        · exact e'.symm
        · exact absurd (ltT_trans (h1.1 y e') (h2.1 x e)) (ltT_irrefl x)
    subst hxy
    have ht : ∀ z, z ∈ l ↔ z ∈ l' := fun z => by
      constructor
      · intro hz
        rcases List.mem_cons.1 ((h z).1 (List.mem_cons_of_mem _ hz)) with e | e
        · subst e; exact absurd (h1.1 z hz) (ltT_irrefl z)
        · exact e
      · intro hz
        rcases List.mem_cons.1 ((h z).2 (List.mem_cons_of_mem _ hz)) with e | e
        · subst e; exact absurd (h2.1 z hz) (ltT_irrefl z)
        · exact e
    rw [ord_ext h1.2 h2.2 ht]
/-- What lies in order has no element twice; two of one id are one. -/
theorem Ord.nodup {l : List Ti} (h : Ord l) : l.Nodup := h.so.imp (fun {a b} hab e => by subst e; exact ltT_irrefl a hab)

def delL (l : List Ti) (id : Int) : List Ti := l.filter fun x => x.id != id
theorem delL_ord {l : List Ti} (h : Ord l) (id : Int) : Ord (delL l id) := ⟨h.so.filter _, by
  have hs : List.Sublist ((delL l id).map (·.id)) (l.map (·.id)) := (List.filter_sublist (p := fun x : Ti => x.id != id) (l := l)).map _
  exact hs.nodup h.nd⟩
theorem delL_look (l : List Ti) (id j : Int) : look (delL l id) j = if j = id then none else look l j := by
  unfold delL
  induction l with
  | nil => rw [List.filter_nil, look_nil]; split <;> rfl
  | cons x l ih =>
    rw [List.filter_cons]
    by_cases e : x.id = id
    · rw [if_neg (by simpa using e), ih, look_cons]
      by_cases ej : j = id
      · rw [if_pos ej, if_pos ej]
      · rw [if_neg ej, if_neg ej, if_neg (by omega)]
    · rw [if_pos (by simpa using e), look_cons, look_cons, ih]
      by_cases ej : j = id
      · rw [if_pos ej, if_pos ej, if_neg (by omega)]
      · rw [if_neg ej, if_neg ej]
theorem delL_mem {l : List Ti} {id : Int} {x : Ti} : x ∈ delL l id ↔ x ∈ l ∧ x.id ≠ id := by
  unfold delL
  rw [List.mem_filter]
  simp
def insL (l : List Ti) (x : Ti) : List Ti := (l.takeWhile fun y => decide (ltT y x)) ++ x :: l.dropWhile fun y => decide (ltT y x)
theorem insL_mem {l : List Ti} {x y : Ti} : y ∈ insL l x ↔ y = x ∨ y ∈ l := by
  unfold insL
  have h : y ∈ l ↔ y ∈ (l.takeWhile fun y => decide (ltT y x)) ∨ y ∈ l.dropWhile fun y => decide (ltT y x) := by
    rw [← List.mem_append, List.takeWhile_append_dropWhile]
  rw [List.mem_append, List.mem_cons, h]
  constructor
  · rintro (h | h | h)
    · exact .inr (.inl h)
    · exact .inl h
    · exact .inr (.inr h)
  · rintro (h | h | h)
    · exact .inr (.inl h)
    · exact .inl h
    · exact .inr (.inr h)
theorem insL_cons (y : Ti) (l : List Ti) (x : Ti) : insL (y :: l) x = if ltT y x then y :: insL l x else x :: y :: l := by
  unfold insL
  rw [List.takeWhile_cons, List.dropWhile_cons]
  by_cases h : ltT y x
  · simp [h]
  · simp [h]
theorem insL_so : ∀ {l : List Ti} {x : Ti}, l.Pairwise ltT → (∀ y ∈ l, y ≠ x) → (insL l x).Pairwise ltT
  | [], x, _, _ => by simp [insL]
  | y :: l, x, h, hne => by
    rw [insL_cons]
    have hp := List.pairwise_cons.1 h
    split
    · rename_i hl
      rw [List.pairwise_cons]
      refine ⟨fun z hz => ?_, insL_so hp.2 (fun z hz => hne z (List.mem_cons_of_mem _ hz))⟩
      rcases insL_mem.1 hz with e | e
      · subst e; exact hl
      · exact hp.1 z e
    · rename_i hl
      have hxy : ltT x y := by
        rcases ltT_tri y x with e | e | e
        · exact absurd e hl
        · exact absurd e (hne y (List.mem_cons_self ..))
        · exact e
      rw [List.pairwise_cons]
      refine ⟨fun z hz => ?_, h⟩
      rcases List.mem_cons.1 hz with e | e
      · subst e; exact hxy
      · exact ltT_trans hxy (hp.1 z e)
theorem insL_nd : ∀ {l : List Ti} {x : Ti}, (l.map (·.id)).Nodup → (∀ y ∈ l, y.id ≠ x.id) → ((insL l x).map (·.id)).Nodup
  | [], x, _, _ => by simp [insL]
  | y :: l, x, h, hne => by
    rw [List.map_cons, List.nodup_cons] at h
    rw [insL_cons]
    split
    · rw [List.map_cons, List.nodup_cons]
      refine ⟨fun hm => ?_, insL_nd h.2 (fun z hz => hne z (List.mem_cons_of_mem _ hz))⟩
      obtain ⟨z, hz, e⟩ := List.mem_map.1 hm
      rcases insL_mem.1 hz with e' | e'
      · subst e'; exact hne y (List.mem_cons_self ..) e.symm
      · exact h.1 (List.mem_map.2 ⟨z, e', e⟩)
    · rw [List.map_cons, List.nodup_cons]
      refine ⟨fun hm => ?_, by rw [List.map_cons, List.nodup_cons]; exact h⟩
      obtain ⟨z, hz, e⟩ := List.mem_map.1 hm
      exact hne z hz e
def setL (l : List Ti) (id : Int) (t : Nat) : List Ti := insL (delL l id) ⟨id, t⟩
theorem setL_ord {l : List Ti} (h : Ord l) (id : Int) (t : Nat) : Ord (setL l id t) := by
  have hd := delL_ord h id
  have hn : ∀ y ∈ delL l id, y.id ≠ id := fun y hy => (delL_mem.1 hy).2
  exact ⟨insL_so hd.so (fun y hy e => hn y hy (by rw [e])), insL_nd hd.nd hn⟩
theorem setL_look {l : List Ti} (h : Ord l) (id j : Int) (t : Nat) : look (setL l id t) j = if j = id then some t else look l j := by
  have hs := setL_ord h id t
  by_cases e : j = id
  · subst e
    rw [if_pos rfl]
    exact (look_mem hs.nd (x := ⟨j, t⟩)).1 (insL_mem.2 (.inl rfl))
  · rw [if_neg e]
    have hd := delL_look l id j
    rw [if_neg e] at hd
    rw [← hd]
    cases ho : look (delL l id) j with
    | none =>
      apply look_none
      intro x hx
      rcases insL_mem.1 hx with hx | hx
      · subst hx; exact Ne.symm e
      · intro ex
        subst ex
        rw [(look_mem (delL_ord h id).nd).1 hx] at ho
        cases ho
    | some a =>
      exact (look_mem hs.nd (x := ⟨j, a⟩)).1 (insL_mem.2 (.inr (look_some ho)))
def dueL (l : List Ti) (now : Nat) : List Ti := l.takeWhile fun x => decide (x.t ≤ now)
def restL (l : List Ti) (now : Nat) : List Ti := l.dropWhile fun x => decide (x.t ≤ now)
theorem due_rest (l : List Ti) (now : Nat) : dueL l now ++ restL l now = l := List.takeWhile_append_dropWhile
theorem due_all : ∀ {l : List Ti} {now : Nat}, l.Pairwise ltT → dueL l now = (l.filter fun x => decide (x.t ≤ now)) ∧ restL l now = (l.filter fun x => !decide (x.t ≤ now))
  | [], _, _ => ⟨rfl, rfl⟩
  | y :: l, now, h => by
    have hp := List.pairwise_cons.1 h
    unfold dueL restL
    rw [List.takeWhile_cons, List.dropWhile_cons, List.filter_cons, List.filter_cons]
    by_cases e : y.t ≤ now
    · obtain ⟨h1, h2⟩ := due_all (now := now) hp.2
      unfold dueL at h1
      unfold restL at h2
      simp [e, h1, h2]
    · have ha : ∀ z ∈ l, ¬ z.t ≤ now := fun z hz => by
        have := hp.1 z hz
        unfold ltT at this
        omega
      have f1 : l.filter (fun x => decide (x.t ≤ now)) = [] := by
        rw [List.filter_eq_nil_iff]
        intro z hz
        simpa using ha z hz
      have f2 : l.filter (fun x => !decide (x.t ≤ now)) = l := by
        rw [List.filter_eq_self]
        intro z hz
        simpa using ha z hz
      simp only [e, if_false, decide_false, Bool.false_eq_true, Bool.not_false, if_true]
      rw [f1, f2]
      exact ⟨rfl, rfl⟩
theorem restL_ord {l : List Ti} (h : Ord l) (now : Nat) : Ord (restL l now) := by
  have hs : List.Sublist (restL l now) l := List.dropWhile_sublist _
  exact ⟨h.so.sublist hs, (hs.map _).nodup h.nd⟩
theorem mem_due {l : List Ti} (h : Ord l) {now : Nat} {x : Ti} : x ∈ dueL l now ↔ look l x.id = some x.t ∧ x.t ≤ now := by
  rw [(due_all h.so).1, List.mem_filter, look_mem h.nd, decide_eq_true_eq]
theorem mem_rest {l : List Ti} (h : Ord l) {now : Nat} {x : Ti} : x ∈ restL l now ↔ look l x.id = some x.t ∧ now < x.t := by
  rw [(due_all h.so).2, List.mem_filter, look_mem h.nd]
  simp
theorem restL_look {l : List Ti} (h : Ord l) (now : Nat) (j : Int) : look (restL l now) j = match look l j with | some a => if a ≤ now then none else some a | none => none := by
  cases ho : look l j with
  | none =>
    apply look_none
    intro x hx e
    subst e
    rw [((mem_rest h).1 hx).1] at ho
    cases ho
  | some a =>
    simp only
    by_cases e : a ≤ now
    · rw [if_pos e]
      apply look_none
      intro x hx ex
      obtain ⟨h1, h2⟩ := (mem_rest h).1 hx
      rw [ex, ho] at h1
      cases h1
      omega
    · rw [if_neg e]
      exact (look_mem (restL_ord h now).nd (x := ⟨j, a⟩)).1 ((mem_rest h).2 ⟨ho, by show now < a; omega⟩)
theorem head_least {x : Ti} {l : List Ti} (h : (x :: l).Pairwise ltT) : ∀ y ∈ l, x.t ≤ y.t := fun y hy => by
  have := (List.pairwise_cons.1 h).1 y hy
  unfold ltT at this
  omega
end Go.Proofs.Ytnmgeoeppfdnhaa.W

/- Mathematics for stage 12: what is due in a row of cells, one least after the other, is what a sorted list of their times says. No function of the program. -/
namespace Go.Proofs.Ytnmgeoeppfdnhaa.W
set_option linter.unusedVariables false
variable {α : Type} (ex : α → Nat)
/-- The cell of a slot: none = free. -/
def cellOf (c : List (Option α)) (i : Nat) : Option α := match c[i]? with | some o => o | none => none
/-- When a slot's entry ends. -/
def exAt (c : List (Option α)) (i : Nat) : Nat := match cellOf c i with | some e => ex e | none => 0
/-- One look: i is taken for k. -/
def lookK (c : List (Option α)) (now i : Nat) (k : Option Nat) : Option Nat :=
  match cellOf c i with
  | none => k
  | some e => if ex e ≤ now ∧ (k = none ∨ ex e < exAt ex c (k.getD 0)) then some i else k
/-- The least that is due among the first n: the lowest slot of those that end first. -/
def scanK (c : List (Option α)) (now : Nat) : Nat → Option Nat
  | 0 => none
  | n + 1 => lookK ex c now n (scanK c now n)
/-- What is found is due, and no other one is before it. -/
def LeastK (c : List (Option α)) (now n : Nat) : Option Nat → Prop
  | none => ∀ i, i < n → ∀ e, cellOf c i = some e → now < ex e
  | some k => k < n ∧ ∃ e, cellOf c k = some e ∧ ex e ≤ now ∧ ∀ i, i < n → ∀ e', cellOf c i = some e' → ex e' ≤ now → i ≠ k → ex e < ex e' ∨ ex e = ex e' ∧ k < i
theorem scanK_least (c : List (Option α)) (now : Nat) : ∀ n, LeastK ex c now n (scanK ex c now n)
  | 0 => fun i hi => absurd hi (Nat.not_lt_zero i)
  | n + 1 => by
    have ih := scanK_least c now n
    unfold scanK lookK
    cases hc : cellOf c n with
    | none =>
      simp only
      cases hs : scanK ex c now n with
      | none =>
        rw [hs] at ih
        intro i hi e he
        by_cases h : i = n
        · subst h; rw [hc] at he; cases he
        · exact ih i (by omega) e he
      | some k =>
        rw [hs] at ih
        obtain ⟨h1, e, h2, h3, h4⟩ := ih
        refine ⟨by omega, e, h2, h3, fun i hi e' he hle hne => ?_⟩
        by_cases h : i = n
        · subst h; rw [hc] at he; cases he
        · exact h4 i (by omega) e' he hle hne
    | some e =>
      simp only
      cases hs : scanK ex c now n with
      | none =>
        rw [hs] at ih
        by_cases hd : ex e ≤ now
        · rw [if_pos ⟨hd, .inl rfl⟩]
          refine ⟨by omega, e, hc, hd, fun i hi e' he hle hne => ?_⟩
          have := ih i (by omega) e' he
          omega
        · rw [if_neg (fun h => hd h.1)]
          intro i hi e' he
          by_cases h : i = n
          · subst h; rw [hc] at he; cases he; omega
          · exact ih i (by omega) e' he
      | some k =>
        rw [hs] at ih
        obtain ⟨h1, e1, h2, h3, h4⟩ := ih
        have hx : exAt ex c ((some k).getD 0) = ex e1 := by
          show exAt ex c k = ex e1
          unfold exAt
          rw [h2]
        rw [hx]
        by_cases hd : ex e ≤ now ∧ ex e < ex e1
        · rw [if_pos ⟨hd.1, .inr hd.2⟩]
          refine ⟨by omega, e, hc, hd.1, fun i hi e' he hle hne => ?_⟩
          by_cases h : i = k
          · subst h; rw [h2] at he; cases he; exact .inl hd.2
          · have := h4 i (by omega) e' he hle h
            omega
        · rw [if_neg (fun h => hd ⟨h.1, h.2.resolve_left (by simp)⟩)]
          refine ⟨by omega, e1, h2, h3, fun i hi e' he hle hne => ?_⟩
          by_cases h : i = n
          · subst h
            rw [hc] at he
            cases he
            have : ¬ ex e < ex e1 := fun hh => hd ⟨hle, hh⟩
            omega
          · exact h4 i (by omega) e' he hle hne
/-- A list of times that is the cells'. -/
structure TimesOf (c : List (Option α)) (l : List Ti) : Prop where
  ord : Ord l
  at_ : ∀ i : Nat, look l i = (cellOf c i).map ex
  nn : ∀ x ∈ l, 0 ≤ x.id
variable {ex}
theorem cellOf_lt {c : List (Option α)} {i : Nat} {e : α} (h : cellOf c i = some e) : i < c.length := by
  by_cases hi : i < c.length
  · exact hi
  · unfold cellOf at h
    rw [List.getElem?_eq_none (by omega)] at h
    cases h
theorem cellOf_set {c : List (Option α)} {k : Nat} (hk : k < c.length) (o : Option α) (i : Nat) : cellOf (c.set k o) i = if i = k then o else cellOf c i := by
  unfold cellOf
  rw [List.getElem?_set]
  by_cases h : k = i
  · subst h; simp [hk]
  · rw [if_neg h, if_neg (fun e => h e.symm)]
theorem dueL_cons (x : Ti) (l : List Ti) (now : Nat) : dueL (x :: l) now = if x.t ≤ now then x :: dueL l now else [] := by
  unfold dueL
  rw [List.takeWhile_cons]
  by_cases h : x.t ≤ now <;> simp [h]
theorem TimesOf.mem {c : List (Option α)} {l : List Ti} (h : TimesOf ex c l) {x : Ti} (hx : x ∈ l) : ∃ (k : Nat) (e : α), x.id = k ∧ cellOf c k = some e ∧ ex e = x.t := by
  obtain ⟨k, hk⟩ : ∃ k : Nat, x.id = k := ⟨x.id.toNat, by have := h.nn x hx; omega⟩
  have h1 := (look_mem h.ord.nd).1 hx
  rw [hk, h.at_ k] at h1
  cases hc : cellOf c k with
  | none => rw [hc] at h1; cases h1
  | some e => rw [hc] at h1; exact ⟨k, e, hk, hc, by simpa using h1⟩
/-- Nothing is due: none is found. -/
theorem scanK_none {c : List (Option α)} {l : List Ti} {now : Nat} (h : TimesOf ex c l) (hd : dueL l now = []) : scanK ex c now c.length = none := by
  have hl := scanK_least ex c now c.length
  cases hs : scanK ex c now c.length with
  | none => rfl
  | some k =>
    rw [hs] at hl
    obtain ⟨h1, e, h2, h3, _⟩ := hl
    have : (⟨k, ex e⟩ : Ti) ∈ dueL l now := (mem_due h.ord).2 ⟨by show look l k = some (ex e); rw [h.at_ k, h2]; rfl, h3⟩
    rw [hd] at this
    cases this
/-- The first that is due is found. -/
theorem scanK_some {c : List (Option α)} {l r : List Ti} {x : Ti} {now : Nat} (h : TimesOf ex c l) (hd : dueL l now = x :: r) : ∃ (k : Nat) (e : α), x.id = k ∧ scanK ex c now c.length = some k ∧ cellOf c k = some e ∧ ex e = x.t := by
  have hx : x ∈ dueL l now := by rw [hd]; exact List.mem_cons_self ..
  obtain ⟨hx1, hx2⟩ := (mem_due h.ord).1 hx
  have hxl : x ∈ l := (look_mem h.ord.nd).2 hx1
  obtain ⟨k0, e0, hk0, hc0, he0⟩ := h.mem hxl
  have hl := scanK_least ex c now c.length
  cases hs : scanK ex c now c.length with
  | none =>
    rw [hs] at hl
    have := hl k0 (cellOf_lt hc0) e0 hc0
    omega
  | some k =>
    rw [hs] at hl
    obtain ⟨h1, e, h2, h3, h4⟩ := hl
    by_cases hk : k0 = k
    · subst hk
      exact ⟨k0, e0, hk0, rfl, hc0, he0⟩
    · exfalso
      have hm : (⟨k, ex e⟩ : Ti) ∈ dueL l now := (mem_due h.ord).2 ⟨by show look l k = some (ex e); rw [h.at_ k, h2]; rfl, h3⟩
      rw [hd] at hm
      have hne : (⟨k, ex e⟩ : Ti) ≠ x := fun hq => hk (by have := congrArg Ti.id hq; simp only at this; omega)
      have hr : (⟨k, ex e⟩ : Ti) ∈ r := by
        rcases List.mem_cons.1 hm with hq | hq
        · exact absurd hq hne
        · exact hq
      have hso : (dueL l now).Pairwise ltT := h.ord.so.sublist (List.takeWhile_sublist _)
      rw [hd] at hso
      have hlt := (List.pairwise_cons.1 hso).1 _ hr
      have hb := h4 k0 (cellOf_lt hc0) e0 hc0 (by omega) hk
      unfold ltT at hlt
      simp only at hlt
      omega
/-- It goes: the rest is due, in that order. -/
theorem due_next {c : List (Option α)} {l r : List Ti} {x : Ti} {k now : Nat} (h : TimesOf ex c l) (hk : x.id = k) (hlt : k < c.length) (hd : dueL l now = x :: r) : TimesOf ex (c.set k none) (delL l x.id) ∧ dueL (delL l x.id) now = r := by
  constructor
  · refine ⟨delL_ord h.ord _, fun i => ?_, fun y hy => h.nn y (delL_mem.1 hy).1⟩
    rw [delL_look, cellOf_set hlt, hk]
    by_cases e : i = k
    · subst e; simp
    · rw [if_neg (by omega), if_neg e, h.at_ i]
  · cases l with
    | nil => cases hd
    | cons y l =>
      rw [dueL_cons] at hd
      by_cases hy : y.t ≤ now
      · rw [if_pos hy] at hd
        obtain ⟨rfl, rfl⟩ := List.cons.inj hd
        have hn := h.ord.nd
        rw [List.map_cons, List.nodup_cons] at hn
        have e : delL (y :: l) y.id = l := by
          unfold delL
          rw [List.filter_cons]
          simp only [bne_self_eq_false, Bool.false_eq_true, if_false]
          refine List.filter_eq_self.2 fun z hz => ?_
          have : z.id ≠ y.id := fun q => hn.1 (List.mem_map.2 ⟨z, hz, q⟩)
          simpa using this
        rw [e]
      · rw [if_neg hy] at hd
        cases hd
/-- Setting a cell sets the time. -/
theorem TimesOf.set {c : List (Option α)} {l : List Ti} (h : TimesOf ex c l) {k : Nat} (hlt : k < c.length) (e : α) : TimesOf ex (c.set k (some e)) (setL l k (ex e)) := by
  refine ⟨setL_ord h.ord _ _, fun i => ?_, fun y hy => ?_⟩
  · rw [setL_look h.ord, cellOf_set hlt]
    by_cases q : i = k
    · subst q; simp
    · rw [if_neg (by omega), if_neg q, h.at_ i]
  · rcases insL_mem.1 hy with rfl | hy
    · simp
    · exact h.nn y (delL_mem.1 hy).1
/-- Freeing a cell takes the time away. -/
theorem TimesOf.free {c : List (Option α)} {l : List Ti} (h : TimesOf ex c l) {k : Nat} (hlt : k < c.length) : TimesOf ex (c.set k none) (delL l k) := by
  refine ⟨delL_ord h.ord _, fun i => ?_, fun y hy => h.nn y (delL_mem.1 hy).1⟩
  rw [delL_look, cellOf_set hlt]
  by_cases q : i = k
  · subst q; simp
  · rw [if_neg (by omega), if_neg q, h.at_ i]
theorem TimesOf.new (n : Nat) : TimesOf ex (List.replicate n none) [] := by
  refine ⟨⟨List.Pairwise.nil, List.nodup_nil⟩, fun i => ?_, fun y hy => by cases hy⟩
  have : cellOf (List.replicate n (none : Option α)) i = none := by
    unfold cellOf
    rw [List.getElem?_replicate]
    split <;> simp_all
  rw [this]
  rfl
end Go.Proofs.Ytnmgeoeppfdnhaa.W
