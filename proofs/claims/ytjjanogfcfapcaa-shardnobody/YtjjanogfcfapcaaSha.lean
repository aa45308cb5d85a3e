/- Mathematics for stage 12: what is due in a row of cells, one least after the other, is what a sorted list of their times says. No function of the program. -/
import Derived.Test.YtjjanogfcfapcaaWha
namespace Go.Proofs.Ytjjanogfcfapcaa.W
set_option linter.unusedVariables false
variable {α : Type} (ex : α → Nat)
/-- The cell of a slot: none = free. -/
def cellOf (c : List (Option α)) (i : Nat) : Option α := match c[i]? with | some o => o | none => none
/-- When a slot's entry ends. -/
def exAt (c : List (Option α)) (i : Nat) : Nat := match cellOf c i with | some e => ex e | none => 0
/-- One look: i is taken for k. -/
def lookK (c : List (Option α)) (now i : Nat) (k : Option Nat) : Option Nat :=
  match cellOf c i with
  | none => k
  | some e => if ex e ≤ now ∧ (k = none ∨ ex e < exAt ex c (k.getD 0)) then some i else k
/-- The least that is due among the first n: the lowest slot of those that end first. -/
def scanK (c : List (Option α)) (now : Nat) : Nat → Option Nat
  | 0 => none
  | n + 1 => lookK ex c now n (scanK c now n)
/-- What is found is due, and no other one is before it. -/
def LeastK (c : List (Option α)) (now n : Nat) : Option Nat → Prop
  | none => ∀ i, i < n → ∀ e, cellOf c i = some e → now < ex e
  | some k => k < n ∧ ∃ e, cellOf c k = some e ∧ ex e ≤ now ∧ ∀ i, i < n → ∀ e', cellOf c i = some e' → ex e' ≤ now → i ≠ k → ex e < ex e' ∨ ex e = ex e' ∧ k < i
theorem scanK_least (c : List (Option α)) (now : Nat) : ∀ n, LeastK ex c now n (scanK ex c now n)
  | 0 => fun i hi => absurd hi (Nat.not_lt_zero i)
  | n + 1 => by
    have ih := scanK_least c now n
    unfold scanK lookK
    cases hc : cellOf c n with
    | none =>
      simp only
      cases hs : scanK ex c now n with
      | none =>
        rw [hs] at ih
        intro i hi e he
        by_cases h : i = n
        · subst h; rw [hc] at he; cases he
        · exact ih i (by omega) e he
      | some k =>
        rw [hs] at ih
        obtain ⟨h1, e, h2, h3, h4⟩ := ih
        refine ⟨by omega, e, h2, h3, fun i hi e' he hle hne => ?_⟩
        by_cases h : i = n
        · subst h; rw [hc] at he; cases he
        · exact h4 i (by omega) e' he hle hne
    | some e =>
      simp only
      cases hs : scanK ex c now n with
      | none =>
        rw [hs] at ih
        by_cases hd : ex e ≤ now
        · rw [if_pos ⟨hd, .inl rfl⟩]
          refine ⟨by omega, e, hc, hd, fun i hi e' he hle hne => ?_⟩
          have := ih i (by omega) e' he
          omega
        · rw [if_neg (fun h => hd h.1)]
          intro i hi e' he
          by_cases h : i = n
          · subst h; rw [hc] at he; cases he; omega
          · exact ih i (by omega) e' he
      | some k =>
        rw [hs] at ih
        obtain ⟨h1, e1, h2, h3, h4⟩ := ih
        have hx : exAt ex c ((some k).getD 0) = ex e1 := by
          show exAt ex c k = ex e1
          unfold exAt
          rw [h2]
        rw [hx]
        by_cases hd : ex e ≤ now ∧ ex e < ex e1
        · rw [if_pos ⟨hd.1, .inr hd.2⟩]
          refine ⟨by omega, e, hc, hd.1, fun i hi e' he hle hne => ?_⟩
          by_cases h : i = k
          · subst h; rw [h2] at he; cases he; exact .inl hd.2
          · have := h4 i (by omega) e' he hle h
            omega
        · rw [if_neg (fun h => hd ⟨h.1, h.2.resolve_left (by simp)⟩)]
          refine ⟨by omega, e1, h2, h3, fun i hi e' he hle hne => ?_⟩
          by_cases h : i = n
          · subst h
            rw [hc] at he
            cases he
            have : ¬ ex e < ex e1 := fun hh => hd ⟨hle, hh⟩
            omega
          · exact h4 i (by omega) e' he hle hne
/-- A list of times that is the cells'. -/
structure TimesOf (c : List (Option α)) (l : List Ti) : Prop where
  ord : Ord l
  at_ : ∀ i : Nat, look l i = (cellOf c i).map ex
  nn : ∀ x ∈ l, 0 ≤ x.id
variable {ex}
theorem cellOf_lt {c : List (Option α)} {i : Nat} {e : α} (h : cellOf c i = some e) : i < c.length := by
  by_cases hi : i < c.length
  · exact hi
  · unfold cellOf at h
    rw [List.getElem?_eq_none (by omega)] at h
    cases h
theorem cellOf_set {c : List (Option α)} {k : Nat} (hk : k < c.length) (o : Option α) (i : Nat) : cellOf (c.set k o) i = if i = k then o else cellOf c i := by
  unfold cellOf
  rw [List.getElem?_set]
  by_cases h : k = i
  · subst h; simp [hk]
  · rw [if_neg h, if_neg (fun e => h e.symm)]
theorem dueL_cons (x : Ti) (l : List Ti) (now : Nat) : dueL (x :: l) now = if x.t ≤ now then x :: dueL l now else [] := by
  unfold dueL
  rw [List.takeWhile_cons]
  by_cases h : x.t ≤ now <;> simp [h]
theorem TimesOf.mem {c : List (Option α)} {l : List Ti} (h : TimesOf ex c l) {x : Ti} (hx : x ∈ l) : ∃ (k : Nat) (e : α), x.id = k ∧ cellOf c k = some e ∧ ex e = x.t := by
  obtain ⟨k, hk⟩ : ∃ k : Nat, x.id = k := ⟨x.id.toNat, by have := h.nn x hx; omega⟩
  have h1 := (look_mem h.ord.nd).1 hx
  rw [hk, h.at_ k] at h1
  cases hc : cellOf c k with
  | none => rw [hc] at h1; cases h1
  | some e => rw [hc] at h1; exact ⟨k, e, hk, hc, by simpa using h1⟩
/-- Nothing is due: none is found. -/
theorem scanK_none {c : List (Option α)} {l : List Ti} {now : Nat} (h : TimesOf ex c l) (hd : dueL l now = []) : scanK ex c now c.length = none := by
  have hl := scanK_least ex c now c.length
  cases hs : scanK ex c now c.length with
  | none => rfl
  | some k =>
    rw [hs] at hl
    obtain ⟨h1, e, h2, h3, _⟩ := hl
    have : (⟨k, ex e⟩ : Ti) ∈ dueL l now := (mem_due h.ord).2 ⟨by show look l k = some (ex e); rw [h.at_ k, h2]; rfl, h3⟩
    rw [hd] at this
    cases this
/-- The first that is due is found. -/
theorem scanK_some {c : List (Option α)} {l r : List Ti} {x : Ti} {now : Nat} (h : TimesOf ex c l) (hd : dueL l now = x :: r) : ∃ (k : Nat) (e : α), x.id = k ∧ scanK ex c now c.length = some k ∧ cellOf c k = some e ∧ ex e = x.t := by
  have hx : x ∈ dueL l now := by rw [hd]; exact List.mem_cons_self ..
  obtain ⟨hx1, hx2⟩ := (mem_due h.ord).1 hx
  have hxl : x ∈ l := (look_mem h.ord.nd).2 hx1
  obtain ⟨k0, e0, hk0, hc0, he0⟩ := h.mem hxl
  have hl := scanK_least ex c now c.length
  cases hs : scanK ex c now c.length with
  | none =>
    rw [hs] at hl
    have := hl k0 (cellOf_lt hc0) e0 hc0
    omega
  | some k =>
    rw [hs] at hl
    obtain ⟨h1, e, h2, h3, h4⟩ := hl
    by_cases hk : k0 = k
    · subst hk
      exact ⟨k0, e0, hk0, rfl, hc0, he0⟩
    · exfalso
      have hm : (⟨k, ex e⟩ : Ti) ∈ dueL l now := (mem_due h.ord).2 ⟨by show look l k = some (ex e); rw [h.at_ k, h2]; rfl, h3⟩
      rw [hd] at hm
      have hne : (⟨k, ex e⟩ : Ti) ≠ x := fun hq => hk (by have := congrArg Ti.id hq; simp only at this; omega)
      have hr : (⟨k, ex e⟩ : Ti) ∈ r := by
        rcases List.mem_cons.1 hm with hq | hq
        · exact absurd hq hne
        · exact hq
      have hso : (dueL l now).Pairwise ltT := h.ord.so.sublist (List.takeWhile_sublist _)
      rw [hd] at hso
      have hlt := (List.pairwise_cons.1 hso).1 _ hr
      have hb := h4 k0 (cellOf_lt hc0) e0 hc0 (by omega) hk
      unfold ltT at hlt
      simp only at hlt
      omega
/-- It goes: the rest is due, in that order. -/
theorem due_next {c : List (Option α)} {l r : List Ti} {x : Ti} {k now : Nat} (h : TimesOf ex c l) (hk : x.id = k) (hlt : k < c.length) (hd : dueL l now = x :: r) : TimesOf ex (c.set k none) (delL l x.id) ∧ dueL (delL l x.id) now = r := by
  constructor
  · refine ⟨delL_ord h.ord _, fun i => ?_, fun y hy => h.nn y (delL_mem.1 hy).1⟩
    rw [delL_look, cellOf_set hlt, hk]
    by_cases e : i = k
    · subst e; simp
    · rw [if_neg (by omega), if_neg e, h.at_ i]
  · cases l with
    | nil => cases hd
    | cons y l =>
      rw [dueL_cons] at hd
      by_cases hy : y.t ≤ now
      · rw [if_pos hy] at hd
        obtain ⟨rfl, rfl⟩ := List.cons.inj hd
        have hn := h.ord.nd
        rw [List.map_cons, List.nodup_cons] at hn
        have e : delL (y :: l) y.id = l := by
          unfold delL
          rw [List.filter_cons]
          simp only [bne_self_eq_false, Bool.false_eq_true, if_false]
          refine List.filter_eq_self.2 fun z hz => ?_
          have : z.id ≠ y.id := fun q => hn.1 (List.mem_map.2 ⟨z, hz, q⟩)
          simpa using this
        rw [e]
      · rw [if_neg hy] at hd
        cases hd
/-- Setting a cell sets the time. -/
theorem TimesOf.set {c : List (Option α)} {l : List Ti} (h : TimesOf ex c l) {k : Nat} (hlt : k < c.length) (e : α) : TimesOf ex (c.set k (some e)) (setL l k (ex e)) := by
  refine ⟨setL_ord h.ord _ _, fun i => ?_, fun y hy => ?_⟩
  · rw [setL_look h.ord, cellOf_set hlt]
    by_cases q : i = k
    · subst q; simp
    · rw [if_neg (by omega), if_neg q, h.at_ i]
  · rcases insL_mem.1 hy with rfl | hy
    · simp
    · exact h.nn y (delL_mem.1 hy).1
/-- Freeing a cell takes the time away. -/
theorem TimesOf.free {c : List (Option α)} {l : List Ti} (h : TimesOf ex c l) {k : Nat} (hlt : k < c.length) : TimesOf ex (c.set k none) (delL l k) := by
  refine ⟨delL_ord h.ord _, fun i => ?_, fun y hy => h.nn y (delL_mem.1 hy).1⟩
  rw [delL_look, cellOf_set hlt]
  by_cases q : i = k
  · subst q; simp
  · rw [if_neg (by omega), if_neg q, h.at_ i]
theorem TimesOf.new (n : Nat) : TimesOf ex (List.replicate n none) [] := by
  refine ⟨⟨List.Pairwise.nil, List.nodup_nil⟩, fun i => ?_, fun y hy => by cases hy⟩
  have : cellOf (List.replicate n (none : Option α)) i = none := by
    unfold cellOf
    rw [List.getElem?_replicate]
    split <;> simp_all
  rw [this]
  rfl
end Go.Proofs.Ytjjanogfcfapcaa.W
