/- A shard, in plain mathematics: entries in slots, their times, and what each deed makes of them. -/
import Derived.Test.YtjjanogfcfapcaaVma
import Derived.Test.YtjjanogfcfapcaaSha
import Derived.Test.YtjjanogfcfapcaaVsl
namespace Go.Proofs.Ytjjanogfcfapcaa
set_option linter.unusedVariables false

instance : Inhabited Qu := ⟨⟨⟨#[]⟩, 0, 0⟩⟩
instance : DecidableEq Qu := fun a b => if h : a.n = b.n ∧ a.k = b.k ∧ a.c = b.c then .isTrue (by
    obtain ⟨an, ak, ac⟩ := a
    obtain ⟨bn, bk, bc⟩ := b
    obtain ⟨rfl, rfl, rfl⟩ := h
    rfl) else .isFalse (fun e => h (by subst e; exact ⟨rfl, rfl, rfl⟩))
/-- An entry: its question, its records, its code, its rank, and when it ends. -/
structure En where
  q : Qu
  l : List Rc
  rc : Int
  rk : Int
  ex : Nat
instance : Inhabited En := ⟨⟨default, [], 0, 0, 0⟩⟩
/-- An entry, and where its records lie. -/
structure Ev where
  e : En
  A : Option Addr
  cap : Nat
instance : Inhabited Ev := ⟨⟨default, none, 0⟩⟩
def Ce.map {α β : Type} (f : α → β) (e : Ce α) : Ce β := ⟨f e.x, e.u, e.t⟩
def Ms.map {α β : Type} (f : α → β) (M : Ms α) : Ms β := ⟨M.c.map (Ce.map f), M.h⟩
/-- What is told of slots. -/
def pure (M : Ms Ev) : Ms En := M.map Ev.e
def pc (c : List (Ce Ev)) : List (Ce En) := c.map (Ce.map Ev.e)
theorem pure_c (M : Ms Ev) : (pure M).c = pc M.c := rfl
theorem pc_len (c : List (Ce Ev)) : (pc c).length = c.length := by simp [pc]
theorem pc_set (c : List (Ce Ev)) (k : Nat) (e : Ce Ev) : pc (c.set k e) = (pc c).set k (e.map Ev.e) := by simp [pc, List.map_set]
theorem Z0_map : (Z0 : Ce Ev).map Ev.e = Z0 := rfl
theorem pc_getD (c : List (Ce Ev)) (j : Nat) : (pc c).getD j Z0 = (c.getD j Z0).map Ev.e := by
  unfold pc
  rw [← Z0_map]
  simp only [List.getD_eq_getElem?_getD, List.getElem?_map]
  cases c[j]? <;> rfl
theorem us_pc (c : List (Ce Ev)) (j : Nat) : us (pc c) j = us c j := by unfold us; rw [pc_getD]; rfl
theorem ts_pc (c : List (Ce Ev)) (j : Nat) : ts (pc c) j = ts c j := by unfold ts; rw [pc_getD]; rfl
theorem pure_ok {M : Ms Ev} (h : M.Ok) : (pure M).Ok := ⟨by rw [pure_c, pc_len]; exact h.n1, by rw [pure_c, pc_len]; exact h.n64, by rw [pure_c, pc_len]; exact h.hn⟩
theorem ok_pure {M : Ms Ev} (h : (pure M).Ok) : M.Ok := ⟨by have := h.n1; rwa [pure_c, pc_len] at this, by have := h.n64; rwa [pure_c, pc_len] at this, by have := h.hn; rwa [pure_c, pc_len] at this⟩
theorem clrC_map (e : Ce Ev) : (clrC e).map Ev.e = clrC (e.map Ev.e) := by unfold clrC Ce.map; split <;> rfl
theorem stepM_pure (M : Ms Ev) : pure (stepM M) = stepM (pure M) := by
  show (⟨pc (M.c.set M.h (clrC (M.c.getD M.h Z0))), (M.h + 1) % M.c.length⟩ : Ms En) = ⟨(pc M.c).set M.h (clrC ((pc M.c).getD M.h Z0)), (M.h + 1) % (pc M.c).length⟩
  rw [pc_set, pc_len, pc_getD, clrC_map]
theorem vicF_pure : ∀ (f : Nat) (M : Ms Ev), vicF f (pure M) = (pure (vicF f M).1, (vicF f M).2)
  | 0, M => rfl
  | f + 1, M => by
    unfold vicF
    rw [pure_c, us_pc, ts_pc]
    show (if us M.c M.h && !ts M.c M.h then ((⟨pc M.c, nx (pure M)⟩ : Ms En), some M.h) else vicF f (stepM (pure M))) = _
    split
    · show ((⟨pc M.c, (M.h + 1) % (pc M.c).length⟩ : Ms En), some M.h) = (⟨pc M.c, (M.h + 1) % M.c.length⟩, some M.h)
      rw [pc_len]
    · rw [← stepM_pure, vicF_pure f (stepM M)]
theorem vicM_pure (M : Ms Ev) : vicM (pure M) = (pure (vicM M).1, (vicM M).2) := by unfold vicM; rw [pure_c, pc_len, vicF_pure]
theorem firstC_pc (c : List (Ce Ev)) : firstC (pc c) = firstC c := by
  unfold firstC pc
  rw [List.findIdx?_map]
  rfl
theorem newM_pure (n : Nat) : pure (newM n) = newM n := by
  show (⟨(List.replicate n Z0).map (Ce.map Ev.e), 0⟩ : Ms En) = ⟨List.replicate n Z0, 0⟩
  rw [List.map_replicate, Z0_map]

/-- The slot of a question. -/
def slotOf (c : List (Ce En)) (q : Qu) : Option Nat := c.findIdx? fun e => e.u && decide (e.x.q = q)
def qAt (c : List (Ce En)) (k : Nat) : Qu := (c.getD k Z0).x.q
/-- The questions there are, in the order of their slots. -/
def keysOf (c : List (Ce En)) : List Qu := (c.filter (·.u)).map (·.x.q)
/-- No question has two slots. -/
def Uq (c : List (Ce En)) : Prop := ∀ i j, i < c.length → j < c.length → us c i = true → us c j = true → qAt c i = qAt c j → i = j
theorem slot_some {c : List (Ce En)} (h : Uq c) {q : Qu} {k : Nat} : slotOf c q = some k ↔ k < c.length ∧ us c k = true ∧ qAt c k = q := by
  unfold slotOf
  rw [List.findIdx?_eq_some_iff_getElem]
  have at_ : ∀ j (hj : j < c.length), c.getD j Z0 = c[j] := fun j hj => by simp [hj]
  constructor
  · rintro ⟨hk, h1, _⟩
    simp only [Bool.and_eq_true, decide_eq_true_eq] at h1
    exact ⟨hk, by unfold us; rw [at_ k hk]; exact h1.1, by unfold qAt; rw [at_ k hk]; exact h1.2⟩
  · rintro ⟨hk, h1, h2⟩
    refine ⟨hk, ?_, fun j hj => ?_⟩
    · unfold us at h1
      unfold qAt at h2
      rw [at_ k hk] at h1 h2
      simp [h1, h2]
    · have hjc : j < c.length := by omega
      intro hc
      simp only [Bool.and_eq_true, decide_eq_true_eq] at hc
      have := h j k hjc hk (by unfold us; rw [at_ j hjc]; exact hc.1) h1 (by unfold qAt at h2 ⊢; rw [at_ j hjc, h2]; exact hc.2)
      omega
theorem slot_none {c : List (Ce En)} {q : Qu} : slotOf c q = none ↔ ∀ k, k < c.length → us c k = true → qAt c k ≠ q := by
  unfold slotOf
  rw [List.findIdx?_eq_none_iff]
  constructor
  · intro h k hk hu hq
    have := h c[k] (List.getElem_mem hk)
    unfold us at hu
    unfold qAt at hq
    rw [show c.getD k Z0 = c[k] by simp [hk]] at hu hq
    simp [hu, hq] at this
  · intro h x hx
    obtain ⟨k, hk, rfl⟩ := List.getElem_of_mem hx
    have := h k hk
    unfold us qAt at this
    rw [show c.getD k Z0 = c[k] by simp [hk]] at this
    cases hu : c[k].u with
    | false => rfl
    | true => simp [this hu]
theorem us_set {c : List (Ce En)} {k : Nat} (hk : k < c.length) (e : Ce En) (j : Nat) : us (c.set k e) j = if k = j then e.u else us c j := by
  unfold us; rw [getD_set _ _ _ _ hk]; split <;> rfl
theorem ts_set {c : List (Ce En)} {k : Nat} (hk : k < c.length) (e : Ce En) (j : Nat) : ts (c.set k e) j = if k = j then e.t else ts c j := by
  unfold ts; rw [getD_set _ _ _ _ hk]; split <;> rfl
theorem qAt_set {c : List (Ce En)} {k : Nat} (hk : k < c.length) (e : Ce En) (j : Nat) : qAt (c.set k e) j = if k = j then e.x.q else qAt c j := by
  unfold qAt; rw [getD_set _ _ _ _ hk]; split <;> rfl
theorem Uq.free {c : List (Ce En)} (h : Uq c) {k : Nat} (hk : k < c.length) {e : Ce En} (he : e.u = false) : Uq (c.set k e) := by
  intro i j hi hj ui uj hq
  rw [List.length_set] at hi hj
  rw [us_set hk] at ui uj
  rw [qAt_set hk, qAt_set hk] at hq
  by_cases e1 : k = i
  · rw [if_pos e1, he] at ui; cases ui
  · by_cases e2 : k = j
    · rw [if_pos e2, he] at uj; cases uj
    · rw [if_neg e1] at ui hq
      rw [if_neg e2] at uj hq
      exact h i j hi hj ui uj hq
/-- An entry of a question that is nowhere else. -/
theorem Uq.put {c : List (Ce En)} (h : Uq c) {k : Nat} (hk : k < c.length) {e : Ce En} (hn : ∀ j, j < c.length → us c j = true → qAt c j = e.x.q → j = k) : Uq (c.set k e) := by
  intro i j hi hj ui uj hq
  rw [List.length_set] at hi hj
  rw [us_set hk] at ui uj
  rw [qAt_set hk, qAt_set hk] at hq
  by_cases e1 : k = i
  · rw [if_pos e1] at hq
    by_cases e2 : k = j
    · omega
    · rw [if_neg e2] at uj hq
      have := hn j hj uj hq.symm
      omega
  · rw [if_neg e1] at ui hq
    by_cases e2 : k = j
    · rw [if_pos e2] at hq
      have := hn i hi ui hq
      omega
    · rw [if_neg e2] at uj hq
      exact h i j hi hj ui uj hq
theorem slot_free {c : List (Ce En)} (h : Uq c) {k : Nat} (hk : k < c.length) (hu : us c k = true) {e : Ce En} (he : e.u = false) (q : Qu) : slotOf (c.set k e) q = if q = qAt c k then none else slotOf c q := by
  have h2 := h.free hk he
  by_cases e0 : q = qAt c k
  · rw [if_pos e0]
    rw [slot_none]
    intro j hj uj hq
    rw [List.length_set] at hj
    rw [us_set hk] at uj
    rw [qAt_set hk] at hq
    by_cases e1 : k = j
    · rw [if_pos e1, he] at uj; cases uj
    · rw [if_neg e1] at uj hq
      exact e1 (h k j hk hj hu uj (by rw [hq, e0]))
  · rw [if_neg e0]
    cases hs : slotOf c q with
    | none =>
      rw [slot_none] at hs ⊢
      intro j hj uj
      rw [List.length_set] at hj
      rw [us_set hk] at uj
      rw [qAt_set hk]
      by_cases e1 : k = j
      · rw [if_pos e1, he] at uj; cases uj
      · rw [if_neg e1] at uj ⊢
        exact hs j hj uj
    | some j =>
      rw [slot_some h] at hs
      rw [slot_some h2]
      have e1 : k ≠ j := fun e => e0 (by rw [e]; exact hs.2.2.symm)
      rw [List.length_set, us_set hk, qAt_set hk, if_neg e1, if_neg e1]
      exact hs
/-- An entry comes to a slot that is free, or that has its question's. -/
theorem slot_put {c : List (Ce En)} (h : Uq c) {k : Nat} (hk : k < c.length) {e : Ce En} (he : e.u = true) (hn : ∀ j, j < c.length → us c j = true → qAt c j = e.x.q → j = k) (ho : us c k = true → qAt c k = e.x.q) (q : Qu) : slotOf (c.set k e) q = if q = e.x.q then some k else slotOf c q := by
  have h2 := h.put hk hn
  by_cases e0 : q = e.x.q
  · rw [if_pos e0, slot_some h2]
    rw [List.length_set, us_set hk, qAt_set hk, if_pos rfl, if_pos rfl]
    exact ⟨hk, he, e0.symm⟩
  · rw [if_neg e0]
    cases hs : slotOf c q with
    | none =>
      rw [slot_none] at hs ⊢
      intro j hj uj
      rw [List.length_set] at hj
      rw [us_set hk] at uj
      rw [qAt_set hk]
      by_cases e1 : k = j
      · rw [if_pos e1]; exact fun e2 => e0 e2.symm
      · rw [if_neg e1] at uj ⊢
        exact hs j hj uj
    | some j =>
      rw [slot_some h] at hs
      rw [slot_some h2]
      have e1 : k ≠ j := fun e => by
        subst e
        exact e0 (by rw [← hs.2.2]; exact ho hs.2.1)
      rw [List.length_set, us_set hk, qAt_set hk, if_neg e1, if_neg e1]
      exact hs
theorem slot_same {c : List (Ce En)} {k : Nat} (hk : k < c.length) {e : Ce En} (he : e.u = us c k) (hq : e.x.q = qAt c k) (q : Qu) : slotOf (c.set k e) q = slotOf c q := by
  unfold slotOf
  have e0 : ∀ (l : List (Ce En)) (p : Ce En → Bool) (k : Nat) (hk : k < l.length), p e = p l[k] → (l.set k e).findIdx? p = l.findIdx? p := by
    intro l p
    induction l with
    | nil => intro k hk; cases hk
    | cons a l ih =>
      intro k hk hp
      cases k with
      | zero =>
        simp only [List.getElem_cons_zero] at hp
        simp only [List.set_cons_zero, List.findIdx?_cons, hp]
      | succ k =>
        simp only [List.getElem_cons_succ] at hp
        simp only [List.set_cons_succ, List.findIdx?_cons, ih k (by simpa using hk) hp]
  refine e0 c _ k hk ?_
  have h1 : c.getD k Z0 = c[k] := by simp [hk]
  unfold us at he
  unfold qAt at hq
  rw [h1] at he hq
  simp only [he, hq]
end Go.Proofs.Ytjjanogfcfapcaa
