/- Slots of things of any kind, in plain mathematics: what each deed makes of them, the way of the hand, and the queue of the slots that are used. -/
import Derived.Test.YtjjanogfcfapcaaRows
namespace Go.Proofs.Ytjjanogfcfapcaa
set_option linter.unusedVariables false

/-- A slot. -/
structure Ce (α : Type) where
  x : α
  u : Bool
  t : Bool
/-- All slots, and the hand. -/
structure Ms (α : Type) where
  c : List (Ce α)
  h : Nat
structure Ms.Ok {α : Type} (M : Ms α) : Prop where
  n1 : 1 ≤ M.c.length
  n64 : M.c.length ≤ 64
  hn : M.h < M.c.length
section
variable {α : Type}
def upd (M : Ms α) (i : Int) (e : Ce α) : Ms α := ⟨M.c.set i.toNat e, M.h⟩
def firstC (c : List (Ce α)) : Option Nat := c.findIdx? fun e => !e.u
def putM (M : Ms α) (x : α) : Ms α × Int × Int :=
  match firstC M.c with
  | some i => (⟨M.c.set i ⟨x, true, false⟩, M.h⟩, i, 0)
  | none => (M, 0, 5)
theorem upd_ok {M : Ms α} (h : M.Ok) (i : Int) (e : Ce α) : (upd M i e).Ok := ⟨by simpa [upd] using h.n1, by simpa [upd] using h.n64, by simpa [upd] using h.hn⟩
theorem putM_ok {M : Ms α} (h : M.Ok) (x : α) : (putM M x).1.Ok := by
  unfold putM
  split
  · exact ⟨by simpa using h.n1, by simpa using h.n64, by simpa using h.hn⟩
  · exact h
theorem putM_len (M : Ms α) (x : α) : (putM M x).1.c.length = M.c.length := by unfold putM; split <;> simp
end
variable {α : Type} [Inhabited α]
def Z0 : Ce α := ⟨default, false, false⟩
def us (c : List (Ce α)) (j : Nat) : Bool := (c.getD j Z0).u
def ts (c : List (Ce α)) (j : Nat) : Bool := (c.getD j Z0).t
/-- Which have something. -/
def allC (c : List (Ce α)) (k : Nat) : List Nat := (List.range k).filter (us c)
def allM (M : Ms α) : List Nat := allC M.c M.c.length
def hasM (M : Ms α) (i : Int) : Bool := decide (0 ≤ i ∧ i < M.c.length) && us M.c i.toNat
def atM (M : Ms α) (i : Int) : Ce α := M.c.getD i.toNat Z0
def getM (M : Ms α) (i : Int) : α × Bool := if hasM M i then ((atM M i).x, true) else (default, false)
def setM (M : Ms α) (i : Int) (x : α) : Ms α := if hasM M i then upd M i ⟨x, true, (atM M i).t⟩ else M
def touM (M : Ms α) (i : Int) : Ms α := if hasM M i then upd M i ⟨(atM M i).x, true, true⟩ else M
def freM (M : Ms α) (i : Int) : Ms α := if hasM M i then upd M i Z0 else M
def nx (M : Ms α) : Nat := (M.h + 1) % M.c.length
def clrC (e : Ce α) : Ce α := if e.u then ⟨e.x, true, false⟩ else e
def stepM (M : Ms α) : Ms α := ⟨M.c.set M.h (clrC (M.c.getD M.h Z0)), nx M⟩
def vicF : Nat → Ms α → Ms α × Option Nat
  | 0, M => (M, none)
  | f + 1, M => if us M.c M.h && !ts M.c M.h then (⟨M.c, nx M⟩, some M.h) else vicF f (stepM M)
def vicM (M : Ms α) : Ms α × Option Nat := vicF (2 * M.c.length) M
def vicI (M : Ms α) : Int := match (vicM M).2 with | some i => i | none => 0
def vicB (M : Ms α) : Bool := (vicM M).2.isSome
def newM (n : Nat) : Ms α := ⟨List.replicate n Z0, 0⟩

theorem newM_ok (α : Type) [Inhabited α] {n : Nat} (h1 : 1 ≤ n) (h2 : n ≤ 64) : (newM n : Ms α).Ok := ⟨by simpa [newM] using h1, by simpa [newM] using h2, by simp [newM]; omega⟩
theorem getD_set (c : List (Ce α)) (i j : Nat) (e : Ce α) (hi : i < c.length) : (c.set i e).getD j Z0 = if i = j then e else c.getD j Z0 := by
  simp only [List.getD_eq_getElem?_getD, List.getElem?_set]
  split
  · subst_vars; simp
  · rfl
theorem set_self (c : List (Ce α)) (i : Nat) : c.set i (c.getD i Z0) = c := by
  apply List.ext_getElem?
  intro j
  rw [List.getElem?_set]
  split
  · subst_vars
    split
    · simp [*]
    · simp; omega
  · rfl
theorem has_of {M : Ms α} {i : Int} (h : hasM M i = true) : ∃ k : Nat, i = k ∧ k < M.c.length ∧ us M.c k = true := by
  unfold hasM at h
  simp only [Bool.and_eq_true, decide_eq_true_eq] at h
  exact ⟨i.toNat, by omega, by omega, h.2⟩
theorem has_nat {M : Ms α} {k : Nat} (h : k < M.c.length) : hasM M k = us M.c k := by
  unfold hasM
  rw [decide_eq_true (by omega)]
  simp
theorem stepM_len (M : Ms α) : (stepM M).c.length = M.c.length := by simp [stepM]
theorem stepM_ok {M : Ms α} (h : M.Ok) : (stepM M).Ok := ⟨by rw [stepM_len]; exact h.n1, by rw [stepM_len]; exact h.n64, by rw [stepM_len]; exact Nat.mod_lt _ (by have := h.n1; omega)⟩
theorem us_step {M : Ms α} (h : M.h < M.c.length) (j : Nat) : us (stepM M).c j = us M.c j := by
  unfold us stepM
  rw [getD_set _ _ _ _ h]
  split
  · subst_vars
    unfold clrC
    split
    · rename_i h1; exact h1.symm
    · rfl
  · rfl
theorem ts_step {M : Ms α} (h : M.h < M.c.length) (j : Nat) : ts (stepM M).c j = true → ts M.c j = true := by
  unfold ts stepM
  rw [getD_set _ _ _ _ h]
  split
  · subst_vars
    unfold clrC
    split
    · simp
    · exact id
  · exact id
theorem xs_step {M : Ms α} (h : M.h < M.c.length) (j : Nat) : ((stepM M).c.getD j Z0).x = (M.c.getD j Z0).x := by
  unfold stepM
  rw [getD_set _ _ _ _ h]
  split
  · subst_vars
    unfold clrC
    split <;> rfl
  · rfl
theorem vicF_keeps : ∀ (f : Nat) (M : Ms α), M.Ok → (vicF f M).1.Ok ∧ (vicF f M).1.c.length = M.c.length ∧ (∀ j, us (vicF f M).1.c j = us M.c j) ∧ (∀ j, ts (vicF f M).1.c j = true → ts M.c j = true) ∧ ∀ j, ((vicF f M).1.c.getD j Z0).x = (M.c.getD j Z0).x
  | 0, M, h => ⟨h, rfl, fun _ => rfl, fun _ => id, fun _ => rfl⟩
  | f + 1, M, h => by
    unfold vicF
    split
    · exact ⟨⟨h.n1, h.n64, Nat.mod_lt _ (by have := h.n1; omega)⟩, rfl, fun _ => rfl, fun _ => id, fun _ => rfl⟩
    · obtain ⟨a, b, c, d, e⟩ := vicF_keeps f (stepM M) (stepM_ok h)
      exact ⟨a, b.trans (stepM_len M), fun j => (c j).trans (us_step h.hn j), fun j hj => ts_step h.hn j (d j hj), fun j => (e j).trans (xs_step h.hn j)⟩
theorem allC_congr {c c' : List (Ce α)} (h : ∀ j, us c' j = us c j) (k : Nat) : allC c' k = allC c k := by
  unfold allC
  rw [show us c' = us c from funext h]
theorem vicM_ok {M : Ms α} (h : M.Ok) : (vicM M).1.Ok := (vicF_keeps _ M h).1
theorem vicM_len {M : Ms α} (h : M.Ok) : (vicM M).1.c.length = M.c.length := (vicF_keeps _ M h).2.1
theorem vicM_us {M : Ms α} (h : M.Ok) (j : Nat) : us (vicM M).1.c j = us M.c j := (vicF_keeps _ M h).2.2.1 j
theorem vicM_ts {M : Ms α} (h : M.Ok) (j : Nat) (h2 : ts (vicM M).1.c j = true) : ts M.c j = true := (vicF_keeps _ M h).2.2.2.1 j h2
theorem vicM_xs {M : Ms α} (h : M.Ok) (j : Nat) : ((vicM M).1.c.getD j Z0).x = (M.c.getD j Z0).x := (vicF_keeps _ M h).2.2.2.2 j
theorem vicM_all {M : Ms α} (h : M.Ok) : allM (vicM M).1 = allM M := by
  unfold allM
  rw [vicM_len h]
  exact allC_congr (vicM_us h) _

/-- The queue of all slots, from the hand on. -/
structure Qe where
  i : Nat
  u : Bool
  t : Bool
def clrQ (e : Qe) : Qe := if e.u then ⟨e.i, true, false⟩ else e
def vicQ : Nat → List Qe → List Qe × Option Nat
  | 0, q => (q, none)
  | _ + 1, [] => ([], none)
  | f + 1, e :: q => if e.u && !e.t then (q ++ [e], some e.i) else vicQ f (q ++ [clrQ e])
theorem vicQ_cons (f : Nat) (e : Qe) (q : List Qe) : vicQ (f + 1) (e :: q) = if e.u && !e.t then (q ++ [e], some e.i) else vicQ f (q ++ [clrQ e]) := rfl
def toQ (c : List (Ce α)) : List Qe := (List.range c.length).map fun i => ⟨i, us c i, ts c i⟩
def rotQ (M : Ms α) : List Qe := (toQ M.c).drop M.h ++ (toQ M.c).take M.h
theorem toQ_len (c : List (Ce α)) : (toQ c).length = c.length := by simp [toQ]
theorem toQ_at (c : List (Ce α)) (i : Nat) (h : i < c.length) : (toQ c)[i]'(by rw [toQ_len]; exact h) = ⟨i, us c i, ts c i⟩ := by simp [toQ]
theorem toQ_set (c : List (Ce α)) (i : Nat) (e : Ce α) (h : i < c.length) : toQ (c.set i e) = (toQ c).set i ⟨i, e.u, e.t⟩ := by
  apply List.ext_getElem
  · simp [toQ]
  intro j h1 h2
  rw [toQ_len, List.length_set] at h1
  rw [toQ_at _ _ (by simpa using h1), List.getElem_set]
  unfold us ts
  rw [getD_set _ _ _ _ h]
  split
  · subst_vars; rfl
  · rw [toQ_at _ _ h1]; rfl
theorem rot_head {M : Ms α} (h : M.h < M.c.length) : rotQ M = ⟨M.h, us M.c M.h, ts M.c M.h⟩ :: ((toQ M.c).drop (M.h + 1) ++ (toQ M.c).take M.h) := by
  unfold rotQ
  rw [List.drop_eq_getElem_cons (by rw [toQ_len]; exact h), toQ_at _ _ h]
  rfl
theorem rot_turn {c : List (Ce α)} {k : Nat} (h : k < c.length) (e : Ce α) : rotQ ⟨c.set k e, (k + 1) % c.length⟩ = (toQ c).drop (k + 1) ++ (toQ c).take k ++ [⟨k, e.u, e.t⟩] := by
  unfold rotQ
  simp only
  rw [toQ_set c k e h]
  by_cases h1 : k + 1 < c.length
  · rw [Nat.mod_eq_of_lt h1, List.drop_set_of_lt (by omega), List.take_add_one, List.getElem?_set_self (by rw [toQ_len]; exact h), List.take_set_of_le (by omega)]
    simp
  · have h2 : k + 1 = c.length := by omega
    rw [h2, Nat.mod_self, List.drop_zero, List.take_zero, List.append_nil, List.drop_of_length_le (by rw [toQ_len]; omega), List.nil_append]
    have h3 : (toQ c).set k ⟨k, e.u, e.t⟩ = ((toQ c).set k ⟨k, e.u, e.t⟩).take (k + 1) := by rw [List.take_of_length_le (by rw [List.length_set, toQ_len]; omega)]
    rw [h3, List.take_add_one, List.getElem?_set_self (by rw [toQ_len]; exact h), List.take_set_of_le (by omega)]
    simp
theorem rot_step {M : Ms α} (h : M.h < M.c.length) : rotQ (stepM M) = (toQ M.c).drop (M.h + 1) ++ (toQ M.c).take M.h ++ [clrQ ⟨M.h, us M.c M.h, ts M.c M.h⟩] := by
  unfold stepM nx
  rw [rot_turn h]
  congr 2
  unfold clrC clrQ us ts
  split <;> rfl
theorem rot_vic {M : Ms α} (h : M.h < M.c.length) : rotQ ⟨M.c, nx M⟩ = (toQ M.c).drop (M.h + 1) ++ (toQ M.c).take M.h ++ [⟨M.h, us M.c M.h, ts M.c M.h⟩] := by
  have := rot_turn h (M.c.getD M.h Z0)
  rw [set_self] at this
  exact this
theorem vic_rot : ∀ (f : Nat) (M : Ms α), M.Ok → vicQ f (rotQ M) = (rotQ (vicF f M).1, (vicF f M).2)
  | 0, M, h => rfl
  | f + 1, M, h => by
    rw [rot_head h.hn]
    unfold vicQ vicF
    simp only
    split
    · rw [rot_vic h.hn]
    · rw [← rot_step h.hn]
      exact vic_rot f _ (stepM_ok h)
def Quiet (q : List Qe) : Prop := ∀ e ∈ q, e.u = true → e.t = false
def fQ (q : List Qe) : List Nat := (q.filter (·.u)).map (·.i)
theorem fQ_append (a b : List Qe) : fQ (a ++ b) = fQ a ++ fQ b := by simp [fQ]
theorem clrQ_u (e : Qe) : (clrQ e).u = e.u := by unfold clrQ; split <;> simp [*]
theorem clrQ_i (e : Qe) : (clrQ e).i = e.i := by unfold clrQ; split <;> simp [*]
theorem clrQ_quiet (e : Qe) : (clrQ e).u = true → (clrQ e).t = false := by
  unfold clrQ
  split
  · exact fun _ => rfl
  · intro h; contradiction
theorem Quiet.snoc {q : List Qe} (h : Quiet q) {e : Qe} (he : e.u = true → e.t = false) : Quiet (q ++ [e]) := fun a ha => by
  rcases List.mem_append.1 ha with ha | ha
  · exact h a ha
  · rw [List.mem_singleton] at ha; subst ha; exact he
theorem quiet_vic : ∀ (f : Nat) (q : List Qe), Quiet q → Quiet (vicQ f q).1
  | 0, q, h => h
  | f + 1, [], h => h
  | f + 1, e :: q, h => by
    have hq : Quiet q := fun a ha => h a (List.mem_cons_of_mem _ ha)
    unfold vicQ
    split
    · exact hq.snoc (h e (List.mem_cons_self ..))
    · exact quiet_vic f _ (hq.snoc (clrQ_quiet e))
theorem phase1 : ∀ (f : Nat) (A B : List Qe) (k v : Nat), Quiet B → (fQ A).length ≤ k + 1 → (vicQ f (A ++ B)).2 = some v → ∃ A' B', (vicQ f (A ++ B)).1 = A' ++ B' ∧ Quiet B' ∧ (fQ A').length ≤ k
  | f, [], B, k, v, hB, _, _ => ⟨[], _, rfl, quiet_vic f _ hB, Nat.zero_le _⟩
  | 0, A, B, k, v, _, _, hv => by simp [vicQ] at hv
  | f + 1, e :: A, B, k, v, hB, hk, hv => by
    rw [List.cons_append] at hv ⊢
    rw [vicQ_cons] at hv ⊢
    split at hv
    · rename_i h
      rw [if_pos h]
      simp only [Bool.and_eq_true, Bool.not_eq_true'] at h
      refine ⟨A, B ++ [e], by simp, hB.snoc (fun _ => h.2), ?_⟩
      simp [fQ, h.1] at hk ⊢
      omega
    · rename_i h
      rw [if_neg h, List.append_assoc]
      rw [List.append_assoc] at hv
      refine phase1 f A _ k v (hB.snoc (clrQ_quiet e)) ?_ hv
      refine Nat.le_trans ?_ hk
      simp only [fQ, List.filter_cons]
      split <;> simp
theorem phase2 : ∀ (f : Nat) (q : List Qe) (x v : Nat) (T : List Nat), Quiet q → fQ q = x :: T → (vicQ f q).2 = some v → v = x ∧ fQ (vicQ f q).1 = T ++ [x]
  | 0, q, x, v, T, _, _, hv => by simp [vicQ] at hv
  | f + 1, [], x, v, T, _, hF, _ => by simp [fQ] at hF
  | f + 1, e :: q, x, v, T, h, hF, hv => by
    have hq : Quiet q := fun a ha => h a (List.mem_cons_of_mem _ ha)
    rw [vicQ_cons] at hv ⊢
    cases hu : e.u with
    | true =>
      have ht := h e (List.mem_cons_self ..) hu
      rw [hu, ht] at hv
      simp only [Bool.not_false, Bool.and_self, if_true, Option.some.injEq] at hv ⊢
      simp only [fQ, List.filter_cons, hu, if_true, List.map_cons, List.cons.injEq] at hF
      rw [ht]
      simp only [Bool.not_false, Bool.and_self, if_true]
      refine ⟨by rw [← hv, hF.1], ?_⟩
      rw [fQ_append, show fQ q = T from hF.2]
      simp [fQ, hu, hF.1]
    | false =>
      rw [hu] at hv
      simp only [Bool.false_and, Bool.false_eq_true, if_false] at hv ⊢
      refine phase2 f _ x v T (hq.snoc (clrQ_quiet e)) ?_ hv
      have hc := clrQ_u e
      rw [hu] at hc
      rw [fQ_append]
      simp only [fQ, List.filter_cons, hu, hc, List.filter_nil, List.map_nil, List.append_nil, Bool.false_eq_true, if_false] at hF ⊢
      exact hF
theorem phase3 : ∀ (A : List Qe) (f : Nat) (e : Qe) (B : List Qe), e.u = true → e.t = false → A.length < f → ∃ e' ∈ A ++ [e], e'.u = true ∧ e'.t = false ∧ (vicQ f (A ++ e :: B)).2 = some e'.i
  | [], f + 1, e, B, hu, ht, _ => ⟨e, by simp, hu, ht, by simp [vicQ, hu, ht]⟩
  | [], 0, e, B, _, _, hf => absurd hf (by simp)
  | a :: A, 0, e, B, _, _, hf => absurd hf (by simp)
  | a :: A, f + 1, e, B, hu, ht, hf => by
    rw [List.cons_append, List.cons_append, vicQ_cons]
    split
    · rename_i h
      simp only [Bool.and_eq_true, Bool.not_eq_true'] at h
      exact ⟨a, by simp, h.1, h.2, rfl⟩
    · rw [List.append_assoc, List.cons_append]
      obtain ⟨e', h1, h2⟩ := phase3 A f e (B ++ [clrQ a]) hu ht (by simpa using hf)
      exact ⟨e', List.mem_cons_of_mem _ h1, h2⟩
theorem phase4 : ∀ (A : List Qe) (f : Nat) (e : Qe) (B : List Qe), e.u = true → A.length + A.length + B.length + 1 < f → ∃ v, (vicQ f (A ++ e :: B)).2 = some v
  | [], f + 1, e, B, hu, hf => by
    rw [List.nil_append]
    rw [vicQ_cons]
    split
    · exact ⟨_, rfl⟩
    · obtain ⟨e', _, _, _, h⟩ := phase3 B f (clrQ e) [] (by rw [clrQ_u]; exact hu) (clrQ_quiet e (by rw [clrQ_u]; exact hu)) (by simp at hf; omega)
      exact ⟨_, h⟩
  | [], 0, e, B, _, hf => absurd hf (by simp)
  | a :: A, 0, e, B, _, hf => absurd hf (by simp)
  | a :: A, f + 1, e, B, hu, hf => by
    rw [List.cons_append]
    rw [vicQ_cons]
    split
    · exact ⟨_, rfl⟩
    · rw [List.append_assoc, List.cons_append]
      exact phase4 A f e (B ++ [clrQ a]) hu (by simp at hf ⊢; omega)
theorem fQ_toQ (c : List (Ce α)) : fQ (toQ c) = allC c c.length := by
  unfold fQ toQ allC
  rw [List.filter_map, List.map_map]
  have : (fun (x : Qe) => x.i) ∘ (fun i => (⟨i, us c i, ts c i⟩ : Qe)) = id := rfl
  rw [this, List.map_id]
  rfl
/-- The queue has what 'allM' has, turned. -/
theorem fQ_rot (M : Ms α) : ∃ A B, allM M = A ++ B ∧ fQ (rotQ M) = B ++ A := by
  refine ⟨fQ ((toQ M.c).take M.h), fQ ((toQ M.c).drop M.h), ?_, by unfold rotQ; rw [fQ_append]⟩
  rw [← fQ_append, List.take_append_drop, fQ_toQ]
  rfl
theorem mem_rot {M : Ms α} {e : Qe} (h : e ∈ rotQ M) : e.i < M.c.length ∧ e.u = us M.c e.i ∧ e.t = ts M.c e.i := by
  have : e ∈ toQ M.c := by
    unfold rotQ at h
    rcases List.mem_append.1 h with h | h
    · exact List.mem_of_mem_drop h
    · exact List.mem_of_mem_take h
  unfold toQ at this
  obtain ⟨i, hi, rfl⟩ := List.mem_map.1 this
  exact ⟨List.mem_range.1 hi, rfl, rfl⟩
theorem rot_mem {M : Ms α} {j : Nat} (h : j < M.c.length) : (⟨j, us M.c j, ts M.c j⟩ : Qe) ∈ rotQ M := by
  have h1 : (⟨j, us M.c j, ts M.c j⟩ : Qe) ∈ toQ M.c := List.mem_map.2 ⟨j, List.mem_range.2 h, rfl⟩
  unfold rotQ
  rw [← List.take_append_drop M.h (toQ M.c)] at h1
  rcases List.mem_append.1 h1 with h | h
  · exact List.mem_append_right _ h
  · exact List.mem_append_left _ h
theorem rot_len (M : Ms α) : (rotQ M).length = M.c.length := by
  unfold rotQ
  rw [List.length_append, Nat.add_comm, ← List.length_append, List.take_append_drop, toQ_len]
theorem all_mem {M : Ms α} {j : Nat} : j ∈ allM M ↔ j < M.c.length ∧ us M.c j = true := by
  unfold allM allC
  rw [List.mem_filter, List.mem_range]
theorem vicM_some {M : Ms α} (h : M.Ok) (hne : allM M ≠ []) : ∃ v, (vicM M).2 = some v := by
  obtain ⟨j, hj⟩ := List.exists_mem_of_ne_nil _ hne
  obtain ⟨h1, h2⟩ := all_mem.1 hj
  obtain ⟨A, B, hAB⟩ := List.append_of_mem (rot_mem h1)
  have hl := rot_len M
  rw [hAB, List.length_append, List.length_cons] at hl
  have h3 := vic_rot (2 * M.c.length) M h
  obtain ⟨v, hv⟩ := phase4 A (2 * M.c.length) ⟨j, us M.c j, ts M.c j⟩ B h2 (by omega)
  rw [hAB] at h3
  rw [h3] at hv
  exact ⟨v, hv⟩
/-- Who is told has something. -/
theorem vicF_mem : ∀ (f : Nat) (M : Ms α) (v : Nat), M.Ok → (vicF f M).2 = some v → v < M.c.length ∧ us M.c v = true
  | 0, M, v, _, hv => by simp [vicF] at hv
  | f + 1, M, v, h, hv => by
    unfold vicF at hv
    split at hv
    · rename_i h1
      simp only [Bool.and_eq_true] at h1
      simp only [Option.some.injEq] at hv
      subst hv
      exact ⟨h.hn, h1.1⟩
    · obtain ⟨h1, h2⟩ := vicF_mem f (stepM M) v (stepM_ok h) hv
      rw [stepM_len] at h1
      rw [us_step h.hn] at h2
      exact ⟨h1, h2⟩
theorem vicM_mem {M : Ms α} (h : M.Ok) {v : Nat} (hv : (vicM M).2 = some v) : v ∈ allM M := all_mem.2 (vicF_mem _ M v h hv)
theorem vicF_none : ∀ (f : Nat) (M : Ms α), M.Ok → allM M = [] → vicF f M = (⟨M.c, (M.h + f) % M.c.length⟩, none)
  | 0, M, h, _ => by unfold vicF; rw [Nat.add_zero, Nat.mod_eq_of_lt h.hn]
  | f + 1, M, h, h0 => by
    have hu : us M.c M.h = false := by
      cases e : us M.c M.h with
      | false => rfl
      | true =>
        have := all_mem.2 ⟨h.hn, e⟩
        rw [h0] at this
        cases this
    have hs : stepM M = ⟨M.c, nx M⟩ := by
      unfold stepM clrC
      rw [if_neg (by rw [show (M.c.getD M.h Z0).u = us M.c M.h from rfl, hu]; decide), set_self]
    have hOk := stepM_ok h
    rw [hs] at hOk
    unfold vicF
    rw [hu, if_neg (by simp), hs, vicF_none f _ hOk h0]
    simp only [nx]
    rw [Nat.mod_add_mod, Nat.add_assoc, Nat.add_comm 1 f]
theorem vicM_none {M : Ms α} (h : M.Ok) (h0 : allM M = []) : vicM M = (M, none) := by
  unfold vicM
  rw [vicF_none _ M h h0, show M.h + 2 * M.c.length = M.h + M.c.length + M.c.length by omega, Nat.add_mod_right, Nat.add_mod_right, Nat.mod_eq_of_lt h.hn]
theorem setM_ok {M : Ms α} (h : M.Ok) (i : Int) (x : α) : (setM M i x).Ok := by unfold setM; split; exact upd_ok h _ _; exact h
theorem touM_ok {M : Ms α} (h : M.Ok) (i : Int) : (touM M i).Ok := by unfold touM; split; exact upd_ok h _ _; exact h
theorem freM_ok {M : Ms α} (h : M.Ok) (i : Int) : (freM M i).Ok := by unfold freM; split; exact upd_ok h _ _; exact h
theorem setM_len (M : Ms α) (i : Int) (x : α) : (setM M i x).c.length = M.c.length := by unfold setM; split <;> simp [upd]
theorem touM_len (M : Ms α) (i : Int) : (touM M i).c.length = M.c.length := by unfold touM; split <;> simp [upd]
theorem freM_len (M : Ms α) (i : Int) : (freM M i).c.length = M.c.length := by unfold freM; split <;> simp [upd]
end Go.Proofs.Ytjjanogfcfapcaa
