/- Joined texts: Vma Vsl Vmb Vmc Vsb Vsc Vsd Vse Vmp. -/
import Derived.Test.YtjjanogfcfapcaaRows
import Derived.WalkKit
import Derived.WalkSpells
import Derived.WalkLawsBesides
import Derived.Lib.Hide
import Derived.Deep.QuietTactic
import Derived.BigQuiet
import Derived.Laws.IdiomStrings
import Derived.Deep.Draws
import Derived.OpenShut
import Derived.Lib.AppendZeros
import Derived.Laws.AppendOwnNone
import Derived.Lib.SliceRun
import Derived.Lib.Walk
import Derived.Deep.RegionLaw
import Derived.Deep.RegionWith
import Derived.Laws.OwnMore
import Derived.Laws.ResultCell
import Derived.RegionTactic
import Derived.Deep.DeepCutAuto
import Derived.Below
import Derived.Laws.Rows
import Derived.Test.YtjjanogfcfapcaaBwa
import Derived.Deep.MidRow
import Derived.StillTailTactics
import Derived.Laws.Tables
import Derived.Deep.LoopGhost
import Derived.DeepKeys4
import Derived.Maps.OwnSet
import Derived.Maps.RangeWalk

/- Slots of things of any kind, in plain mathematics: what each deed makes of them, the way of the hand, and the queue of the slots that are used. -/
namespace Go.Proofs.Ytjjanogfcfapcaa
set_option linter.unusedVariables false

/-- A slot. -/
structure Ce (α : Type) where
  x : α
  u : Bool
  t : Bool
/-- All slots, and the hand. -/
structure Ms (α : Type) where
  c : List (Ce α)
  h : Nat
structure Ms.Ok {α : Type} (M : Ms α) : Prop where
  n1 : 1 ≤ M.c.length
  n64 : M.c.length ≤ 64
  hn : M.h < M.c.length
section
variable {α : Type}
def upd (M : Ms α) (i : Int) (e : Ce α) : Ms α := ⟨M.c.set i.toNat e, M.h⟩
def firstC (c : List (Ce α)) : Option Nat := c.findIdx? fun e => !e.u
def putM (M : Ms α) (x : α) : Ms α × Int × Int :=
  match firstC M.c with
  | some i => (⟨M.c.set i ⟨x, true, false⟩, M.h⟩, i, 0)
  | none => (M, 0, 5)
theorem upd_ok {M : Ms α} (h : M.Ok) (i : Int) (e : Ce α) : (upd M i e).Ok := ⟨by simpa [upd] using h.n1, by simpa [upd] using h.n64, by simpa [upd] using h.hn⟩
theorem putM_ok {M : Ms α} (h : M.Ok) (x : α) : (putM M x).1.Ok := by
  unfold putM
  split
  · exact ⟨by simpa using h.n1, by simpa using h.n64, by simpa using h.hn⟩
  · exact h
theorem putM_len (M : Ms α) (x : α) : (putM M x).1.c.length = M.c.length := by unfold putM; split <;> simp
end
variable {α : Type} [Inhabited α]
def Z0 : Ce α := ⟨default, false, false⟩
def us (c : List (Ce α)) (j : Nat) : Bool := (c.getD j Z0).u
def ts (c : List (Ce α)) (j : Nat) : Bool := (c.getD j Z0).t
/-- Which have something. -/
def allC (c : List (Ce α)) (k : Nat) : List Nat := (List.range k).filter (us c)
def allM (M : Ms α) : List Nat := allC M.c M.c.length
def hasM (M : Ms α) (i : Int) : Bool := decide (0 ≤ i ∧ i < M.c.length) && us M.c i.toNat
def atM (M : Ms α) (i : Int) : Ce α := M.c.getD i.toNat Z0
def getM (M : Ms α) (i : Int) : α × Bool := if hasM M i then ((atM M i).x, true) else (default, false)
def setM (M : Ms α) (i : Int) (x : α) : Ms α := if hasM M i then upd M i ⟨x, true, (atM M i).t⟩ else M
def touM (M : Ms α) (i : Int) : Ms α := if hasM M i then upd M i ⟨(atM M i).x, true, true⟩ else M
def freM (M : Ms α) (i : Int) : Ms α := if hasM M i then upd M i Z0 else M
def nx (M : Ms α) : Nat := (M.h + 1) % M.c.length
def clrC (e : Ce α) : Ce α := if e.u then ⟨e.x, true, false⟩ else e
def stepM (M : Ms α) : Ms α := ⟨M.c.set M.h (clrC (M.c.getD M.h Z0)), nx M⟩
def vicF : Nat → Ms α → Ms α × Option Nat
  | 0, M => (M, none)
  | f + 1, M => if us M.c M.h && !ts M.c M.h then (⟨M.c, nx M⟩, some M.h) else vicF f (stepM M)
def vicM (M : Ms α) : Ms α × Option Nat := vicF (2 * M.c.length) M
def vicI (M : Ms α) : Int := match (vicM M).2 with | some i => i | none => 0
def vicB (M : Ms α) : Bool := (vicM M).2.isSome
def newM (n : Nat) : Ms α := ⟨List.replicate n Z0, 0⟩

theorem newM_ok (α : Type) [Inhabited α] {n : Nat} (h1 : 1 ≤ n) (h2 : n ≤ 64) : (newM n : Ms α).Ok := ⟨by simpa [newM] using h1, by simpa [newM] using h2, by simp [newM]; omega⟩
theorem getD_set (c : List (Ce α)) (i j : Nat) (e : Ce α) (hi : i < c.length) : (c.set i e).getD j Z0 = if i = j then e else c.getD j Z0 := by
  simp only [List.getD_eq_getElem?_getD, List.getElem?_set]
  split
  · subst_vars; simp
  · rfl
theorem set_self (c : List (Ce α)) (i : Nat) : c.set i (c.getD i Z0) = c := by
  apply List.ext_getElem?
  intro j
  rw [List.getElem?_set]
  split
  · subst_vars
    split
    · simp [*]
    · simp; omega
  · rfl
theorem has_of {M : Ms α} {i : Int} (h : hasM M i = true) : ∃ k : Nat, i = k ∧ k < M.c.length ∧ us M.c k = true := by
  unfold hasM at h
  simp only [Bool.and_eq_true, decide_eq_true_eq] at h
  exact ⟨i.toNat, by omega, by omega, h.2⟩
theorem has_nat {M : Ms α} {k : Nat} (h : k < M.c.length) : hasM M k = us M.c k := by
  unfold hasM
  rw [decide_eq_true (by omega)]
  simp
theorem stepM_len (M : Ms α) : (stepM M).c.length = M.c.length := by simp [stepM]
theorem stepM_ok {M : Ms α} (h : M.Ok) : (stepM M).Ok := ⟨by rw [stepM_len]; exact h.n1, by rw [stepM_len]; exact h.n64, by rw [stepM_len]; exact Nat.mod_lt _ (by have := h.n1; omega)⟩
theorem us_step {M : Ms α} (h : M.h < M.c.length) (j : Nat) : us (stepM M).c j = us M.c j := by
  unfold us stepM
  rw [getD_set _ _ _ _ h]
  split
  · subst_vars
    unfold clrC
    split
    · rename_i h1; exact h1.symm
    · rfl
  · rfl
theorem ts_step {M : Ms α} (h : M.h < M.c.length) (j : Nat) : ts (stepM M).c j = true → ts M.c j = true := by
  unfold ts stepM
  rw [getD_set _ _ _ _ h]
  split
  · subst_vars
    unfold clrC
    split
    · simp
    · exact id
  · exact id
theorem xs_step {M : Ms α} (h : M.h < M.c.length) (j : Nat) : ((stepM M).c.getD j Z0).x = (M.c.getD j Z0).x := by
  unfold stepM
  rw [getD_set _ _ _ _ h]
  split
  · subst_vars
    unfold clrC
    split <;> rfl
  · rfl
theorem vicF_keeps : ∀ (f : Nat) (M : Ms α), M.Ok → (vicF f M).1.Ok ∧ (vicF f M).1.c.length = M.c.length ∧ (∀ j, us (vicF f M).1.c j = us M.c j) ∧ (∀ j, ts (vicF f M).1.c j = true → ts M.c j = true) ∧ ∀ j, ((vicF f M).1.c.getD j Z0).x = (M.c.getD j Z0).x
  | 0, M, h => ⟨h, rfl, fun _ => rfl, fun _ => id, fun _ => rfl⟩
  | f + 1, M, h => by
    unfold vicF
    split
    · exact ⟨⟨h.n1, h.n64, Nat.mod_lt _ (by have := h.n1; omega)⟩, rfl, fun _ => rfl, fun _ => id, fun _ => rfl⟩
    · obtain ⟨a, b, c, d, e⟩ := vicF_keeps f (stepM M) (stepM_ok h)
      exact ⟨a, b.trans (stepM_len M), fun j => (c j).trans (us_step h.hn j), fun j hj => ts_step h.hn j (d j hj), fun j => (e j).trans (xs_step h.hn j)⟩
theorem allC_congr {c c' : List (Ce α)} (h : ∀ j, us c' j = us c j) (k : Nat) : allC c' k = allC c k := by
  unfold allC
  rw [show us c' = us c from funext h]
theorem vicM_ok {M : Ms α} (h : M.Ok) : (vicM M).1.Ok := (vicF_keeps _ M h).1
theorem vicM_len {M : Ms α} (h : M.Ok) : (vicM M).1.c.length = M.c.length := (vicF_keeps _ M h).2.1
theorem vicM_us {M : Ms α} (h : M.Ok) (j : Nat) : us (vicM M).1.c j = us M.c j := (vicF_keeps _ M h).2.2.1 j
theorem vicM_ts {M : Ms α} (h : M.Ok) (j : Nat) (h2 : ts (vicM M).1.c j = true) : ts M.c j = true := (vicF_keeps _ M h).2.2.2.1 j h2
theorem vicM_xs {M : Ms α} (h : M.Ok) (j : Nat) : ((vicM M).1.c.getD j Z0).x = (M.c.getD j Z0).x := (vicF_keeps _ M h).2.2.2.2 j
theorem vicM_all {M : Ms α} (h : M.Ok) : allM (vicM M).1 = allM M := by
  unfold allM
  rw [vicM_len h]
  exact allC_congr (vicM_us h) _

/-- The queue of all slots, from the hand on. -/
structure Qe where
  i : Nat
  u : Bool
  t : Bool
def clrQ (e : Qe) : Qe := if e.u then ⟨e.i, true, false⟩ else e
def vicQ : Nat → List Qe → List Qe × Option Nat
  | 0, q => (q, none)
  | _ + 1, [] => ([], none)
  | f + 1, e :: q => if e.u && !e.t then (q ++ [e], some e.i) else vicQ f (q ++ [clrQ e])
theorem vicQ_cons (f : Nat) (e : Qe) (q : List Qe) : vicQ (f + 1) (e :: q) = if e.u && !e.t then (q ++ [e], some e.i) else vicQ f (q ++ [clrQ e]) := rfl
def toQ (c : List (Ce α)) : List Qe := (List.range c.length).map fun i => ⟨i, us c i, ts c i⟩
def rotQ (M : Ms α) : List Qe := (toQ M.c).drop M.h ++ (toQ M.c).take M.h
theorem toQ_len (c : List (Ce α)) : (toQ c).length = c.length := by simp [toQ]
theorem toQ_at (c : List (Ce α)) (i : Nat) (h : i < c.length) : (toQ c)[i]'(by rw [toQ_len]; exact h) = ⟨i, us c i, ts c i⟩ := by simp [toQ]
theorem toQ_set (c : List (Ce α)) (i : Nat) (e : Ce α) (h : i < c.length) : toQ (c.set i e) = (toQ c).set i ⟨i, e.u, e.t⟩ := by
  apply List.ext_getElem
  · simp [toQ]
  intro j h1 h2
  rw [toQ_len, List.length_set] at h1
  rw [toQ_at _ _ (by simpa using h1), List.getElem_set]
  unfold us ts
  rw [getD_set _ _ _ _ h]
  split
  · subst_vars; rfl
  · rw [toQ_at _ _ h1]; rfl
theorem rot_head {M : Ms α} (h : M.h < M.c.length) : rotQ M = ⟨M.h, us M.c M.h, ts M.c M.h⟩ :: ((toQ M.c).drop (M.h + 1) ++ (toQ M.c).take M.h) := by
  unfold rotQ
  rw [List.drop_eq_getElem_cons (by rw [toQ_len]; exact h), toQ_at _ _ h]
  rfl
theorem rot_turn {c : List (Ce α)} {k : Nat} (h : k < c.length) (e : Ce α) : rotQ ⟨c.set k e, (k + 1) % c.length⟩ = (toQ c).drop (k + 1) ++ (toQ c).take k ++ [⟨k, e.u, e.t⟩] := by
  unfold rotQ
  simp only
  rw [toQ_set c k e h]
  by_cases h1 : k + 1 < c.length
  · rw [Nat.mod_eq_of_lt h1, List.drop_set_of_lt (by omega), List.take_add_one, List.getElem?_set_self (by rw [toQ_len]; exact h), List.take_set_of_le (by omega)]
    simp
  · have h2 : k + 1 = c.length := by omega
    rw [h2, Nat.mod_self, List.drop_zero, List.take_zero, List.append_nil, List.drop_of_length_le (by rw [toQ_len]; omega), List.nil_append]
    have h3 : (toQ c).set k ⟨k, e.u, e.t⟩ = ((toQ c).set k ⟨k, e.u, e.t⟩).take (k + 1) := by rw [List.take_of_length_le (by rw [List.length_set, toQ_len]; omega)]
    rw [h3, List.take_add_one, List.getElem?_set_self (by rw [toQ_len]; exact h), List.take_set_of_le (by omega)]
    simp
theorem rot_step {M : Ms α} (h : M.h < M.c.length) : rotQ (stepM M) = (toQ M.c).drop (M.h + 1) ++ (toQ M.c).take M.h ++ [clrQ ⟨M.h, us M.c M.h, ts M.c M.h⟩] := by
  unfold stepM nx
  rw [rot_turn h]
  congr 2
  unfold clrC clrQ us ts
  split <;> rfl
theorem rot_vic {M : Ms α} (h : M.h < M.c.length) : rotQ ⟨M.c, nx M⟩ = (toQ M.c).drop (M.h + 1) ++ (toQ M.c).take M.h ++ [⟨M.h, us M.c M.h, ts M.c M.h⟩] := by
  have := rot_turn h (M.c.getD M.h Z0)
  rw [set_self] at this
  exact this
theorem vic_rot : ∀ (f : Nat) (M : Ms α), M.Ok → vicQ f (rotQ M) = (rotQ (vicF f M).1, (vicF f M).2)
  | 0, M, h => rfl
  | f + 1, M, h => by
    rw [rot_head h.hn]
    unfold vicQ vicF
    simp only
    split
    · rw [rot_vic h.hn]
    · rw [← rot_step h.hn]
      exact vic_rot f _ (stepM_ok h)
def Quiet (q : List Qe) : Prop := ∀ e ∈ q, e.u = true → e.t = false
def fQ (q : List Qe) : List Nat := (q.filter (·.u)).map (·.i)
theorem fQ_append (a b : List Qe) : fQ (a ++ b) = fQ a ++ fQ b := by simp [fQ]
theorem clrQ_u (e : Qe) : (clrQ e).u = e.u := by unfold clrQ; split <;> simp [*]
theorem clrQ_i (e : Qe) : (clrQ e).i = e.i := by unfold clrQ; split <;> simp [*]
theorem clrQ_quiet (e : Qe) : (clrQ e).u = true → (clrQ e).t = false := by
  unfold clrQ
  split
  · exact fun _ => rfl
  · intro h; contradiction
theorem Quiet.snoc {q : List Qe} (h : Quiet q) {e : Qe} (he : e.u = true → e.t = false) : Quiet (q ++ [e]) := fun a ha => by
  rcases List.mem_append.1 ha with ha | ha
  · exact h a ha
  · rw [List.mem_singleton] at ha; subst ha; exact he
theorem quiet_vic : ∀ (f : Nat) (q : List Qe), Quiet q → Quiet (vicQ f q).1
  | 0, q, h => h
  | f + 1, [], h => h
  | f + 1, e :: q, h => by
    have hq : Quiet q := fun a ha => h a (List.mem_cons_of_mem _ ha)
    unfold vicQ
    split
    · exact hq.snoc (h e (List.mem_cons_self ..))
    · exact quiet_vic f _ (hq.snoc (clrQ_quiet e))
theorem phase1 : ∀ (f : Nat) (A B : List Qe) (k v : Nat), Quiet B → (fQ A).length ≤ k + 1 → (vicQ f (A ++ B)).2 = some v → ∃ A' B', (vicQ f (A ++ B)).1 = A' ++ B' ∧ Quiet B' ∧ (fQ A').length ≤ k
  | f, [], B, k, v, hB, _, _ => ⟨[], _, rfl, quiet_vic f _ hB, Nat.zero_le _⟩
  | 0, A, B, k, v, _, _, hv => by simp [vicQ] at hv
  | f + 1, e :: A, B, k, v, hB, hk, hv => by
    rw [List.cons_append] at hv ⊢
    rw [vicQ_cons] at hv ⊢
    split at hv
    · rename_i h
      rw [if_pos h]
      simp only [Bool.and_eq_true, Bool.not_eq_true'] at h
      refine ⟨A, B ++ [e], by simp, hB.snoc (fun _ => h.2), ?_⟩
      simp [fQ, h.1] at hk ⊢
      omega
    · rename_i h
      rw [if_neg h, List.append_assoc]
      rw [List.append_assoc] at hv
      refine phase1 f A _ k v (hB.snoc (clrQ_quiet e)) ?_ hv
      refine Nat.le_trans ?_ hk
      simp only [fQ, List.filter_cons]
      split <;> simp
theorem phase2 : ∀ (f : Nat) (q : List Qe) (x v : Nat) (T : List Nat), Quiet q → fQ q = x :: T → (vicQ f q).2 = some v → v = x ∧ fQ (vicQ f q).1 = T ++ [x]
  | 0, q, x, v, T, _, _, hv => by simp [vicQ] at hv
  | f + 1, [], x, v, T, _, hF, _ => by simp [fQ] at hF
  | f + 1, e :: q, x, v, T, h, hF, hv => by
    have hq : Quiet q := fun a ha => h a (List.mem_cons_of_mem _ ha)
    rw [vicQ_cons] at hv ⊢
    cases hu : e.u with
    | true =>
      have ht := h e (List.mem_cons_self ..) hu
      rw [hu, ht] at hv
      simp only [Bool.not_false, Bool.and_self, if_true, Option.some.injEq] at hv ⊢
      simp only [fQ, List.filter_cons, hu, if_true, List.map_cons, List.cons.injEq] at hF
      rw [ht]
      simp only [Bool.not_false, Bool.and_self, if_true]
      refine ⟨by rw [← hv, hF.1], ?_⟩
      rw [fQ_append, show fQ q = T from hF.2]
      simp [fQ, hu, hF.1]
    | false =>
      rw [hu] at hv
      simp only [Bool.false_and, Bool.false_eq_true, if_false] at hv ⊢
      refine phase2 f _ x v T (hq.snoc (clrQ_quiet e)) ?_ hv
      have hc := clrQ_u e
      rw [hu] at hc
      rw [fQ_append]
      simp only [fQ, List.filter_cons, hu, hc, List.filter_nil, List.map_nil, List.append_nil, Bool.false_eq_true, if_false] at hF ⊢
      exact hF
theorem phase3 : ∀ (A : List Qe) (f : Nat) (e : Qe) (B : List Qe), e.u = true → e.t = false → A.length < f → ∃ e' ∈ A ++ [e], e'.u = true ∧ e'.t = false ∧ (vicQ f (A ++ e :: B)).2 = some e'.i
  | [], f + 1, e, B, hu, ht, _ => ⟨e, by simp, hu, ht, by simp [vicQ, hu, ht]⟩
  | [], 0, e, B, _, _, hf => absurd hf (by simp)
  | a :: A, 0, e, B, _, _, hf => absurd hf (by simp)
  | a :: A, f + 1, e, B, hu, ht, hf => by
    rw [List.cons_append, List.cons_append, vicQ_cons]
    split
    · rename_i h
      simp only [Bool.and_eq_true, Bool.not_eq_true'] at h
      exact ⟨a, by simp, h.1, h.2, rfl⟩
    · rw [List.append_assoc, List.cons_append]
      obtain ⟨e', h1, h2⟩ := phase3 A f e (B ++ [clrQ a]) hu ht (by simpa using hf)
      exact ⟨e', List.mem_cons_of_mem _ h1, h2⟩
theorem phase4 : ∀ (A : List Qe) (f : Nat) (e : Qe) (B : List Qe), e.u = true → A.length + A.length + B.length + 1 < f → ∃ v, (vicQ f (A ++ e :: B)).2 = some v
  | [], f + 1, e, B, hu, hf => by
    rw [List.nil_append]
    rw [vicQ_cons]
    split
    · exact ⟨_, rfl⟩
    · obtain ⟨e', _, _, _, h⟩ := phase3 B f (clrQ e) [] (by rw [clrQ_u]; exact hu) (clrQ_quiet e (by rw [clrQ_u]; exact hu)) (by simp at hf; omega)
      exact ⟨_, h⟩
  | [], 0, e, B, _, hf => absurd hf (by simp)
  | a :: A, 0, e, B, _, hf => absurd hf (by simp)
  | a :: A, f + 1, e, B, hu, hf => by
    rw [List.cons_append]
    rw [vicQ_cons]
    split
    · exact ⟨_, rfl⟩
    · rw [List.append_assoc, List.cons_append]
      exact phase4 A f e (B ++ [clrQ a]) hu (by simp at hf ⊢; omega)
theorem fQ_toQ (c : List (Ce α)) : fQ (toQ c) = allC c c.length := by
  unfold fQ toQ allC
  rw [List.filter_map, List.map_map]
  have : (fun (x : Qe) => x.i) ∘ (fun i => (⟨i, us c i, ts c i⟩ : Qe)) = id := rfl
  rw [this, List.map_id]
  rfl
/-- The queue has what 'allM' has, turned. -/
theorem fQ_rot (M : Ms α) : ∃ A B, allM M = A ++ B ∧ fQ (rotQ M) = B ++ A := by
  refine ⟨fQ ((toQ M.c).take M.h), fQ ((toQ M.c).drop M.h), ?_, by unfold rotQ; rw [fQ_append]⟩
  rw [← fQ_append, List.take_append_drop, fQ_toQ]
  rfl
theorem mem_rot {M : Ms α} {e : Qe} (h : e ∈ rotQ M) : e.i < M.c.length ∧ e.u = us M.c e.i ∧ e.t = ts M.c e.i := by
  have : e ∈ toQ M.c := by
    unfold rotQ at h
    rcases List.mem_append.1 h with h | h
    · exact List.mem_of_mem_drop h
    · exact List.mem_of_mem_take h
  unfold toQ at this
  obtain ⟨i, hi, rfl⟩ := List.mem_map.1 this
  exact ⟨List.mem_range.1 hi, rfl, rfl⟩
theorem rot_mem {M : Ms α} {j : Nat} (h : j < M.c.length) : (⟨j, us M.c j, ts M.c j⟩ : Qe) ∈ rotQ M := by
  have h1 : (⟨j, us M.c j, ts M.c j⟩ : Qe) ∈ toQ M.c := List.mem_map.2 ⟨j, List.mem_range.2 h, rfl⟩
  unfold rotQ
  rw [← List.take_append_drop M.h (toQ M.c)] at h1
  rcases List.mem_append.1 h1 with h | h
  · exact List.mem_append_right _ h
  · exact List.mem_append_left _ h
theorem rot_len (M : Ms α) : (rotQ M).length = M.c.length := by
  unfold rotQ
  rw [List.length_append, Nat.add_comm, ← List.length_append, List.take_append_drop, toQ_len]
theorem all_mem {M : Ms α} {j : Nat} : j ∈ allM M ↔ j < M.c.length ∧ us M.c j = true := by
  unfold allM allC
  rw [List.mem_filter, List.mem_range]
theorem vicM_some {M : Ms α} (h : M.Ok) (hne : allM M ≠ []) : ∃ v, (vicM M).2 = some v := by
  obtain ⟨j, hj⟩ := List.exists_mem_of_ne_nil _ hne
  obtain ⟨h1, h2⟩ := all_mem.1 hj
  obtain ⟨A, B, hAB⟩ := List.append_of_mem (rot_mem h1)
  have hl := rot_len M
  rw [hAB, List.length_append, List.length_cons] at hl
  have h3 := vic_rot (2 * M.c.length) M h
  obtain ⟨v, hv⟩ := phase4 A (2 * M.c.length) ⟨j, us M.c j, ts M.c j⟩ B h2 (by omega)
  rw [hAB] at h3
  rw [h3] at hv
  exact ⟨v, hv⟩
/-- Who is told has something. -/
theorem vicF_mem : ∀ (f : Nat) (M : Ms α) (v : Nat), M.Ok → (vicF f M).2 = some v → v < M.c.length ∧ us M.c v = true
  | 0, M, v, _, hv => by simp [vicF] at hv
  | f + 1, M, v, h, hv => by
    unfold vicF at hv
    split at hv
    · rename_i h1
      simp only [Bool.and_eq_true] at h1
      simp only [Option.some.injEq] at hv
      subst hv
      exact ⟨h.hn, h1.1⟩
    · obtain ⟨h1, h2⟩ := vicF_mem f (stepM M) v (stepM_ok h) hv
      rw [stepM_len] at h1
      rw [us_step h.hn] at h2
      exact ⟨h1, h2⟩
theorem vicM_mem {M : Ms α} (h : M.Ok) {v : Nat} (hv : (vicM M).2 = some v) : v ∈ allM M := all_mem.2 (vicF_mem _ M v h hv)
theorem vicF_none : ∀ (f : Nat) (M : Ms α), M.Ok → allM M = [] → vicF f M = (⟨M.c, (M.h + f) % M.c.length⟩, none)
  | 0, M, h, _ => by unfold vicF; rw [Nat.add_zero, Nat.mod_eq_of_lt h.hn]
  | f + 1, M, h, h0 => by
    have hu : us M.c M.h = false := by
      cases e : us M.c M.h with
      | false => rfl
      | true =>
        have := all_mem.2 ⟨h.hn, e⟩
        rw [h0] at this
        cases this
    have hs : stepM M = ⟨M.c, nx M⟩ := by
      unfold stepM clrC
      rw [if_neg (by rw [show (M.c.getD M.h Z0).u = us M.c M.h from rfl, hu]; decide), set_self]
    have hOk := stepM_ok h
    rw [hs] at hOk
    unfold vicF
    rw [hu, if_neg (by simp), hs, vicF_none f _ hOk h0]
    simp only [nx]
    rw [Nat.mod_add_mod, Nat.add_assoc, Nat.add_comm 1 f]
theorem vicM_none {M : Ms α} (h : M.Ok) (h0 : allM M = []) : vicM M = (M, none) := by
  unfold vicM
  rw [vicF_none _ M h h0, show M.h + 2 * M.c.length = M.h + M.c.length + M.c.length by omega, Nat.add_mod_right, Nat.add_mod_right, Nat.mod_eq_of_lt h.hn]
theorem setM_ok {M : Ms α} (h : M.Ok) (i : Int) (x : α) : (setM M i x).Ok := by unfold setM; split; exact upd_ok h _ _; exact h
theorem touM_ok {M : Ms α} (h : M.Ok) (i : Int) : (touM M i).Ok := by unfold touM; split; exact upd_ok h _ _; exact h
theorem freM_ok {M : Ms α} (h : M.Ok) (i : Int) : (freM M i).Ok := by unfold freM; split; exact upd_ok h _ _; exact h
theorem setM_len (M : Ms α) (i : Int) (x : α) : (setM M i x).c.length = M.c.length := by unfold setM; split <;> simp [upd]
theorem touM_len (M : Ms α) (i : Int) : (touM M i).c.length = M.c.length := by unfold touM; split <;> simp [upd]
theorem freM_len (M : Ms α) (i : Int) : (freM M i).c.length = M.c.length := by unfold freM; split <;> simp [upd]
end Go.Proofs.Ytjjanogfcfapcaa

/- Slices of things in memory (records, questions): without anything of the other layers. -/
namespace Go.Proofs.Ytjjanogfcfapcaa
open Go.RowKit
set_option linter.unusedVariables false

/-- A record, in its parts. -/
structure Rc where
  n : ByteArray
  k : Nat
  c : Nat
  t : Nat
  d : ByteArray
/-- Its numbers are such of sixteen and of thirty-two bits. -/
structure Rc.Ok (r : Rc) : Prop where
  k : r.k < 65536
  c : r.c < 65536
  t : r.t < 4294967296
def Rc.zero : Rc := ⟨⟨#[]⟩, 0, 0, 0, ⟨#[]⟩⟩
theorem heap_lt {w : World} {g : Nat} {o : Obj} (h : w.heap[g]? = some o) : g < w.heap.size := (Array.getElem?_eq_some_iff.1 h).1
theorem blk_cell {w : World} {b : Nat} {cs : Array Value} {t : TypeId} (h : w.heap[b]? = some (.cells cs t (0, 0))) (i : Nat) : w.cell? ⟨b, i, none⟩ = cs[i]? := cell_of_row w b i cs t (0, 0) h
/-- The cells of a record, and of a question. -/
def rf (r : Rc) : List Value := [.string r.n, .int .u16 (r.k : Nat), .int .u16 (r.c : Nat), .int .u32 (r.t : Nat), .string r.d]
/-- A question. -/
structure Qu where
  n : ByteArray
  k : Nat
  c : Nat
structure Qu.Ok (q : Qu) : Prop where
  k : q.k < 65536
  c : q.c < 65536
def qf (r : Qu) : List Value := [.string r.n, .int .u16 (r.k : Nat), .int .u16 (r.c : Nat)]
theorem flat_at {α : Type} {f : α → List Value} {k : Nat} (hk : ∀ r, (f r).length = k) : ∀ (l : List α) (j i : Nat) (hj : j < l.length), i < k → (l.flatMap f)[j * k + i]? = (f l[j])[i]?
  | [], j, i, hj, _ => absurd hj (by simp)
  | a :: l, 0, i, hj, hi => by
    rw [List.flatMap_cons, List.getElem?_append_left (by rw [hk]; omega)]
    simp
  | a :: l, j + 1, i, hj, hi => by
    rw [List.flatMap_cons, List.getElem?_append_right (by rw [hk, Nat.add_mul]; omega), hk, show (j + 1) * k + i - k = j * k + i by rw [Nat.add_mul]; omega]
    exact flat_at hk l j i (by simpa using hj) hi
theorem flat_len {α : Type} {f : α → List Value} {k : Nat} (hk : ∀ r, (f r).length = k) : ∀ l : List α, (l.flatMap f).length = l.length * k
  | [] => by simp
  | a :: l => by rw [List.flatMap_cons, List.length_append, hk, flat_len hk l, List.length_cons, Nat.add_mul]; omega
theorem rf_len (r : Rc) : (rf r).length = 5 := rfl
theorem qf_len (r : Qu) : (qf r).length = 3 := rfl
theorem rf_one (l : List Rc) : ∀ u ∈ l.flatMap rf, u.oneCell' = true := fun u hu => by
  obtain ⟨r, _, hr⟩ := List.mem_flatMap.1 hu
  simp only [rf, List.mem_cons, List.not_mem_nil, or_false] at hr
  rcases hr with rfl | rfl | rfl | rfl | rfl <;> rfl
theorem qf_one (l : List Qu) : ∀ u ∈ l.flatMap qf, u.oneCell' = true := fun u hu => by
  obtain ⟨r, _, hr⟩ := List.mem_flatMap.1 hu
  simp only [qf, List.mem_cons, List.not_mem_nil, or_false] at hr
  rcases hr with rfl | rfl | rfl <;> rfl
/-- A slice's elements. -/
structure Sl {α : Type} (f : α → List Value) (w : World) (A : Option Addr) (cap : Nat) (l : List α) : Prop where
  nl : A = Option.none → cap = 0
  le : l.length ≤ cap
  has : l = [] ∨ ∃ b off, A = some ⟨b, off, none⟩ ∧ b < w.heap.size ∧ ∀ j u, (l.flatMap f)[j]? = some u → w.cell? ⟨b, off + j, none⟩ = some u
section
variable {α : Type} {f : α → List Value} {w w' : World} {A : Option Addr} {cap : Nat} {l : List α}
theorem Sl.nil (f : α → List Value) (w : World) : Sl f w Option.none 0 [] := ⟨fun _ => rfl, Nat.le_refl _, .inl rfl⟩
theorem Sl.below {B : Nat} (h : Sl f w A cap l) (hb : Below B w w') (hB : ∀ b off, A = some ⟨b, off, Option.none⟩ → b < B) : Sl f w' A cap l := by
  refine ⟨h.nl, h.le, ?_⟩
  rcases h.has with h1 | ⟨b, off, h1, h2, h3⟩
  · exact .inl h1
  · exact .inr ⟨b, off, h1, Nat.lt_of_lt_of_le h2 hb.size, fun j u hj => (hb.cell (p := ⟨b, off + j, Option.none⟩) (hB b off h1)).trans (h3 j u hj)⟩
theorem Sl.below' (h : Sl f w A cap l) (hb : Below w.heap.size w w') : Sl f w' A cap l := by
  refine ⟨h.nl, h.le, ?_⟩
  rcases h.has with h1 | ⟨b, off, h1, h2, h3⟩
  · exact .inl h1
  · exact .inr ⟨b, off, h1, Nat.lt_of_lt_of_le h2 hb.size, fun j u hj => (hb.cell (p := ⟨b, off + j, Option.none⟩) h2).trans (h3 j u hj)⟩
theorem Sl.empty (h : Sl f w A cap l) (hA : A = Option.none) : l = [] := by
  have := h.le
  rw [h.nl hA] at this
  exact List.eq_nil_of_length_eq_zero (by omega)
theorem Sl.take (h : Sl f w A cap l) (n : Nat) : Sl f w A cap (l.take n) := by
  refine ⟨h.nl, Nat.le_trans (by rw [List.length_take]; omega) h.le, ?_⟩
  rcases h.has with h1 | ⟨b, off, h1, h2, h3⟩
  · left; rw [h1]; simp
  · refine .inr ⟨b, off, h1, h2, fun j u hj => h3 j u ?_⟩
    have e : l.flatMap f = (l.take n).flatMap f ++ (l.drop n).flatMap f := by rw [← List.flatMap_append, List.take_append_drop]
    rw [e, List.getElem?_append_left (List.getElem?_eq_some_iff.1 hj).1]
    exact hj
/-- The cells of one element. -/
theorem Sl.at {k : Nat} (hk : ∀ r, (f r).length = k) (h : Sl f w A cap l) (j : Nat) (hj : j < l.length) : ∃ b off, A = some ⟨b, off, Option.none⟩ ∧ b < w.heap.size ∧ ∀ i u, (f l[j])[i]? = some u → w.cell? ⟨b, off + j * k + i, Option.none⟩ = some u := by
  rcases h.has with h1 | ⟨b, off, h1, h2, h3⟩
  · rw [h1] at hj; cases hj
  · refine ⟨b, off, h1, h2, fun i u hi => ?_⟩
    have hik : i < k := by have := (List.getElem?_eq_some_iff.1 hi).1; rw [hk] at this; exact this
    rw [Nat.add_assoc]
    exact h3 _ u (by rw [flat_at hk l j i hj hik]; exact hi)
theorem Sl.own {B : Nat} {e : TypeId} {k : Nat} {v : Value} (hk : ∀ r, (f r).length = k) (h : w.ownsRow B e k v l.length (l.flatMap f)) : ∃ A cap, v = .slice A l.length cap ∧ Sl f w A cap l := by
  rcases h.2 with ⟨hv, hn⟩ | ⟨g, cap, cur, hv, hB, hg, hc, hm, hz, ht⟩
  · obtain rfl : l = [] := List.eq_nil_of_length_eq_zero hn
    exact ⟨Option.none, 0, hv, Sl.nil f w⟩
  · refine ⟨_, cap, hv, (fun h => by cases h), hc, .inr ⟨g, 0, rfl, (Array.getElem?_eq_some_iff.1 hg).1, fun j u hj => ?_⟩⟩
    rw [← ht, List.getElem?_take] at hj
    rw [cell_of_row w g (0 + j) cur e (0, 0) hg, Nat.zero_add]
    split at hj
    · simpa using hj
    · cases hj
end
theorem Sl.ask3 {w : World} {A : Option Addr} {cap : Nat} {l : List Qu} (h : Sl qf w A cap l) (j : Nat) (hj : j < l.length) : ∃ b off, A = some ⟨b, off, Option.none⟩ ∧ b < w.heap.size ∧
    w.cell? ⟨b, off + j * 3, Option.none⟩ = some (.string l[j].n) ∧ w.cell? ⟨b, off + j * 3 + 1, Option.none⟩ = some (.int .u16 (l[j].k : Nat)) ∧ w.cell? ⟨b, off + j * 3 + 2, Option.none⟩ = some (.int .u16 (l[j].c : Nat)) := by
  obtain ⟨b, off, h1, h2, h3⟩ := h.at qf_len j hj
  exact ⟨b, off, h1, h2, h3 0 _ rfl, h3 1 _ rfl, h3 2 _ rfl⟩

theorem el_of {t : TypeId} {z : Value} {a b : Nat} (h : (Try.prog.info? t).map (fun i => (i.zero, i.size, i.bytes)) = some (some z, a, b)) : ∃ i, Try.prog.info? t = some i ∧ i.zero = some z ∧ i.size = a ∧ i.bytes = b := by
  rw [Option.map_eq_some_iff] at h
  obtain ⟨i, h1, h2⟩ := h
  simp only [Prod.mk.injEq] at h2
  exact ⟨i, h1, h2.1, h2.2.1, h2.2.2⟩
theorem Sl.src {α : Type} {f : α → List Value} {w : World} {a : Addr} {cap : Nat} {l : List α} (h : Sl f w (some a) cap l) : ∀ j u, (l.flatMap f)[j]? = some u → w.cell? (a.add j) = some u := fun j u hj => by
  rcases h.has with h1 | ⟨b, off, h1, h2, h3⟩
  · rw [h1] at hj; simp at hj
  · cases h1
    rw [Addr.add_lit]
    exact h3 j u hj

theorem Sl.other {α : Type} {f : α → List Value} {w w' : World} {A : Option Addr} {cap g : Nat} {l : List α} (h : Sl f w A cap l) (hw : ∀ b, b ≠ g → w'.heap[b]? = w.heap[b]?) (hz : w.heap.size ≤ w'.heap.size) (hne : ∀ a, A = some a → a.block ≠ g) : Sl f w' A cap l := by
  refine ⟨h.nl, h.le, ?_⟩
  rcases h.has with h1 | ⟨b, off, h1, h2, h3⟩
  · exact .inl h1
  · refine .inr ⟨b, off, h1, Nat.lt_of_lt_of_le h2 hz, fun j u hj => ?_⟩
    have e : w'.cell? ⟨b, off + j, none⟩ = w.cell? ⟨b, off + j, none⟩ := by
      unfold World.cell?
      rw [hw b (hne _ h1)]
    rw [e]
    exact h3 j u hj
theorem ownR_form {w : World} {B : Nat} {e : TypeId} {k : Nat} {v : Value} {n : Nat} {xs : List Value} (h : w.ownsRow B e k v n xs) : ∃ A cap, v = .slice A n cap := by
  rcases h.2 with ⟨rfl, rfl⟩ | ⟨g, cap, cur, rfl, _⟩
  · exact ⟨none, 0, rfl⟩
  · exact ⟨_, cap, rfl⟩
theorem own_block {w : World} {B : Nat} {e : TypeId} {k : Nat} {A : Option Addr} {n cap : Nat} {xs : List Value} (h : w.ownsRow B e k (.slice A n cap) n xs) (hn : 0 < n) : ∃ g, A = some ⟨g, 0, none⟩ ∧ B ≤ g := by
  rcases h.2 with ⟨_, h2⟩ | ⟨g, cap', cur, h1, h2, _⟩
  · omega
  · cases h1; exact ⟨g, rfl, h2⟩
theorem ownR_below {w w' : World} {B : Nat} {e : TypeId} {k : Nat} {v : Value} {n : Nat} {xs : List Value} (h : w.ownsRow B e k v n xs) (hb : Below w.heap.size w w') : w'.ownsRow B e k v n xs := by
  refine ⟨h.1, ?_⟩
  rcases h.2 with h1 | ⟨g, cap, cur, h1, h2, h3, h4⟩
  · exact .inl h1
  · exact .inr ⟨g, cap, cur, h1, h2, (hb.block g (heap_lt h3)).trans h3, h4⟩
/-- The numbers of a slice. -/
def Ns (k : IntKind) (w : World) (A : Option Addr) (l : List Nat) : Prop := ∀ j (h : j < l.length), ∃ b off : Nat, A = some ⟨b, off, none⟩ ∧ w.cell? ⟨b, off + j, none⟩ = some (.int k (l[j] : Nat))
/-- The value of a question. -/
def qV (r : Qu) : Value := .agg #[.string r.n, .int .u16 (r.k : Nat), .int .u16 (r.c : Nat)]
theorem elQ : (Try.prog.info? 35).map (fun i => (i.zero, i.size, i.bytes)) = some (some (qV ⟨⟨#[]⟩, 0, 0⟩), 3, 24) := by kernel_rfl
end Go.Proofs.Ytjjanogfcfapcaa

/- A shard, in plain mathematics: entries in slots, their times, and what each deed makes of them. -/
namespace Go.Proofs.Ytjjanogfcfapcaa
set_option linter.unusedVariables false

instance : Inhabited Qu := ⟨⟨⟨#[]⟩, 0, 0⟩⟩
instance : DecidableEq Qu := fun a b => if h : a.n = b.n ∧ a.k = b.k ∧ a.c = b.c then .isTrue (by
    obtain ⟨an, ak, ac⟩ := a
    obtain ⟨bn, bk, bc⟩ := b
    obtain ⟨rfl, rfl, rfl⟩ := h
    rfl) else .isFalse (fun e => h (by subst e; exact ⟨rfl, rfl, rfl⟩))
/-- An entry: its question, its records, its code, its rank, and when it ends. -/
structure En where
  q : Qu
  l : List Rc
  rc : Int
  rk : Int
  ex : Nat
instance : Inhabited En := ⟨⟨default, [], 0, 0, 0⟩⟩
/-- An entry, and where its records lie. -/
structure Ev where
  e : En
  A : Option Addr
  cap : Nat
instance : Inhabited Ev := ⟨⟨default, none, 0⟩⟩
def Ce.map {α β : Type} (f : α → β) (e : Ce α) : Ce β := ⟨f e.x, e.u, e.t⟩
def Ms.map {α β : Type} (f : α → β) (M : Ms α) : Ms β := ⟨M.c.map (Ce.map f), M.h⟩
/-- What is told of slots. -/
def pure (M : Ms Ev) : Ms En := M.map Ev.e
def pc (c : List (Ce Ev)) : List (Ce En) := c.map (Ce.map Ev.e)
theorem pure_c (M : Ms Ev) : (pure M).c = pc M.c := rfl
theorem pc_len (c : List (Ce Ev)) : (pc c).length = c.length := by simp [pc]
theorem pc_set (c : List (Ce Ev)) (k : Nat) (e : Ce Ev) : pc (c.set k e) = (pc c).set k (e.map Ev.e) := by simp [pc, List.map_set]
theorem Z0_map : (Z0 : Ce Ev).map Ev.e = Z0 := rfl
theorem pc_getD (c : List (Ce Ev)) (j : Nat) : (pc c).getD j Z0 = (c.getD j Z0).map Ev.e := by
  unfold pc
  rw [← Z0_map]
  simp only [List.getD_eq_getElem?_getD, List.getElem?_map]
  cases c[j]? <;> rfl
theorem us_pc (c : List (Ce Ev)) (j : Nat) : us (pc c) j = us c j := by unfold us; rw [pc_getD]; rfl
theorem ts_pc (c : List (Ce Ev)) (j : Nat) : ts (pc c) j = ts c j := by unfold ts; rw [pc_getD]; rfl
theorem pure_ok {M : Ms Ev} (h : M.Ok) : (pure M).Ok := ⟨by rw [pure_c, pc_len]; exact h.n1, by rw [pure_c, pc_len]; exact h.n64, by rw [pure_c, pc_len]; exact h.hn⟩
theorem ok_pure {M : Ms Ev} (h : (pure M).Ok) : M.Ok := ⟨by have := h.n1; rwa [pure_c, pc_len] at this, by have := h.n64; rwa [pure_c, pc_len] at this, by have := h.hn; rwa [pure_c, pc_len] at this⟩
theorem clrC_map (e : Ce Ev) : (clrC e).map Ev.e = clrC (e.map Ev.e) := by unfold clrC Ce.map; split <;> rfl
theorem stepM_pure (M : Ms Ev) : pure (stepM M) = stepM (pure M) := by
  show (⟨pc (M.c.set M.h (clrC (M.c.getD M.h Z0))), (M.h + 1) % M.c.length⟩ : Ms En) = ⟨(pc M.c).set M.h (clrC ((pc M.c).getD M.h Z0)), (M.h + 1) % (pc M.c).length⟩
  rw [pc_set, pc_len, pc_getD, clrC_map]
theorem vicF_pure : ∀ (f : Nat) (M : Ms Ev), vicF f (pure M) = (pure (vicF f M).1, (vicF f M).2)
  | 0, M => rfl
  | f + 1, M => by
    unfold vicF
    rw [pure_c, us_pc, ts_pc]
    show (if us M.c M.h && !ts M.c M.h then ((⟨pc M.c, nx (pure M)⟩ : Ms En), some M.h) else vicF f (stepM (pure M))) = _
    split
    · show ((⟨pc M.c, (M.h + 1) % (pc M.c).length⟩ : Ms En), some M.h) = (⟨pc M.c, (M.h + 1) % M.c.length⟩, some M.h)
      rw [pc_len]
    · rw [← stepM_pure, vicF_pure f (stepM M)]
theorem vicM_pure (M : Ms Ev) : vicM (pure M) = (pure (vicM M).1, (vicM M).2) := by unfold vicM; rw [pure_c, pc_len, vicF_pure]
theorem firstC_pc (c : List (Ce Ev)) : firstC (pc c) = firstC c := by
  unfold firstC pc
  rw [List.findIdx?_map]
  rfl
theorem newM_pure (n : Nat) : pure (newM n) = newM n := by
  show (⟨(List.replicate n Z0).map (Ce.map Ev.e), 0⟩ : Ms En) = ⟨List.replicate n Z0, 0⟩
  rw [List.map_replicate, Z0_map]

/-- The slot of a question. -/
def slotOf (c : List (Ce En)) (q : Qu) : Option Nat := c.findIdx? fun e => e.u && decide (e.x.q = q)
def qAt (c : List (Ce En)) (k : Nat) : Qu := (c.getD k Z0).x.q
/-- The questions there are, in the order of their slots. -/
def keysOf (c : List (Ce En)) : List Qu := (c.filter (·.u)).map (·.x.q)
/-- No question has two slots. -/
def Uq (c : List (Ce En)) : Prop := ∀ i j, i < c.length → j < c.length → us c i = true → us c j = true → qAt c i = qAt c j → i = j
theorem slot_some {c : List (Ce En)} (h : Uq c) {q : Qu} {k : Nat} : slotOf c q = some k ↔ k < c.length ∧ us c k = true ∧ qAt c k = q := by
  unfold slotOf
  rw [List.findIdx?_eq_some_iff_getElem]
  have at_ : ∀ j (hj : j < c.length), c.getD j Z0 = c[j] := fun j hj => by simp [hj]
  constructor
  · rintro ⟨hk, h1, _⟩
    simp only [Bool.and_eq_true, decide_eq_true_eq] at h1
    exact ⟨hk, by unfold us; rw [at_ k hk]; exact h1.1, by unfold qAt; rw [at_ k hk]; exact h1.2⟩
  · rintro ⟨hk, h1, h2⟩
    refine ⟨hk, ?_, fun j hj => ?_⟩
    · unfold us at h1
      unfold qAt at h2
      rw [at_ k hk] at h1 h2
      simp [h1, h2]
    · have hjc : j < c.length := by omega
      intro hc
      simp only [Bool.and_eq_true, decide_eq_true_eq] at hc
      have := h j k hjc hk (by unfold us; rw [at_ j hjc]; exact hc.1) h1 (by unfold qAt at h2 ⊢; rw [at_ j hjc, h2]; exact hc.2)
      omega
theorem slot_none {c : List (Ce En)} {q : Qu} : slotOf c q = none ↔ ∀ k, k < c.length → us c k = true → qAt c k ≠ q := by
  unfold slotOf
  rw [List.findIdx?_eq_none_iff]
  constructor
  · intro h k hk hu hq
    have := h c[k] (List.getElem_mem hk)
    unfold us at hu
    unfold qAt at hq
    rw [show c.getD k Z0 = c[k] by simp [hk]] at hu hq
    simp [hu, hq] at this
  · intro h x hx
    obtain ⟨k, hk, rfl⟩ := List.getElem_of_mem hx
    have := h k hk
    unfold us qAt at this
    rw [show c.getD k Z0 = c[k] by simp [hk]] at this
    cases hu : c[k].u with
    | false => rfl
    | true => simp [this hu]
theorem us_set {c : List (Ce En)} {k : Nat} (hk : k < c.length) (e : Ce En) (j : Nat) : us (c.set k e) j = if k = j then e.u else us c j := by
  unfold us; rw [getD_set _ _ _ _ hk]; split <;> rfl
theorem ts_set {c : List (Ce En)} {k : Nat} (hk : k < c.length) (e : Ce En) (j : Nat) : ts (c.set k e) j = if k = j then e.t else ts c j := by
  unfold ts; rw [getD_set _ _ _ _ hk]; split <;> rfl
theorem qAt_set {c : List (Ce En)} {k : Nat} (hk : k < c.length) (e : Ce En) (j : Nat) : qAt (c.set k e) j = if k = j then e.x.q else qAt c j := by
  unfold qAt; rw [getD_set _ _ _ _ hk]; split <;> rfl
theorem Uq.free {c : List (Ce En)} (h : Uq c) {k : Nat} (hk : k < c.length) {e : Ce En} (he : e.u = false) : Uq (c.set k e) := by
  intro i j hi hj ui uj hq
  rw [List.length_set] at hi hj
  rw [us_set hk] at ui uj
  rw [qAt_set hk, qAt_set hk] at hq
  by_cases e1 : k = i
  · rw [if_pos e1, he] at ui; cases ui
  · by_cases e2 : k = j
    · rw [if_pos e2, he] at uj; cases uj
    · rw [if_neg e1] at ui hq
      rw [if_neg e2] at uj hq
      exact h i j hi hj ui uj hq
/-- An entry of a question that is nowhere else. -/
theorem Uq.put {c : List (Ce En)} (h : Uq c) {k : Nat} (hk : k < c.length) {e : Ce En} (hn : ∀ j, j < c.length → us c j = true → qAt c j = e.x.q → j = k) : Uq (c.set k e) := by
  intro i j hi hj ui uj hq
  rw [List.length_set] at hi hj
  rw [us_set hk] at ui uj
  rw [qAt_set hk, qAt_set hk] at hq
  by_cases e1 : k = i
  · rw [if_pos e1] at hq
    by_cases e2 : k = j
    · omega
    · rw [if_neg e2] at uj hq
      have := hn j hj uj hq.symm
      omega
  · rw [if_neg e1] at ui hq
    by_cases e2 : k = j
    · rw [if_pos e2] at hq
      have := hn i hi ui hq
      omega
    · rw [if_neg e2] at uj hq
      exact h i j hi hj ui uj hq
theorem slot_free {c : List (Ce En)} (h : Uq c) {k : Nat} (hk : k < c.length) (hu : us c k = true) {e : Ce En} (he : e.u = false) (q : Qu) : slotOf (c.set k e) q = if q = qAt c k then none else slotOf c q := by
  have h2 := h.free hk he
  by_cases e0 : q = qAt c k
  · rw [if_pos e0]
    rw [slot_none]
    intro j hj uj hq
    rw [List.length_set] at hj
    rw [us_set hk] at uj
    rw [qAt_set hk] at hq
    by_cases e1 : k = j
    · rw [if_pos e1, he] at uj; cases uj
    · rw [if_neg e1] at uj hq
      exact e1 (h k j hk hj hu uj (by rw [hq, e0]))
  · rw [if_neg e0]
    cases hs : slotOf c q with
    | none =>
      rw [slot_none] at hs ⊢
      intro j hj uj
      rw [List.length_set] at hj
      rw [us_set hk] at uj
      rw [qAt_set hk]
      by_cases e1 : k = j
      · rw [if_pos e1, he] at uj; cases uj
      · rw [if_neg e1] at uj ⊢
        exact hs j hj uj
    | some j =>
      rw [slot_some h] at hs
      rw [slot_some h2]
      have e1 : k ≠ j := fun e => e0 (by rw [e]; exact hs.2.2.symm)
      rw [List.length_set, us_set hk, qAt_set hk, if_neg e1, if_neg e1]
      exact hs
/-- An entry comes to a slot that is free, or that has its question's. -/
theorem slot_put {c : List (Ce En)} (h : Uq c) {k : Nat} (hk : k < c.length) {e : Ce En} (he : e.u = true) (hn : ∀ j, j < c.length → us c j = true → qAt c j = e.x.q → j = k) (ho : us c k = true → qAt c k = e.x.q) (q : Qu) : slotOf (c.set k e) q = if q = e.x.q then some k else slotOf c q := by
  have h2 := h.put hk hn
  by_cases e0 : q = e.x.q
  · rw [if_pos e0, slot_some h2]
    rw [List.length_set, us_set hk, qAt_set hk, if_pos rfl, if_pos rfl]
    exact ⟨hk, he, e0.symm⟩
  · rw [if_neg e0]
    cases hs : slotOf c q with
    | none =>
      rw [slot_none] at hs ⊢
      intro j hj uj
      rw [List.length_set] at hj
      rw [us_set hk] at uj
      rw [qAt_set hk]
      by_cases e1 : k = j
      · rw [if_pos e1]; exact fun e2 => e0 e2.symm
      · rw [if_neg e1] at uj ⊢
        exact hs j hj uj
    | some j =>
      rw [slot_some h] at hs
      rw [slot_some h2]
      have e1 : k ≠ j := fun e => by
        subst e
        exact e0 (by rw [← hs.2.2]; exact ho hs.2.1)
      rw [List.length_set, us_set hk, qAt_set hk, if_neg e1, if_neg e1]
      exact hs
theorem slot_same {c : List (Ce En)} {k : Nat} (hk : k < c.length) {e : Ce En} (he : e.u = us c k) (hq : e.x.q = qAt c k) (q : Qu) : slotOf (c.set k e) q = slotOf c q := by
  unfold slotOf
  have e0 : ∀ (l : List (Ce En)) (p : Ce En → Bool) (k : Nat) (hk : k < l.length), p e = p l[k] → (l.set k e).findIdx? p = l.findIdx? p := by
    intro l p
    induction l with
    | nil => intro k hk; cases hk
    | cons a l ih =>
      intro k hk hp
      cases k with
      | zero =>
        simp only [List.getElem_cons_zero] at hp
        simp only [List.set_cons_zero, List.findIdx?_cons, hp]
      | succ k =>
        simp only [List.getElem_cons_succ] at hp
        simp only [List.set_cons_succ, List.findIdx?_cons, ih k (by simpa using hk) hp]
  refine e0 c _ k hk ?_
  have h1 : c.getD k Z0 = c[k] := by simp [hk]
  unfold us at he
  unfold qAt at hq
  rw [h1] at he hq
  simp only [he, hq]
end Go.Proofs.Ytjjanogfcfapcaa

/- A shard's deeds, in plain mathematics. -/
namespace Go.Proofs.Ytjjanogfcfapcaa
set_option linter.unusedVariables false

/-- The cells as 'Sha' has them. -/
def tiC (c : List (Ce En)) : List (Option En) := c.map fun e => if e.u then some e.x else none
theorem tiC_len (c : List (Ce En)) : (tiC c).length = c.length := by simp [tiC]
theorem tiC_set (c : List (Ce En)) (k : Nat) (e : Ce En) : tiC (c.set k e) = (tiC c).set k (if e.u then some e.x else none) := by simp [tiC, List.map_set]
theorem cell_tiC (c : List (Ce En)) (i : Nat) : W.cellOf (tiC c) i = if us c i then some (c.getD i Z0).x else none := by
  unfold W.cellOf tiC us
  rw [List.getElem?_map, List.getD_eq_getElem?_getD]
  cases c[i]? <;> rfl
theorem tiC_new (n : Nat) : tiC (newM n : Ms En).c = List.replicate n none := by
  show (List.replicate n (Z0 : Ce En)).map _ = _
  rw [List.map_replicate]
  rfl
abbrev TO (c : List (Ce En)) (l : List W.Ti) : Prop := W.TimesOf En.ex (tiC c) l

/-- A shard: its slots, and its times. -/
structure Sd where
  P : Ms En
  l : List W.Ti
structure Sd.Ok (d : Sd) : Prop where
  ok : d.P.Ok
  ti : TO d.P.c d.l
  uq : Uq d.P.c
def newS (n : Nat) : Sd := ⟨newM n, []⟩
def freeS (d : Sd) (k : Nat) : Sd := ⟨⟨d.P.c.set k Z0, d.P.h⟩, W.delL d.l k⟩
def storeS (d : Sd) (k : Nat) (e : En) (t : Bool) : Sd := ⟨⟨d.P.c.set k ⟨e, true, t⟩, d.P.h⟩, W.setL d.l k e.ex⟩
def touchS (d : Sd) (k : Nat) : Sd := ⟨⟨d.P.c.set k ⟨(d.P.c.getD k Z0).x, true, true⟩, d.P.h⟩, d.l⟩
def putS (d : Sd) (e : En) : Sd := match firstC d.P.c with | some i => storeS d i e false | none => d
/-- Slots are freed, one behind the other. -/
def freeAll (c : List (Ce En)) (is : List W.Ti) : List (Ce En) := is.foldl (fun c x => c.set x.id.toNat Z0) c
def goneQ (c : List (Ce En)) (is : List W.Ti) : List Qu := is.map fun x => qAt c x.id.toNat
def advS (d : Sd) (now : Nat) : Sd × List Qu := (⟨⟨freeAll d.P.c (W.dueL d.l now), d.P.h⟩, W.restL d.l now⟩, goneQ d.P.c (W.dueL d.l now))
def vicS (d : Sd) : Sd × Nat := (⟨(vicM d.P).1, d.l⟩, (vicM d.P).2.getD 0)
def roomS (d : Sd) (now : Nat) : Sd × List Qu :=
  if (firstC d.P.c).isSome then (d, [])
  else if (W.dueL d.l now).isEmpty then (freeS (vicS d).1 (vicS d).2, [qAt d.P.c (vicS d).2])
  else advS d now
/-- What beats. -/
def btE (a b : En) (now : Nat) : Bool := !decide (now < a.ex) || decide (a.rk ≤ b.rk)
def insS (d : Sd) (e : En) (now : Nat) : Sd × List Qu × Int :=
  if e.ex ≤ now then (d, [], 4)
  else match slotOf d.P.c e.q with
    | some k => if btE (d.P.c.getD k Z0).x e now then (storeS d k e true, [], 0) else (d, [], 7)
    | none => (putS (roomS d now).1 e, (roomS d now).2, 0)
def lookS (d : Sd) (q : Qu) (now : Nat) : Sd × En × Bool :=
  match slotOf d.P.c q with
  | some k => if now < (d.P.c.getD k Z0).x.ex then (touchS d k, (d.P.c.getD k Z0).x, true) else (d, default, false)
  | none => (d, default, false)
def evS (d : Sd) (q : Qu) : Sd × Bool :=
  match slotOf d.P.c q with
  | some k => (freeS d k, true)
  | none => (d, false)
theorem newS_ok {n : Nat} (h1 : 1 ≤ n) (h2 : n ≤ 64) : (newS n).Ok := by
  refine ⟨newM_ok En h1 h2, ?_, ?_⟩
  · show W.TimesOf En.ex (tiC (newM n : Ms En).c) []
    rw [tiC_new]
    exact W.TimesOf.new n
  · intro i j hi hj ui
    have : us (newM n : Ms En).c i = false := by
      unfold us newM
      simp only [List.getD_eq_getElem?_getD, List.getElem?_replicate]
      split <;> rfl
    rw [show (newS n).P.c = (newM n : Ms En).c from rfl, this] at ui
    cases ui
section
variable {d : Sd}
theorem freeS_ok (h : d.Ok) {k : Nat} (hk : k < d.P.c.length) : (freeS d k).Ok := by
  refine ⟨⟨by simpa [freeS] using h.ok.n1, by simpa [freeS] using h.ok.n64, by simpa [freeS] using h.ok.hn⟩, ?_, h.uq.free hk rfl⟩
  show W.TimesOf En.ex (tiC (d.P.c.set k Z0)) _
  rw [tiC_set]
  exact h.ti.free (by rw [tiC_len]; exact hk)
theorem storeS_ok (h : d.Ok) {k : Nat} (hk : k < d.P.c.length) (e : En) (t : Bool) (hn : ∀ j, j < d.P.c.length → us d.P.c j = true → qAt d.P.c j = e.q → j = k) : (storeS d k e t).Ok := by
  refine ⟨⟨by simpa [storeS] using h.ok.n1, by simpa [storeS] using h.ok.n64, by simpa [storeS] using h.ok.hn⟩, ?_, h.uq.put hk hn⟩
  show W.TimesOf En.ex (tiC (d.P.c.set k ⟨e, true, t⟩)) _
  rw [tiC_set]
  exact h.ti.set (by rw [tiC_len]; exact hk) e
/-- What only the touching turns. -/
structure Alike (c c' : List (Ce En)) : Prop where
  len : c'.length = c.length
  us : ∀ j, us c' j = us c j
  x : ∀ j, (c'.getD j Z0).x = (c.getD j Z0).x
theorem Alike.qAt {c c' : List (Ce En)} (h : Alike c c') (j : Nat) : qAt c' j = qAt c j := by
  unfold Proofs.Ytjjanogfcfapcaa.qAt; rw [h.x]
theorem Alike.tiC {c c' : List (Ce En)} (h : Alike c c') : tiC c' = tiC c := by
  apply List.ext_getElem?
  intro i
  by_cases hi : i < c.length
  · have h1 : c'.getD i Z0 = c'[i]'(by rw [h.len]; exact hi) := by simp [h.len, hi]
    have h2 : c.getD i Z0 = c[i] := by simp [hi]
    have a := h.us i
    have b := h.x i
    unfold Proofs.Ytjjanogfcfapcaa.us at a
    rw [h1, h2] at a b
    unfold Proofs.Ytjjanogfcfapcaa.tiC
    rw [List.getElem?_map, List.getElem?_map, List.getElem?_eq_getElem hi, List.getElem?_eq_getElem (by rw [h.len]; exact hi)]
    simp [a, b]
  · rw [List.getElem?_eq_none (by rw [tiC_len, h.len]; omega), List.getElem?_eq_none (by rw [tiC_len]; omega)]
theorem Alike.uq {c c' : List (Ce En)} (h : Alike c c') (hu : Uq c) : Uq c' := fun i j hi hj ui uj hq => by
  rw [h.len] at hi hj
  rw [h.us] at ui uj
  rw [h.qAt, h.qAt] at hq
  exact hu i j hi hj ui uj hq
theorem Alike.slot {c c' : List (Ce En)} (h : Alike c c') (hu : Uq c) (q : Qu) : slotOf c' q = slotOf c q := by
  cases hs : slotOf c q with
  | none =>
    rw [slot_none] at hs ⊢
    intro k hk hku
    rw [h.len] at hk
    rw [h.us] at hku
    rw [h.qAt]
    exact hs k hk hku
  | some k =>
    rw [slot_some hu] at hs
    rw [slot_some (h.uq hu), h.len, h.us, h.qAt]
    exact hs
theorem touch_alike (c : List (Ce En)) {k : Nat} (hk : k < c.length) (hu : us c k = true) : Alike c (c.set k ⟨(c.getD k Z0).x, true, true⟩) := by
  refine ⟨List.length_set, fun j => ?_, fun j => ?_⟩
  · rw [us_set hk]; split
    · rename_i h; rw [← h, hu]
    · rfl
  · rw [getD_set _ _ _ _ hk]; split
    · rename_i h; rw [← h]
    · rfl
theorem vic_alike {P : Ms En} (h : P.Ok) : Alike P.c (vicM P).1.c := ⟨vicM_len h, vicM_us h, vicM_xs h⟩
theorem touchS_ok (h : d.Ok) {k : Nat} (hk : k < d.P.c.length) (hu : us d.P.c k = true) : (touchS d k).Ok := by
  have a := touch_alike d.P.c hk hu
  refine ⟨⟨by simpa [touchS] using h.ok.n1, by simpa [touchS] using h.ok.n64, by simpa [touchS] using h.ok.hn⟩, ?_, a.uq h.uq⟩
  show W.TimesOf En.ex (tiC (touchS d k).P.c) d.l
  rw [show tiC (touchS d k).P.c = tiC d.P.c from a.tiC]
  exact h.ti
theorem vicS_ok (h : d.Ok) : (vicS d).1.Ok := by
  have a := vic_alike h.ok
  refine ⟨vicM_ok h.ok, ?_, a.uq h.uq⟩
  show W.TimesOf En.ex (tiC (vicM d.P).1.c) d.l
  rw [a.tiC]
  exact h.ti
end
end Go.Proofs.Ytjjanogfcfapcaa

/- The slots of entries in memory, and the contracts of the program's methods that only look: Cap, has. -/
namespace Go.Proofs.Ytjjanogfcfapcaa
open Go.RowKit
set_option linter.unusedVariables false

def Blk (w : World) (g : Nat) (t : TypeId) (cs : Array Value) : Prop := w.heap[g]? = some (.cells cs t (0, 0))
section
variable {w w' : World} {g : Nat} {t : TypeId} {cs : Array Value}
theorem Blk.lt (h : Blk w g t cs) : g < w.heap.size := by
  rcases Nat.lt_or_ge g w.heap.size with hlt | hge
  · exact hlt
  · unfold Blk at h; rw [Array.getElem?_eq_none hge] at h; cases h
theorem Blk.cell (h : Blk w g t cs) (i : Nat) : w.cell? ⟨g, i, none⟩ = cs[i]? := cell_of_row w g i cs t (0, 0) h
theorem Blk.frozen (h : Blk w g t cs) (i : Nat) : w.frozen? ⟨g, i, none⟩ = false := by
  unfold Blk at h
  simp [World.frozen?, h]
theorem Blk.new (w : World) (t : TypeId) (cs : Array Value) : Blk (w.alloc (.cells cs t)) w.heap.size t cs := heap_alloc_new w _
theorem Blk.set_ (h : Blk w g t cs) (i : Nat) (u : Value) : Blk (w.setCell ⟨g, i, none⟩ u) g t (cs.setIfInBounds i u) := by
  unfold Blk at h ⊢
  simp [World.setCell, Array.getElem?_modify, h]
theorem Blk.eq {w'' : World} (h : Blk w g t cs) (e : w''.heap[g]? = w.heap[g]?) : Blk w'' g t cs := e.trans h
theorem Blk.far (h : Blk w g t cs) (p : Addr) (u : Value) (hp : g ≠ p.block) : Blk (w.setCell p u) g t cs := (Below.heap_setCell w p u g hp).trans h
end
theorem Blk.setCells {g : Nat} {t : TypeId} : ∀ (vs : List Value) (o : Nat) {w : World} {cs : Array Value}, Blk w g t cs → o + vs.length ≤ cs.size → ∃ cs', Blk (w.setCells g o vs) g t cs' ∧ cs'.size = cs.size ∧ ∀ i, cs'[i]? = if o ≤ i ∧ i < o + vs.length then vs[i - o]? else cs[i]?
  | [], o, w, cs, h, _ => ⟨cs, h, rfl, fun i => by rw [if_neg (by simp)]⟩
  | v :: r, o, w, cs, h, hs => by
    simp only [List.length_cons] at hs
    obtain ⟨cs', h1, h2, h3⟩ := Blk.setCells (t := t) r (o + 1) (h.set_ o v) (by rw [Array.size_setIfInBounds]; omega)
    refine ⟨cs', h1, by rw [h2, Array.size_setIfInBounds], fun i => ?_⟩
    rw [h3 i, Array.getElem?_setIfInBounds]
    simp only [List.length_cons]
    by_cases e1 : o = i
    · subst e1
      rw [if_neg (by omega), if_pos rfl, if_pos (by omega), if_pos (by omega), Nat.sub_self]
      rfl
    · rw [if_neg e1]
      by_cases e2 : o + 1 ≤ i ∧ i < o + 1 + r.length
      · rw [if_pos e2, if_pos (by omega)]
        obtain ⟨q, hq⟩ : ∃ q, i - o = q + 1 := ⟨i - o - 1, by omega⟩
        rw [hq, show i - (o + 1) = q by omega]
        rfl
      · rw [if_neg e2, if_neg (by omega)]
theorem setCells_other {g k : Nat} : ∀ (vs : List Value) (o : Nat) (w : World), k ≠ g → (w.setCells g o vs).heap[k]? = w.heap[k]?
  | [], _, _, _ => rfl
  | v :: r, o, w, h => by rw [World.setCells, setCells_other r (o + 1) _ h, Below.heap_setCell w _ _ k h]
theorem setCells_below {B g : Nat} : ∀ (vs : List Value) (o : Nat) {w0 w : World}, Below B w0 w → B ≤ g → Below B w0 (w.setCells g o vs)
  | [], _, _, _, h, _ => h
  | v :: r, o, _, _, h, hg => by rw [World.setCells]; exact setCells_below r (o + 1) (h.setCell (p := ⟨g, o, none⟩) hg v) hg
theorem Blk.far_ {w : World} {g k : Nat} {t : TypeId} {cs : Array Value} (h : Blk w g t cs) (o : Nat) (vs : List Value) (hk : g ≠ k) : Blk (w.setCells k o vs) g t cs := h.eq (setCells_other vs o w hk)
theorem Blk.range {w : World} {g : Nat} {t : TypeId} {cs : Array Value} (h : Blk w g t cs) (o : Nat) (vs : List Value) (hv : ∀ j u, vs[j]? = some u → cs[o + j]? = some u) : w.rangeAt g o vs := fun j u hj => (h.cell _).trans (hv j u hj)
theorem Blk.there {w : World} {g : Nat} {t : TypeId} {cs : Array Value} (h : Blk w g t cs) (o n : Nat) (hn : o + n ≤ cs.size) : w.there g o n := fun j hj => ⟨by rw [h.cell]; simp; omega, h.frozen _⟩

/-- The cells of an entry. -/
def evL (x : Ev) : List Value := [.string x.e.q.n, .int .u16 (x.e.q.k : Nat), .int .u16 (x.e.q.c : Nat), .slice x.A x.e.l.length x.cap, .int .i64 x.e.rc, .int .i64 x.e.rk, .int .u64 (x.e.ex : Nat)]
def evV (x : Ev) : Value := .agg (evL x).toArray
theorem evV_eq (x : Ev) : evV x = .agg #[.string x.e.q.n, .int .u16 (x.e.q.k : Nat), .int .u16 (x.e.q.c : Nat), .slice x.A x.e.l.length x.cap, .int .i64 x.e.rc, .int .i64 x.e.rk, .int .u64 (x.e.ex : Nat)] := rfl
theorem evL_len (x : Ev) : (evL x).length = 7 := rfl
theorem evL_one (x : Ev) : (evL x).toArray.all (·.oneCell') = true := by simp [evL, Value.oneCell']
theorem infoE : (Try.prog.info? 39).map (·.size) = some 7 := by kernel_rfl
theorem infoEv (x : Ev) : (Try.prog.info? 39).map (·.size) = some (evL x).length := infoE
theorem infoEa (x : Ev) : (Try.prog.info? 39).map (·.size) = some (evL x).toArray.size := infoE
/-- The cells of the slots. -/
def cf (e : Ce Ev) : List Value := evL e.x ++ [.bool e.u, .bool e.t]
theorem cf_len1 (e : Ce Ev) : (cf e).length = 9 := rfl
def cA (c : List (Ce Ev)) : Array Value := (c.flatMap cf).toArray
theorem cA_at (c : List (Ce Ev)) (j i : Nat) (hj : j < c.length) (hi : i < 9) : (cA c)[j * 9 + i]? = (cf (c.getD j Z0))[i]? := by
  unfold cA
  rw [List.getElem?_toArray, flat_at cf_len1 c j i hj hi]
  simp [hj]
theorem cA_size (c : List (Ce Ev)) : (cA c).size = c.length * 9 := by unfold cA; rw [List.size_toArray, flat_len cf_len1]
theorem cA_ext {c : List (Ce Ev)} {a : Array Value} (hs : a.size = c.length * 9) (h : ∀ j i, j < c.length → i < 9 → a[j * 9 + i]? = (cf (c.getD j Z0))[i]?) : a = cA c := by
  apply Array.ext_getElem?
  intro q
  by_cases hq : q < c.length * 9
  · have e : q = q / 9 * 9 + q % 9 := by omega
    rw [e, h _ _ (by omega) (by omega), cA_at _ _ _ (by omega) (by omega)]
  · rw [Array.getElem?_eq_none (by omega), Array.getElem?_eq_none (by rw [cA_size]; omega)]
/-- A part of one slot's cells is stored. -/
theorem cA_part (c : List (Ce Ev)) (k : Nat) (hk : k < c.length) (e : Ce Ev) (o : Nat) (vs : List Value) (ho : o + vs.length ≤ 9) {a : Array Value} (hs : a.size = (cA c).size)
    (ha : ∀ i, a[i]? = if k * 9 + o ≤ i ∧ i < k * 9 + o + vs.length then vs[i - (k * 9 + o)]? else (cA c)[i]?)
    (h1 : ∀ i, i < 9 → (cf e)[i]? = if o ≤ i ∧ i < o + vs.length then vs[i - o]? else (cf (c.getD k Z0))[i]?) : a = cA (c.set k e) := by
  apply cA_ext
  · rw [hs, cA_size, List.length_set]
  intro j i hj hi
  rw [List.length_set] at hj
  rw [ha, getD_set _ _ _ _ hk]
  by_cases e1 : k = j
  · subst e1
    rw [if_pos rfl, h1 i hi]
    by_cases e2 : o ≤ i ∧ i < o + vs.length
    · rw [if_pos (by omega), if_pos e2, show k * 9 + i - (k * 9 + o) = i - o by omega]
    · rw [if_neg (by omega), if_neg e2, cA_at _ _ _ hk hi]
  · rw [if_neg e1, if_neg (by omega), cA_at _ _ _ hj hi]
theorem ce_eta (c : List (Ce Ev)) (k : Nat) : c.getD k Z0 = ⟨(c.getD k Z0).x, us c k, ts c k⟩ := rfl

theorem cell_size {w : World} {p : Addr} {v : Value} (h : w.cell? p = some v) : p.block < w.heap.size := by
  rcases Nat.lt_or_ge p.block w.heap.size with h1 | h1
  · exact h1
  · unfold World.cell? at h
    rw [Array.getElem?_eq_none h1] at h
    cases h
theorem Ns.below {k : IntKind} {w w' : World} {A : Option Addr} {l : List Nat} (h : Ns k w A l) (hb : Below w.heap.size w w') : Ns k w' A l := fun j hj => by
  obtain ⟨b, off, h1, h2⟩ := h j hj
  exact ⟨b, off, h1, (hb.cell (p := ⟨b, off + j, none⟩) (cell_size h2)).trans h2⟩
theorem elI : (Try.prog.info? 3).map (fun i => (i.zero, i.size, i.bytes)) = some (some (.int .i64 0), 1, 8) := by kernel_rfl
theorem newI (W : World) (n : Int) : ∀ j u, ([Value.int .i64 n] : List Value)[j]? = some u → (W.alloc (.cells #[.int .i64 n] 3)).cell? ((⟨W.heap.size, 0, none⟩ : Addr).add j) = some u := fun j u hj => by
  have h := heap_alloc_new W (Obj.cells #[.int .i64 n] 3)
  rw [Addr.add_lit, Nat.zero_add, blk_cell h j, ← hj]
  simp
/-- The program's slots: their block g, and b, the block of what they have. -/
structure Sp (w : World) (g b : Nat) (M : Ms Ev) : Prop where
  gb : b < g
  bg : Blk w g 97 #[.slice (some ⟨b, 0, none⟩) M.c.length M.c.length, .int .i64 (M.h : Nat)]
  bb : Blk w b 108 (cA M.c)
  ok : M.Ok
/-- Of what was there only blocks of X have turned. -/
structure Ch (X : Nat → Prop) (w w' : World) : Prop where
  os : w'.os = w.os
  tape : w'.tape = w.tape
  output : w'.output = w.output
  size : w.heap.size ≤ w'.heap.size
  block : ∀ i, i < w.heap.size → ¬ X i → w'.heap[i]? = w.heap[i]?
section
variable {X Y : Nat → Prop} {a b c : World}
theorem Ch.refl (X : Nat → Prop) (w : World) : Ch X w w := ⟨rfl, rfl, rfl, Nat.le_refl _, fun _ _ _ => rfl⟩
theorem Ch.trans (h : Ch X a b) (k : Ch X b c) : Ch X a c := ⟨k.os.trans h.os, k.tape.trans h.tape, k.output.trans h.output, Nat.le_trans h.size k.size, fun i hi hx => (k.block i (Nat.lt_of_lt_of_le hi h.size) hx).trans (h.block i hi hx)⟩
theorem Ch.mono (h : Ch X a b) (hX : ∀ i, X i → Y i) : Ch Y a b := ⟨h.os, h.tape, h.output, h.size, fun i hi hy => h.block i hi (fun e => hy (hX i e))⟩
theorem Ch.bel (h : Below a.heap.size a b) : Ch X a b := ⟨h.os, h.tape, h.output, h.size, fun i hi _ => h.block i hi⟩
theorem Ch.below (h : Ch X a b) (k : Below b.heap.size b c) : Ch X a c := h.trans (Ch.bel k)
theorem Ch.isBelow {n : Nat} (h : Ch X a b) (hX : ∀ i, X i → n ≤ i) (hn : n ≤ a.heap.size) : Below n a b := ⟨h.os, h.tape, h.output, h.size, fun i hi => h.block i (by omega) (fun e => by have := hX i e; omega)⟩
theorem Ch.grown (h : Ch X a b) {r : Nat} (g : b.grownBy c (some r)) (hr : X r) : Ch X a c := ⟨g.os.trans h.os, g.tape.trans h.tape, g.output.trans h.output, Nat.le_trans h.size g.size, fun i hi hx => (g.block i (Nat.lt_of_lt_of_le hi h.size) (fun e => by cases e; exact hx hr)).trans (h.block i hi hx)⟩
end
/-- Only these two blocks turn. -/
def Fp (g b : Nat) (w w' : World) : Prop := Ch (fun i => i = g ∨ i = b) w w'
theorem Fp.refl (g b : Nat) (w : World) : Fp g b w w := Ch.refl _ _
theorem Fp.trans {g b : Nat} {w w' w'' : World} (h : Fp g b w w') (k : Fp g b w' w'') : Fp g b w w'' := Ch.trans h k
theorem Fp.of {g b : Nat} {w w' : World} (h : Below w.heap.size w w') (hb : b ≤ w.heap.size) : Fp g b w w' := Ch.bel h
theorem Sp.keep {w w' : World} {g b : Nat} {M : Ms Ev} (h : Sp w g b M) (hb : Below w.heap.size w w') : Sp w' g b M := ⟨h.gb, h.bg.eq (hb.block g h.bg.lt), h.bb.eq (hb.block b h.bb.lt), h.ok⟩
theorem Sp.keepC {w w' : World} {g b : Nat} {M : Ms Ev} {X : Nat → Prop} (h : Sp w g b M) (hc : Ch X w w') (hg : ¬ X g) (hb : ¬ X b) : Sp w' g b M := ⟨h.gb, h.bg.eq (hc.block g h.bg.lt hg), h.bb.eq (hc.block b h.bb.lt hb), h.ok⟩
theorem Fp.set {g b : Nat} (w : World) (i : Nat) (u : Value) (p : Nat) (hp : p = g ∨ p = b) (hgb : b < g) : Fp g b w (w.setCell ⟨p, i, none⟩ u) :=
  ⟨rfl, rfl, rfl, by simp, fun k hk hx => Below.heap_setCell w _ _ k (fun e => hx (by rw [e]; exact hp))⟩
theorem setCells_ch {X : Nat → Prop} {g : Nat} (hg : X g) : ∀ (vs : List Value) (o : Nat) (w : World), Ch X w (w.setCells g o vs)
  | [], _, w => Ch.refl _ _
  | v :: r, o, w => by
    rw [World.setCells]
    have h1 : Ch X w (w.setCell ⟨g, o, none⟩ v) := ⟨rfl, rfl, rfl, by simp, fun k hk hx => Below.heap_setCell w ⟨g, o, none⟩ v k (fun e => hx (by rw [e]; exact hg))⟩
    exact h1.trans (setCells_ch hg r (o + 1) _)
/-- A part of one slot's cells is stored. -/
theorem Sp.part {w : World} {g b : Nat} {M : Ms Ev} (h : Sp w g b M) {k : Nat} (hk : k < M.c.length) (e : Ce Ev) (o : Nat) (vs : List Value) (ho : o + vs.length ≤ 9)
    (h1 : ∀ i, i < 9 → (cf e)[i]? = if o ≤ i ∧ i < o + vs.length then vs[i - o]? else (cf (M.c.getD k Z0))[i]?) : Sp (w.setCells b (k * 9 + o) vs) g b ⟨M.c.set k e, M.h⟩ ∧ Fp g b w (w.setCells b (k * 9 + o) vs) := by
  have hgb := h.gb
  refine ⟨⟨hgb, ?_, ?_, ⟨by simpa using h.ok.n1, by simpa using h.ok.n64, by simpa using h.ok.hn⟩⟩, ?_⟩
  · simp only [List.length_set]
    exact h.bg.far_ _ _ (by omega)
  · obtain ⟨cs, c1, c2, c3⟩ := h.bb.setCells vs (k * 9 + o) (by rw [cA_size]; omega)
    rw [← cA_part M.c k hk e o vs ho c2 c3 h1]
    exact c1
  · exact setCells_ch (.inr rfl) vs _ w
theorem Sp.one {w : World} {g b : Nat} {M : Ms Ev} (h : Sp w g b M) {k : Nat} (hk : k < M.c.length) (e : Ce Ev) (o : Nat) (v : Value) (ho : o < 9)
    (h1 : ∀ i, i < 9 → (cf e)[i]? = if o = i then some v else (cf (M.c.getD k Z0))[i]?) : Sp (w.setCell ⟨b, k * 9 + o, none⟩ v) g b ⟨M.c.set k e, M.h⟩ ∧ Fp g b w (w.setCell ⟨b, k * 9 + o, none⟩ v) := by
  have := h.part hk e o [v] (by simp; omega) (fun i hi => by
    rw [h1 i hi]
    by_cases c : o = i
    · subst c; simp
    · rw [if_neg c, if_neg (by simp; omega)])
  exact this
section
variable {w : World} {g b : Nat} {M : Ms Ev}
theorem Sp.c0 (h : Sp w g b M) : w.cell? ⟨g, 0, none⟩ = some (.slice (some ⟨b, 0, none⟩) M.c.length M.c.length) := h.bg.cell 0
theorem Sp.c1 (h : Sp w g b M) : w.cell? ⟨g, 1, none⟩ = some (.int .i64 (M.h : Nat)) := h.bg.cell 1
theorem Sp.e0 (h : Sp w g b M) {k : Nat} (hk : k < M.c.length) : w.rangeAt b (k * 9) (evL (M.c.getD k Z0).x) := h.bb.range _ _ fun j u hj => by
  have hl := (List.getElem?_eq_some_iff.1 hj).1
  rw [evL_len] at hl
  rw [cA_at M.c k j hk (by omega)]
  unfold cf
  rw [List.getElem?_append_left (by rw [evL_len]; omega)]
  exact hj
theorem Sp.e1 (h : Sp w g b M) {k : Nat} (hk : k < M.c.length) : w.cell? ⟨b, k * 9 + 7, none⟩ = some (.bool (us M.c k)) := (h.bb.cell _).trans (cA_at M.c k 7 hk (by omega))
theorem Sp.e2 (h : Sp w g b M) {k : Nat} (hk : k < M.c.length) : w.cell? ⟨b, k * 9 + 8, none⟩ = some (.bool (ts M.c k)) := (h.bb.cell _).trans (cA_at M.c k 8 hk (by omega))
theorem Sp.th (h : Sp w g b M) {k : Nat} (hk : k < M.c.length) (o n : Nat) (hn : o + n ≤ 9) : w.there b (k * 9 + o) n := h.bb.there _ _ (by rw [cA_size]; omega)
end

set_option maxHeartbeats 1000000 in
theorem cap_nil (w : World) : Calls Try.prog 34 #[.pointer none] w fun e w' => e = .returned (.int .i64 0) ∧ w' = w := by
  go_enter Try.func34, Try.ntmps34
  go_wp2_with fail
  go_ret
  exact ⟨rfl, rfl⟩
set_option maxHeartbeats 1000000 in
theorem cap_any {w : World} {g b : Nat} {M : Ms Ev} (h : Sp w g b M) : Calls Try.prog 34 #[.pointer (some ⟨g, 0, none⟩)] w fun e w' => e = .returned (.int .i64 (M.c.length : Nat)) ∧ w' = w := by
  have c0 := h.c0
  have h1 := h.ok.n64
  generalize M.c.length = n at *
  clear h
  go_enter Try.func34, Try.ntmps34
  go_wp2_with fail
  go_ret
  exact ⟨rfl, rfl⟩

set_option maxHeartbeats 1000000 in
theorem has_nil (i : Int) (w : World) : Calls Try.prog 50 #[.pointer none, .int .i64 i] w fun e w' => e = .returned (.bool false) ∧ w' = w := by
  have HC := Lib.hid (fun w => cap_nil w)
  by_cases h0 : 0 ≤ i
  · have d0 : decide (0 ≤ i) = true := by simpa using h0
    have d1 : decide (i < 0) = false := by simp; omega
    clear h0
    go_enter Try.func50, Try.ntmps50
    go_wp2_with (go_at_call 34; with_reducible (refine (HC.out _).mono ?_); rintro e w1 ⟨rfl, rfl⟩)
    go_ret
    exact ⟨rfl, rfl⟩
  · have d0 : decide (0 ≤ i) = false := by simpa using h0
    clear h0
    go_enter Try.func50, Try.ntmps50
    go_wp2_with fail
    go_ret
    exact ⟨rfl, rfl⟩
set_option maxHeartbeats 1000000 in
theorem has_any (i : Int) {w : World} {g b : Nat} {M : Ms Ev} (h : Sp w g b M) : Calls Try.prog 50 #[.pointer (some ⟨g, 0, none⟩), .int .i64 i] w fun e w' => e = .returned (.bool (hasM M i)) ∧ w' = w := by
  have HC := Lib.hid (cap_any h)
  by_cases h0 : 0 ≤ i
  · have d0 : decide (0 ≤ i) = true := by simpa using h0
    by_cases h1 : i < M.c.length
    · obtain ⟨k, rfl⟩ : ∃ k : Nat, i = k := ⟨i.toNat, by omega⟩
      have hk : k < M.c.length := by omega
      have c0 := h.c0
      have e1 := h.e1 hk
      have d1 : decide ((k : Int) < M.c.length) = true := by simpa using hk
      have s0 : (0 : Int) ≤ (k : Nat) := by omega
      have h2 := h.ok.n64
      rw [has_nat hk]
      generalize us M.c k = u at *
      generalize M.c.length = n at *
      clear h
      go_enter Try.func50, Try.ntmps50
      go_wp2_with (go_at_call 34; with_reducible (refine HC.out.mono ?_); rintro e w1 ⟨rfl, rfl⟩)
      go_ret
      exact ⟨rfl, rfl⟩
    · have d1 : decide (i < M.c.length) = false := by simpa using h1
      have e : hasM M i = false := by unfold hasM; simp; omega
      rw [e]
      have h2 := h.ok.n64
      generalize M.c.length = n at *
      clear h
      go_enter Try.func50, Try.ntmps50
      go_wp2_with (go_at_call 34; with_reducible (refine HC.out.mono ?_); rintro e w1 ⟨rfl, rfl⟩)
      go_ret
      exact ⟨rfl, rfl⟩
  · have d0 : decide (0 ≤ i) = false := by simpa using h0
    have e : hasM M i = false := by unfold hasM; simp; omega
    rw [e]
    clear h0 HC h
    go_enter Try.func50, Try.ntmps50
    go_wp2_with fail
    go_ret
    exact ⟨rfl, rfl⟩
end Go.Proofs.Ytjjanogfcfapcaa

/- The contracts of the program's slots of entries: Get, Set, Touch, Free, step. -/
namespace Go.Proofs.Ytjjanogfcfapcaa
open Go.RowKit
set_option linter.unusedVariables false

def zE : Array Value := #[.string ⟨#[]⟩, .int .u16 0, .int .u16 0, .slice none 0 0, .int .i64 0, .int .i64 0, .int .u64 0]
theorem infoS : (Try.prog.info? 108).map (·.size) = some 9 := by kernel_rfl
theorem cf_one (e : Ce Ev) : (cf e).toArray.all (·.oneCell') = true := by simp [cf, evL, Value.oneCell']
theorem load_e (w : World) (g : Nat) (cs : Array Value) (hs : cs.size = 7) (hg : w.heap[g]? = some (.cells cs 39 (0, 0))) : (loadVar 39 ⟨g, 0, none⟩).run Try.prog w = .ok (.agg cs) w :=
  run_loadVar_row w g 39 39 cs (0, 0) _ hg Try.underlying39 rfl (by rw [hs]; exact infoE)
theorem ret_e2 {w : World} {fn : Func} {p q : Tmp} {R : Ending → World → Prop} {a : Act} {g : Nat} {v : Value} (cs : Array Value) (hs : cs.size = 7) (h : fn.results = #[.cell p 39, .tmp q]) (hp : a.tmps.getD p undef = .pointer (some ⟨g, 0, none⟩)) (hq : a.tmps.getD q undef = v) (hd : a.defers = [])
    (hg : w.heap[g]? = some (.cells cs 39 (0, 0))) (hR : R (.returned (.tuple #[.agg cs, v])) w) : bodyPost Try.prog fn R .ret a w := by
  refine bodyPost_ret (v := .tuple #[.agg cs, v]) ?_ hd hR
  rw [results_cell_tmp h, hp, hq]
  simp [asAddr, Result.andThen, load_e w g cs hs hg]
theorem setRow_below {B g : Nat} {w0 w : World} (hb : Below B w0 w) (hBg : B ≤ g) (cs : Array Value) : Below B w0 (w.setRow g cs) :=
  ⟨hb.os, hb.tape, hb.output, by rw [setRow_size]; exact hb.size, fun k hk => by rw [setRow_other w g k cs (by omega)]; exact hb.block k hk⟩

set_option maxHeartbeats 1000000 in
theorem get_k {k : Nat} {w : World} {g b : Nat} {M : Ms Ev} (h : Sp w g b M) (hk : k < M.c.length) (hu : us M.c k = true) :
    Calls Try.prog 33 #[.pointer (some ⟨g, 0, none⟩), .int .i64 (k : Nat)] w fun e w' => e = .returned (.tuple #[evV (M.c.getD k Z0).x, .bool true]) ∧ Below w.heap.size w w' := by
  have hb := (Below.refl w.heap.size w).alloc (Nat.le_refl _) (Obj.cells zE 39)
  have HX := Lib.hid (Blk.new w 39 zE)
  have h1 := h.keep hb
  have HC := Lib.hid (has_any k h1)
  rw [has_nat hk, hu] at HC
  have HB := Lib.hid hb
  have HE := Lib.hid (h1.e0 hk)
  have c0 := h1.c0
  have s0 : (0 : Int) ≤ (k : Nat) := by omega
  have s1 : (k : Int) < M.c.length := by omega
  have h2 := h.ok.n64
  generalize (M.c.getD k Z0).x = x at *
  clear h hu hb h1
  go_enter Try.func33, Try.ntmps33
  go_upto_region 1 with (fail)
  unfold zE at *
  generalize w.alloc (Obj.cells #[.string ⟨#[]⟩, .int .u16 0, .int .u16 0, .slice none 0 0, .int .i64 0, .int .i64 0, .int .u64 0] 39) = w1 at *
  generalize M.c.length = n at *
  go_wp2_with (first
    | (refine wpList_load_mid rfl 39 _ rfl b (k * 9) rfl (evL x) _ HE.out Try.underlying39 rfl (infoEv x) ?_)
    | (refine wpList_store_row rfl 39 _ _ rfl w.heap.size _ rfl rfl 39 _ HX.out (infoEa x) rfl (evL_one x) ?_)
    | (go_at_call 50; (with_reducible (refine HC.out.mono ?_)); rintro e w1 ⟨rfl, rfl⟩))
  exact ret_e2 (evL x).toArray rfl rfl rfl rfl rfl (setRow_heap _ _ _ _ _ _ HX.out) ⟨rfl, setRow_below HB.out (Nat.le_refl _) _⟩

/-- What Set makes. -/
theorem cf_set (e : Ce Ev) (x : Ev) (i : Nat) (hi : i < 9) : (cf ⟨x, e.u, e.t⟩)[i]? = if 0 ≤ i ∧ i < 0 + (evL x).length then (evL x)[i - 0]? else (cf e)[i]? := by
  unfold cf
  by_cases h : i < 7
  · rw [if_pos (by rw [evL_len]; omega), List.getElem?_append_left (by rw [evL_len]; omega)]
    rfl
  · rw [if_neg (by rw [evL_len]; omega), List.getElem?_append_right (by rw [evL_len]; omega), List.getElem?_append_right (by rw [evL_len]; omega), evL_len, evL_len]
theorem cf_all (e e' : Ce Ev) (i : Nat) (hi : i < 9) : (cf e)[i]? = if 0 ≤ i ∧ i < 0 + (cf e).length then (cf e)[i - 0]? else (cf e')[i]? := by
  rw [if_pos (by rw [cf_len1]; omega)]
  rfl
theorem cf_tou (e : Ce Ev) (t : Bool) (i : Nat) (hi : i < 9) : (cf ⟨e.x, e.u, t⟩)[i]? = if 8 = i then some (.bool t) else (cf e)[i]? := by
  have h : i = 0 ∨ i = 1 ∨ i = 2 ∨ i = 3 ∨ i = 4 ∨ i = 5 ∨ i = 6 ∨ i = 7 ∨ i = 8 := by omega
  rcases h with rfl | rfl | rfl | rfl | rfl | rfl | rfl | rfl | rfl <;> rfl
set_option maxRecDepth 100000 in
set_option maxHeartbeats 2000000 in
theorem set_k {k : Nat} (x : Ev) {w : World} {g b : Nat} {M : Ms Ev} (h : Sp w g b M) (hk : k < M.c.length) (hu : us M.c k = true) :
    Calls Try.prog 51 #[.pointer (some ⟨g, 0, none⟩), .int .i64 (k : Nat), evV x] w fun e w' => e = .returned (.bool true) ∧ Sp w' g b ⟨M.c.set k ⟨x, true, ts M.c k⟩, M.h⟩ ∧ Fp g b w w' := by
  rw [evV_eq]
  have hb := (Below.refl w.heap.size w).alloc (Nat.le_refl _) (Obj.cells (evL x).toArray 39)
  have hx := Blk.new w 39 (evL x).toArray
  have h1 := h.keep hb
  have HC := Lib.hid (has_any k h1)
  rw [has_nat hk, hu] at HC
  have HB := Lib.hid (Fp.of (g := g) hb (Nat.le_of_lt h.bb.lt))
  have c0 := h1.c0
  have b0 := hx.cell 0
  have b1 := hx.cell 1
  have b2 := hx.cell 2
  have b3 := hx.cell 3
  have b4 := hx.cell 4
  have b5 := hx.cell 5
  have b6 := hx.cell 6
  have s0 : (0 : Int) ≤ (k : Nat) := by omega
  have s1 : (k : Int) < M.c.length := by omega
  have h2 := h.ok.n64
  unfold evL at b0 b1 b2 b3 b4 b5 b6
  simp only [List.getElem?_toArray, List.getElem?_cons_zero, List.getElem?_cons_succ] at b0 b1 b2 b3 b4 b5 b6
  have hp := cf_set (M.c.getD k Z0) x
  rw [show (M.c.getD k Z0).u = true from hu, show (M.c.getD k Z0).t = ts M.c k from rfl] at hp
  have HD := Lib.hid (h1.keep (Below.refl _ (w.alloc (Obj.cells (evL x).toArray 39))).drew)
  have HK := Lib.hid hk
  have HP := Lib.hid hp
  clear h hu hb h1 hx hp
  go_enter Try.func51, Try.ntmps51
  go_upto_region 1 with (fail)
  unfold evL at HB HD HC c0
  generalize w.alloc (Obj.cells #[.string x.e.q.n, .int .u16 (x.e.q.k : Nat), .int .u16 (x.e.q.c : Nat), .slice x.A x.e.l.length x.cap, .int .i64 x.e.rc, .int .i64 x.e.rk, .int .u64 (x.e.ex : Nat)] 39) = w1 at *
  have HB2 := Lib.hid (HB.out.trans (Fp.of (Below.refl _ w1).drew (Nat.le_of_lt (by have := HD.out.bb.lt; simpa using this))))
  go_upto_region 3 with (go_at_call 50; (with_reducible (refine HC.out.mono ?_)); rintro e w2 ⟨rfl, rfl⟩)
  go_still_tail 8, (by kernel_rfl)
  change wpList _ _ _ _ _ w2.drew
  generalize w2.drew = w3 at *
  clear c0 b0 b1 b2 b3 b4 b5 b6
  go_wp2_with (refine wpList_store_mid rfl 39 _ _ rfl b (k * 9) (evL x).toArray rfl rfl (HD.out.th HK.out 0 7 (by omega)) (infoEa x) (evL_one x) ?_)
  have hf := HD.out.part HK.out ⟨x, true, ts M.c k⟩ 0 (evL x) (by rw [evL_len]; omega) HP.out
  have HF := Lib.hid (And.intro hf.1 (HB2.out.trans hf.2))
  clear hf
  go_ret
  exact ⟨rfl, HF.out⟩
end Go.Proofs.Ytjjanogfcfapcaa

/- The contracts of the program's slots of entries: Touch, Free, step, All, Len, New. -/
namespace Go.Proofs.Ytjjanogfcfapcaa
open Go.RowKit
set_option linter.unusedVariables false

set_option maxHeartbeats 1000000 in
theorem touch_k {k : Nat} {w : World} {g b : Nat} {M : Ms Ev} (h : Sp w g b M) (hk : k < M.c.length) (hu : us M.c k = true) :
    Calls Try.prog 43 #[.pointer (some ⟨g, 0, none⟩), .int .i64 (k : Nat)] w fun e w' => e = .returned (.bool true) ∧ Sp w' g b ⟨M.c.set k ⟨(M.c.getD k Z0).x, true, true⟩, M.h⟩ ∧ Fp g b w w' := by
  have HC := Lib.hid (has_any k h)
  rw [has_nat hk, hu] at HC
  have c0 := h.c0
  have e2 := h.e2 hk
  have f0 := h.bb.frozen (k * 9 + 8)
  have s0 : (0 : Int) ≤ (k : Nat) := by omega
  have s1 : (k : Int) < M.c.length := by omega
  have h2 := h.ok.n64
  have hp := cf_tou (M.c.getD k Z0) true
  rw [show (M.c.getD k Z0).u = true from hu] at hp
  have HF := Lib.hid (h.one hk ⟨(M.c.getD k Z0).x, true, true⟩ 8 (.bool true) (by omega) hp)
  clear hp
  generalize (⟨M.c.set k ⟨(M.c.getD k Z0).x, true, true⟩, M.h⟩ : Ms Ev) = M' at *
  generalize ts M.c k = y at *
  generalize M.c.length = n at *
  clear h hu
  go_enter Try.func43, Try.ntmps43
  go_wp2_with (go_at_call 50; (with_reducible (refine HC.out.mono ?_)); rintro e w1 ⟨rfl, rfl⟩)
  go_ret
  exact ⟨rfl, HF.out⟩
set_option maxRecDepth 100000 in
set_option maxHeartbeats 1000000 in
theorem free_k {k : Nat} {w : World} {g b : Nat} {M : Ms Ev} (h : Sp w g b M) (hk : k < M.c.length) (hu : us M.c k = true) :
    Calls Try.prog 55 #[.pointer (some ⟨g, 0, none⟩), .int .i64 (k : Nat)] w fun e w' => e = .returned (.bool true) ∧ Sp w' g b ⟨M.c.set k Z0, M.h⟩ ∧ Fp g b w w' := by
  have HC := Lib.hid (has_any k h)
  rw [has_nat hk, hu] at HC
  have c0 := h.c0
  have s0 : (0 : Int) ≤ (k : Nat) := by omega
  have s1 : (k : Int) < M.c.length := by omega
  have h2 := h.ok.n64
  have HF := Lib.hid (h.part hk Z0 0 (cf Z0) (by rw [cf_len1]; omega) (cf_all Z0 _))
  have HT := Lib.hid (h.th hk 0 9 (by omega))
  generalize (⟨M.c.set k Z0, M.h⟩ : Ms Ev) = M' at *
  generalize M.c.length = n at *
  clear h hu
  go_enter Try.func55, Try.ntmps55
  go_wp2_with (first | (refine wpList_store_mid rfl 108 _ _ rfl b (k * 9) (cf Z0).toArray rfl rfl HT.out infoS (cf_one Z0) ?_) | (go_at_call 50; (with_reducible (refine HC.out.mono ?_)); rintro e w1 ⟨rfl, rfl⟩))
  go_ret
  exact ⟨rfl, HF.out⟩

theorem nx_int (M : Ms Ev) (h : M.Ok) : (((M.h : Nat) : Int) + 1).tmod (M.c.length : Nat) = (nx M : Nat) := by
  unfold nx
  rw [show ((M.h : Nat) : Int) + 1 = ((M.h + 1 : Nat) : Int) by simp]
  rw [Int.tmod_eq_emod_of_nonneg (by omega)]
  rfl
set_option maxHeartbeats 1000000 in
theorem step_any {w : World} {g b : Nat} {M : Ms Ev} (h : Sp w g b M) : Calls Try.prog 62 #[.pointer (some ⟨g, 0, none⟩)] w fun e w' => e = .returned (.int .i64 (M.h : Nat)) ∧ w' = w.setCell ⟨g, 1, none⟩ (.int .i64 (nx M : Nat)) := by
  have HC := Lib.hid (cap_any h)
  have c1 := h.c1
  have f1 := h.bg.frozen 1
  have hm := nx_int M h.ok
  have h1 := h.ok.n1
  have h2 := h.ok.n64
  have h3 := h.ok.hn
  generalize nx M = q at *
  generalize M.c.length = n at *
  generalize M.h = hh at *
  have n0 : ((n : Int) == 0) = false := by simp; omega
  have n1 : ¬ (n : Int) = 0 := by omega
  clear h
  go_enter Try.func62, Try.ntmps62
  go_wp2_with (go_at_call 34; with_reducible (refine HC.out.mono ?_); rintro e w1 ⟨rfl, rfl⟩)
  go_ret
  exact ⟨rfl, rfl⟩
def vals (l : List Nat) : List Value := l.map fun i => Value.int .i64 (i : Nat)
theorem vals_len (l : List Nat) : (vals l).length = l.length := by simp [vals]
theorem vals_snoc (l : List Nat) (j : Nat) : vals (l ++ [j]) = vals l ++ [Value.int .i64 (j : Nat)] := by simp [vals]
theorem ns_own {w : World} {B : Nat} {A : Option Addr} {cap : Nat} {l : List Nat} (h : w.ownsRow B 3 1 (.slice A l.length cap) l.length (vals l)) : Ns .i64 w A l := fun j hj => by
  obtain ⟨g, rfl, hg⟩ := own_block h (by omega)
  refine ⟨g, 0, rfl, ?_⟩
  rw [Nat.zero_add, h.cellAt _ (by omega)]
  simp [vals, hj]
theorem allC_succ (c : List (Ce Ev)) (j : Nat) : allC c (j + 1) = if us c j then allC c j ++ [j] else allC c j := by
  unfold allC
  rw [List.range_succ, List.filter_append]
  cases h : us c j <;> simp [h]
theorem allC_le (c : List (Ce Ev)) (j : Nat) : (allC c j).length ≤ j := by
  have := List.length_filter_le (us c) (List.range j)
  rw [List.length_range] at this
  exact this

set_option maxRecDepth 100000 in
set_option maxHeartbeats 1000000 in
theorem all_any {w : World} {g b : Nat} {M : Ms Ev} (h : Sp w g b M) : Calls Try.prog 32 #[.pointer (some ⟨g, 0, none⟩)] w fun e w' => ∃ A cap, e = .returned (.slice A (allM M).length cap) ∧ Ns .i64 w' A (allM M) ∧ Below w.heap.size w w' := by
  obtain ⟨i0, hi, hz0, hz1, hz2⟩ := el_of elI
  have HC := Lib.hid (cap_any h)
  have HS := Lib.hid h
  have h64 := h.ok.n64
  unfold allM
  clear h
  generalize hn : M.c.length = n at *
  have HN := Lib.hid hn
  clear hn
  go_enter Try.func32, Try.ntmps32
  go_wp2_with (go_at_call 34; with_reducible (refine HC.out.mono ?_); rintro e w1 ⟨rfl, rfl⟩)
  go_loopw [3, 4, 7] (fun v _ x wr => ∃ j : Nat, j ≤ n ∧ x = .int .i64 j ∧ wr.ownsRow w1.heap.size 3 1 v (allC M.c j).length (vals (allC M.c j)) ∧ Below w1.heap.size w1 wr) (fun _ _ x _ => n - (intOf x).toNat)
  case atStart => exact ⟨0, Nat.zero_le _, rfl, World.ownsRow_nil _ _ _ _, Below.refl _ _⟩
  case round =>
    obtain ⟨j, hj, rfl, hown, hbel⟩ := hrel
    obtain ⟨Av, cv, rfl⟩ := ownR_form hown
    by_cases hlt : j < n
    · have d1 : decide ((j : Int) < n) = true := by simp; omega
      have hS := HS.out.keep hbel
      have hjn : j < M.c.length := by rw [HN.out]; exact hlt
      have c0 := hS.c0
      have e1 := hS.e1 hjn
      rw [HN.out] at c0
      have s0 : (0 : Int) ≤ (j : Nat) := by omega
      have s1 : (j : Int) < (n : Nat) := by omega
      have hle := allC_le M.c j
      cases hu : us M.c j with
      | false =>
        rw [hu] at e1
        have ht2 : allC M.c (j + 1) = allC M.c j := by rw [allC_succ, hu]; rfl
        have HT2 := Lib.hid ht2
        have HO := Lib.hid (And.intro hown hbel)
        clear hown hbel hS hu ht2
        go_wp2_with fail
        go_roundw
        case rel => exact ⟨j + 1, hlt, by go_num, by rw [HT2.out]; exact HO.out.1, HO.out.2⟩
        case measure => simp [intOf]; omega
      | true =>
        rw [hu] at e1
        have ht2 : allC M.c (j + 1) = allC M.c j ++ [j] := by rw [allC_succ, hu]; rfl
        have HT2 := Lib.hid ht2
        have ho3 := hown.alloc (Obj.cells #[.int .i64 (j : Nat)] 3)
        have hb3 := hbel.alloc hbel.size (Obj.cells #[.int .i64 (j : Nat)] 3)
        have HO3 := Lib.hid ho3
        have HB3 := Lib.hid hb3
        have HV := Lib.hid (vals_snoc (allC M.c j) j)
        clear hown hbel hS hu ho3 hb3 ht2
        generalize allC M.c j = l at *
        go_wp2_with (at_builtin; (refine wpList_append_own _ rfl _ _ 79 rfl w1.heap.size 3 i0 (.int .i64 0) 1 8 Try.underlying79 hi hz0 hz1 hz2 rfl (by decide) _ _ _ rfl HO3.out ⟨wr.heap.size, 0, none⟩ 1 1 [Value.int .i64 (j : Nat)] rfl rfl (newI wr j) ?q3 ?q4 ?q5 HB3.out.size ?_))
        case q3 => intro u hu; simp at hu; subst hu; rfl
        case q4 => unfold maxLen; omega
        case q5 => omega
        intro v' w3 hown2 hgrow hnil
        have hb4 := HB3.out.grown hgrow HB3.out.size (fun k hk => (HO3.out.lt k hk).1)
        rw [← HV.out, show l.length + 1 = (l ++ [j]).length by simp, ← HT2.out] at hown2
        have HF := Lib.hid (And.intro hown2 hb4)
        clear hown2 hgrow hnil hb4
        go_wp2_with fail
        go_roundw
        case rel => exact ⟨j + 1, hlt, by go_num, HF.out.1, HF.out.2⟩
        case measure => simp [intOf]; omega
    · obtain rfl : j = n := by omega
      have d1 : decide ((j : Int) < j) = false := by simp
      have HF := Lib.hid (And.intro (ns_own hown) hbel)
      clear hown hbel
      go_wp2_with fail
      go_ret
      exact ⟨Av, cv, rfl, HF.out.1, HF.out.2⟩

set_option maxHeartbeats 1000000 in
theorem len_any {w : World} {g b : Nat} {M : Ms Ev} (h : Sp w g b M) : Calls Try.prog 61 #[.pointer (some ⟨g, 0, none⟩)] w fun e w' => e = .returned (.int .i64 ((allM M).length : Nat)) ∧ Below w.heap.size w w' := by
  have HC := Lib.hid (all_any h)
  clear h
  generalize allM M = l at *
  generalize hn : l.length = n at *
  clear hn
  go_enter Try.func61, Try.ntmps61
  go_wp2_with (go_at_call 32; with_reducible (refine HC.out.mono ?_); rintro e w1 ⟨A, cap, rfl, _, hb⟩; have HB := Lib.hid hb; clear hb)
  go_ret
  exact ⟨rfl, HB.out⟩

theorem elS : (Try.prog.info? 108).map (fun i => (i.zero, i.size, i.bytes)) = some (some (.agg (cf Z0).toArray), 9, 80) := by kernel_rfl
theorem made_new (n : Nat) : madeCells (cf Z0).toArray (n * 9) = cA (newM n).c := by
  apply cA_ext
  · simp [size_madeCells, newM]
  intro j i hj hi
  simp only [newM, List.length_replicate] at hj
  have e : (newM n).c.getD j (Z0 : Ce Ev) = Z0 := by simp [newM, hj]
  rw [e]
  have hlt : j * 9 + i < n * 9 := by omega
  unfold madeCells
  rw [Array.getElem?_map, Array.getElem?_range, if_pos hlt]
  have hm : (j * 9 + i) % 9 = i := by omega
  have h3 : i = 0 ∨ i = 1 ∨ i = 2 ∨ i = 3 ∨ i = 4 ∨ i = 5 ∨ i = 6 ∨ i = 7 ∨ i = 8 := by omega
  simp only [Option.map_some]
  rw [show (cf (Z0 : Ce Ev)).toArray.size = 9 from rfl, hm]
  rcases h3 with rfl | rfl | rfl | rfl | rfl | rfl | rfl | rfl | rfl <;> rfl
set_option maxHeartbeats 1000000 in
theorem new_no (n : Int) (h : n < 1 ∨ 64 < n) (w : World) : Calls Try.prog 26 #[.int .i64 n] w fun e w' => e = .returned (.pointer none) ∧ w' = w := by
  by_cases h1 : n < 1
  · have d1 : decide (n < 1) = true := by simpa using h1
    clear h h1
    go_enter Try.func26, Try.ntmps26
    go_wp2_with fail
    go_ret
    exact ⟨rfl, rfl⟩
  · have d1 : decide (n < 1) = false := by simpa using h1
    have d2 : decide (64 < n) = true := by simp; omega
    clear h h1
    go_enter Try.func26, Try.ntmps26
    go_wp2_with fail
    go_ret
    exact ⟨rfl, rfl⟩
set_option maxHeartbeats 1000000 in
theorem new_any (n : Nat) (h1 : 1 ≤ n) (h2 : n ≤ 64) (w : World) : Calls Try.prog 26 #[.int .i64 (n : Nat)] w fun e w' => e = .returned (.pointer (some ⟨w.heap.size + 1, 0, none⟩)) ∧ Sp w' (w.heap.size + 1) w.heap.size (newM n : Ms Ev) ∧ Below w.heap.size w w' ∧ w'.heap.size = w.heap.size + 2 := by
  obtain ⟨i0, hi, hz0, hz1, hz2⟩ := el_of elS
  have hmk := run_make w 95 108 i0 (.agg (cf Z0).toArray) (P := Try.prog) Try.underlying95 hi hz0 .i64 .i64 n n (by omega) (by omega) (by rw [hz2]; omega) (by omega)
  rw [hz1, Int.toNat_natCast, show (Value.agg (cf Z0).toArray).cells = (cf Z0).toArray from rfl, made_new] at hmk
  have hb0 := Blk.new w 108 (cA (newM n : Ms Ev).c)
  have hl0 := (Below.refl w.heap.size w).alloc (Nat.le_refl _) (Obj.cells (cA (newM n : Ms Ev).c) 108)
  have es : (w.alloc (Obj.cells (cA (newM n : Ms Ev).c) 108)).heap.size = w.heap.size + 1 := by simp
  generalize w.alloc (Obj.cells (cA (newM n : Ms Ev).c) 108) = w1 at *
  have hb1 := Blk.new w1 97 #[.slice (some ⟨w.heap.size, 0, none⟩) n n, .int .i64 0]
  have hl1 := (Below.refl w1.heap.size w1).alloc (Nat.le_refl _) (Obj.cells #[.slice (some ⟨w.heap.size, 0, none⟩) n n, .int .i64 0] 97)
  have hs1 : (w1.alloc (Obj.cells #[.slice (some ⟨w.heap.size, 0, none⟩) n n, .int .i64 0] 97)).heap.size = w.heap.size + 2 := by simp [es]
  have HF := Lib.hid (And.intro (show Sp (w1.alloc (Obj.cells #[.slice (some ⟨w.heap.size, 0, none⟩) n n, .int .i64 0] 97)) (w.heap.size + 1) w.heap.size (newM n : Ms Ev) from ⟨by omega, by rw [es] at hb1; simpa [newM] using hb1, hb0.eq (hl1.block _ hb0.lt), newM_ok Ev h1 h2⟩) (And.intro (hl0.trans (hl1.mono hl0.size)) hs1))
  have HE := Lib.hid es
  clear hb0 hl0 hb1 hl1 hs1 hi hz0 hz1 hz2
  have d1 : decide ((n : Int) < 1) = false := by simp; omega
  have d2 : decide ((64 : Int) < n) = false := by simp; omega
  go_enter Try.func26, Try.ntmps26
  go_wp2_with fail
  go_ret
  exact ⟨rfl, HF.out⟩
end Go.Proofs.Ytjjanogfcfapcaa

/- The contracts of the program's slots of entries: Put and Victim. -/
namespace Go.Proofs.Ytjjanogfcfapcaa
open Go.RowKit
set_option linter.unusedVariables false

section
variable {α : Type} [Inhabited α]
theorem us_get {c : List (Ce α)} {j : Nat} (hj : j < c.length) : us c j = c[j].u := by unfold us; simp [hj]
theorem first_some {c : List (Ce α)} {j : Nat} (hj : j < c.length) (h0 : us c j = false) (h : ∀ i, i < j → us c i = true) : firstC c = some j := by
  unfold firstC
  rw [List.findIdx?_eq_some_iff_getElem]
  refine ⟨hj, by rw [← us_get hj, h0]; rfl, fun i hi => ?_⟩
  have := h i hi
  rw [us_get (by omega)] at this
  simp [this]
theorem first_none {c : List (Ce α)} (h : ∀ i, i < c.length → us c i = true) : firstC c = none := by
  unfold firstC
  rw [List.findIdx?_eq_none_iff]
  intro x hx
  obtain ⟨i, hi, rfl⟩ := List.getElem_of_mem hx
  have := h i hi
  rw [us_get hi] at this
  simp [this]
end

theorem first_of {α : Type} [Inhabited α] {c : List (Ce α)} {k : Nat} (h : firstC c = some k) : k < c.length ∧ us c k = false ∧ ∀ j, j < k → us c j = true := by
  unfold firstC at h
  rw [List.findIdx?_eq_some_iff_getElem] at h
  obtain ⟨hk, h1, h2⟩ := h
  refine ⟨hk, by rw [us_get hk]; simpa using h1, fun j hj => ?_⟩
  rw [us_get (by omega)]
  simpa using h2 j hj
set_option maxRecDepth 100000 in
set_option maxHeartbeats 2000000 in
theorem put_k (x : Ev) {k : Nat} {w : World} {g b : Nat} {M : Ms Ev} (h : Sp w g b M) (hf : firstC M.c = some k) :
    Calls Try.prog 54 #[.pointer (some ⟨g, 0, none⟩), evV x] w fun e w' => e = .returned (.tuple #[.int .i64 (k : Nat), .int .i64 0]) ∧ Sp w' g b ⟨M.c.set k ⟨x, true, false⟩, M.h⟩ ∧ Fp g b w w' := by
  rw [evV_eq]
  obtain ⟨hk, hk0, hk1⟩ := first_of hf
  have hb := (Below.refl w.heap.size w).alloc (Nat.le_refl _) (Obj.cells (evL x).toArray 39)
  have hx := Blk.new w 39 (evL x).toArray
  have h1 := h.keep hb
  have HC := Lib.hid (cap_any h1)
  have HB := Lib.hid (Fp.of (g := g) hb (Nat.le_of_lt h.bb.lt))
  have HS := Lib.hid h1
  have HX := Lib.hid hx
  have h64 := h.ok.n64
  have HK := Lib.hid (And.intro hk (And.intro hk0 hk1))
  clear h h1 hx hb hf
  generalize hn : M.c.length = n at *
  have HN := Lib.hid hn
  clear hn hk0 hk1
  go_enter Try.func54, Try.ntmps54
  go_upto_region 1 with (fail)
  unfold evL at HC HB HS HX
  generalize w.alloc (Obj.cells #[.string x.e.q.n, .int .u16 (x.e.q.k : Nat), .int .u16 (x.e.q.c : Nat), .slice x.A x.e.l.length x.cap, .int .i64 x.e.rc, .int .i64 x.e.rk, .int .u64 (x.e.ex : Nat)] 39) = w1 at *
  go_wp2_with (go_at_call 34; (with_reducible (refine HC.out.mono ?_)); rintro e w2 ⟨rfl, rfl⟩)
  go_loopw [6, 9] (fun _ x wr => ∃ j : Nat, j ≤ k ∧ x = .int .i64 j ∧ wr = w2) (fun _ x _ => k + 1 - (intOf x).toNat)
  case atStart => exact ⟨0, Nat.zero_le _, rfl, rfl⟩
  case round =>
    obtain ⟨j, hj, rfl, rfl⟩ := hrel
    have d1 : decide ((j : Int) < n) = true := by simp; omega
    have hjn : j < M.c.length := by rw [HN.out]; omega
    have c0 := HS.out.c0
    rw [HN.out] at c0
    have e1 := HS.out.e1 hjn
    have s0 : (0 : Int) ≤ (j : Nat) := by omega
    have s1 : (j : Int) < (n : Nat) := by omega
    by_cases hjk : j = k
    · subst hjk
      rw [HK.out.2.1] at e1
      have b0 := HX.out.cell 0
      have b1 := HX.out.cell 1
      have b2 := HX.out.cell 2
      have b3 := HX.out.cell 3
      have b4 := HX.out.cell 4
      have b5 := HX.out.cell 5
      have b6 := HX.out.cell 6
      simp only [List.getElem?_toArray, List.getElem?_cons_zero, List.getElem?_cons_succ] at b0 b1 b2 b3 b4 b5 b6
      have hb1 : wr.heap.size ≥ b := Nat.le_of_lt HS.out.bb.lt
      have HD := Lib.hid (HS.out.keep (Below.refl _ wr).drew)
      have HB2 := Lib.hid (HB.out.trans (Fp.of (Below.refl _ wr).drew hb1))
      clear hb1
      go_upto_region 5 with (fail)
      go_still_tail 8, (by kernel_rfl)
      change wpList _ _ _ _ _ wr.drew
      generalize wr.drew = w3 at *
      clear c0 e1 b0 b1 b2 b3 b4 b5 b6
      go_wp2_with (refine wpList_store_mid rfl 108 _ _ rfl b (j * 9) (cf ⟨x, true, false⟩).toArray rfl rfl (HD.out.th hjn 0 9 (by omega)) infoS (cf_one _) ?_)
      have hf := HD.out.part hjn ⟨x, true, false⟩ 0 (cf ⟨x, true, false⟩) (by rw [cf_len1]; omega) (cf_all _ _)
      have HF := Lib.hid (And.intro hf.1 (HB2.out.trans hf.2))
      clear hf
      go_ret2
      exact ⟨rfl, HF.out⟩
    · rw [HK.out.2.2 j (by omega)] at e1
      go_wp2_with fail
      go_roundw
      case rel => exact ⟨j + 1, by omega, by go_num, by trivial⟩
      case measure => simp [intOf]; omega

/-- The hand goes on. -/
theorem Sp.hand {w : World} {g b : Nat} {M : Ms Ev} (h : Sp w g b M) : Sp (w.setCell ⟨g, 1, none⟩ (.int .i64 (nx M : Nat))) g b ⟨M.c, nx M⟩ :=
  ⟨h.gb, h.bg.set_ 1 _, h.bb.far _ _ (by have := h.gb; simp; omega), ⟨h.ok.n1, h.ok.n64, Nat.mod_lt _ (by have := h.ok.n1; show 0 < M.c.length; omega)⟩⟩
theorem stepM_free {α : Type} [Inhabited α] {M : Ms α} (h : us M.c M.h = false) : stepM M = ⟨M.c, nx M⟩ := by
  unfold stepM clrC
  rw [if_neg (by rw [show (M.c.getD M.h Z0).u = us M.c M.h from rfl, h]; decide), set_self]
theorem stepM_used {α : Type} [Inhabited α] {M : Ms α} (h : us M.c M.h = true) : stepM M = ⟨M.c.set M.h ⟨(M.c.getD M.h Z0).x, us M.c M.h, false⟩, nx M⟩ := by
  unfold stepM clrC
  rw [if_pos (by exact h), h]
set_option maxHeartbeats 1000000 in
theorem vic_any {w : World} {g b : Nat} {M : Ms Ev} (h : Sp w g b M) : Calls Try.prog 53 #[.pointer (some ⟨g, 0, none⟩)] w fun e w' => e = .returned (.tuple #[.int .i64 (vicI M), .bool (vicB M)]) ∧ Sp w' g b (vicM M).1 ∧ Fp g b w w' := by
  have HC := Lib.hid (len_any h)
  by_cases h0 : allM M = []
  · rw [h0] at HC
    have hv := vicM_none h.ok h0
    have ei : vicI M = 0 := by unfold vicI; rw [hv]
    have eb : vicB M = false := by unfold vicB; rw [hv]; rfl
    rw [ei, eb, hv]
    have HS := Lib.hid h
    clear h h0 hv ei eb
    go_enter Try.func53, Try.ntmps53
    go_wp2_with fail
    go_step3
    go_wp2_with (go_at_call 61; with_reducible (refine HC.out.mono ?_); rintro e w1 ⟨rfl, hb⟩; have HF := Lib.hid (And.intro (HS.out.keep hb) (Fp.of (g := g) hb (Nat.le_of_lt HS.out.bb.lt))); clear hb)
    try rw [Exit.noGoto_ret]
    go_ret2
    exact ⟨rfl, HF.out⟩
  · obtain ⟨v, hv⟩ := vicM_some h.ok h0
    have ei : vicI M = v := by unfold vicI; rw [hv]
    have eb : vicB M = true := by unfold vicB; rw [hv]; rfl
    rw [ei, eb]
    have hl : (allM M).length ≠ 0 := fun e => h0 (List.eq_nil_of_length_eq_zero e)
    generalize (allM M).length = l at *
    have n0 : ((l : Int) == 0) = false := by simp; omega
    have hv2 : vicM M = ((vicM M).1, some v) := by rw [← hv]
    have hfu : vicF (2 * M.c.length) M = ((vicM M).1, some v) := hv2
    generalize (vicM M).1 = N at *
    have HS := Lib.hid h
    have HV := Lib.hid hfu
    clear h h0 hv ei eb hl hv2 hfu
    go_enter Try.func53, Try.ntmps53
    go_wp2_with fail
    go_step3
    go_wp2_with (go_at_call 61; with_reducible (refine HC.out.mono ?_); rintro e w1 ⟨rfl, hb⟩; have HF := Lib.hid (And.intro (HS.out.keep hb) (Fp.of (g := g) hb (Nat.le_of_lt HS.out.bb.lt))); clear hb)
    go_step3
    go_wp2_with fail
    go_loopg [4] (2 * M.c.length) (fun k _ wr => ∃ M' : Ms Ev, Sp wr g b M' ∧ Fp g b w wr ∧ vicF k M' = (N, some v))
    case atStart => exact ⟨M, HF.out.1, HF.out.2, HV.out⟩
    case round =>
      clear HF HC HS HV
      obtain ⟨M', hS, hF, hk⟩ := hrel
      cases gk with
      | zero => simp [vicF] at hk
      | succ f =>
        unfold vicF at hk
        have HC := Lib.hid (step_any hS)
        have hS2 := hS.hand
        have hF2 := hF.trans (Fp.set wr 1 (.int .i64 (nx M' : Nat)) g (.inl rfl) hS.gb)
        have hkn := hS.ok.hn
        have h64 := hS.ok.n64
        have hok2 := stepM_ok hS.ok
        have hst2 := fun (e : us M'.c M'.h = true) => stepM_used e
        have hst1 := fun (e : us M'.c M'.h = false) => stepM_free e
        generalize wr.setCell ⟨g, 1, none⟩ (.int .i64 (nx M' : Nat)) = w2 at *
        generalize nx M' = nn at *
        have c0 := hS2.c0
        have e1 := hS2.e1 hkn
        have e2 := hS2.e2 hkn
        have f2 := hS2.bb.frozen (M'.h * 9 + 8)
        have s0 : (0 : Int) ≤ (M'.h : Nat) := by omega
        have s1 : (M'.h : Int) < (M'.c.length : Nat) := by omega
        have hst := cf_tou (M'.c.getD M'.h Z0) false
        simp only at c0 e1 e2
        cases hu : us M'.c M'.h with
        | false =>
          rw [hu] at e1
          rw [hu] at hk
          have hk2 : vicF f ⟨M'.c, nn⟩ = (N, some v) := by rw [← hst1 hu]; simpa using hk
          have HF := Lib.hid (show ∃ M'' : Ms Ev, Sp w2 g b M'' ∧ Fp g b w w2 ∧ vicF f M'' = (N, some v) from ⟨_, hS2, hF2, hk2⟩)
          clear hk hk2 hS2 hF2 hS hF hst hst1 hst2 hok2 hu e2 hkn
          generalize M'.h = hh at *
          generalize M'.c.length = n at *
          go_wp2_with (go_at_call 62; with_reducible (refine HC.out.mono ?_); rintro e w3 ⟨rfl, rfl⟩)
          go_roundg f
          case measure => omega
          case rel => exact HF.out
        | true =>
          rw [hu] at e1
          cases ht : ts M'.c M'.h with
          | true =>
            rw [ht] at e2
            rw [hu, ht] at hk
            have hk2 : vicF f (stepM M') = (N, some v) := by simpa using hk
            rw [hst2 hu] at hk2 hok2
            obtain ⟨hS3, hF3⟩ := hS2.one hkn ⟨(M'.c.getD M'.h Z0).x, us M'.c M'.h, false⟩ 8 (.bool false) (by omega) hst
            replace hF3 := hF2.trans hF3
            have HF := Lib.hid (show ∃ M'' : Ms Ev, Sp (w2.setCell ⟨b, M'.h * 9 + 8, none⟩ (.bool false)) g b M'' ∧ Fp g b w (w2.setCell ⟨b, M'.h * 9 + 8, none⟩ (.bool false)) ∧ vicF f M'' = (N, some v) from ⟨_, hS3, hF3, hk2⟩)
            clear hk hk2 hS2 hF2 hS hF hst hst1 hst2 hok2 hu ht hkn hS3 hF3
            generalize M'.h = hh at *
            generalize M'.c.length = n at *
            go_wp2_with (go_at_call 62; with_reducible (refine HC.out.mono ?_); rintro e w3 ⟨rfl, rfl⟩)
            go_roundg f
            case measure => omega
            case rel => exact HF.out
          | false =>
            rw [ht] at e2
            rw [hu, ht] at hk
            simp only [Bool.not_false, Bool.and_self, if_true, Prod.mk.injEq, Option.some.injEq] at hk
            obtain ⟨hk1, hk2⟩ := hk
            have HF := Lib.hid (And.intro (show Sp w2 g b N by rw [← hk1]; exact hS2) (And.intro hF2 hk2))
            clear hk1 hk2 hS2 hF2 hS hF hst hst1 hst2 hok2 hu ht hkn
            generalize M'.h = hh at *
            generalize M'.c.length = n at *
            go_wp2_with (go_at_call 62; with_reducible (refine HC.out.mono ?_); rintro e w3 ⟨rfl, rfl⟩)
            try rw [Exit.noGoto_ret]
            go_ret2
            exact ⟨by rw [HF.out.2.2]; rfl, HF.out.1, HF.out.2.1⟩
end Go.Proofs.Ytjjanogfcfapcaa

/- The map of places: questions to the numbers of their slots. -/
namespace Go.Proofs.Ytjjanogfcfapcaa
open Go.RowKit
open Go.Maps (Keyed IsMap Tidy)
set_option linter.unusedVariables false

structure Qu.Fine (q : Qu) : Prop where
  n : q.n.size ≤ maxLen
  k : q.k < 65536
  c : q.c < 65536
theorem laidQ : laidOutB Try.prog = true := by kernel_rfl
theorem rowQ : (35 : TypeId) < Try.prog.types.size := of_decide_eq_true (by kernel_rfl)
theorem deepQ : Try.prog.keyTypeAt 3 35 = true := by kernel_rfl
theorem law0 : WideMaps.KeyLaw Try.prog 35 := deep_law_laid laidQ (m := 3) (k := 35) (Nat.le_of_ble_eq_true rfl) rowQ deepQ (by rw [Try.underlying35])
theorem lawQ : Keyed Try.prog 35 := Keyed.of_law law0
theorem wf_u16 {k : Nat} (h : k < 65536) : (Lit.int .u16 (k : Nat)).wf = true := by
  simp [Lit.wf, IntKind.min, IntKind.max, IntKind.signed, IntKind.bits]
  omega
theorem keyTypeQ : Try.prog.keyType 35 = true := by kernel_rfl
theorem cellsQ : Try.prog.cellsOf 35 = 3 := by kernel_rfl
theorem cellsS : Try.prog.cellsOf 9 = 1 := by kernel_rfl
theorem cellsU : Try.prog.cellsOf 33 = 1 := by kernel_rfl
theorem key_q {q : Qu} (h : q.Fine) : ∃ l, keyOf Try.prog 35 (qV q) = some l := by
  obtain ⟨m, hm⟩ : ∃ m, Try.prog.types.size + 1 = m + 2 := ⟨Try.prog.types.size - 1, by
    have h0 : 0 < Try.prog.types.size := Nat.lt_of_le_of_lt (Nat.zero_le _) rowQ
    generalize Try.prog.types.size = z at *
    omega⟩
  have hf : (qV q).formed Try.prog 35 = true := by simp [Value.formed, qV, Try.underlying35, cellsQ]
  unfold keyOf
  rw [Try.underlying35]
  simp only [keyTypeQ, hf, Bool.and_self, if_true]
  rw [hm]
  simp only [Program.keyLits, Try.underlying35, qV, Value.cells, cellsQ]
  simp [cellsS, cellsU, Try.underlying9, Try.underlying33, wf_u16 h.k, wf_u16 h.c, h.n]
theorem qV_inj {a b : Qu} (h : qV a = qV b) : a = b := by
  obtain ⟨an, ak, ac⟩ := a
  obtain ⟨bn, bk, bc⟩ := b
  simp only [qV, Value.agg.injEq, Array.mk.injEq, List.cons.injEq, Value.string.injEq, Value.int.injEq, true_and, and_true] at h
  obtain ⟨rfl, h2, h3⟩ := h
  have e2 : ak = bk := by omega
  have e3 : ac = bc := by omega
  subst e2
  subst e3
  rfl
/-- The map's datum holds just the places that f tells. -/
structure Places (D : DataW Unit) (f : Qu → Option Nat) : Prop where
  tidy : Tidy D
  has : ∀ q l, keyOf Try.prog 35 (qV q) = some l → Maps.has D l = (f q).isSome
  at_ : ∀ q l z, keyOf Try.prog 35 (qV q) = some l → D.atKey l z = match f q with | some i => .lit (.int .i64 (i : Nat)) | none => z
theorem places_nil : Places (.map []) (fun _ => none) := ⟨Maps.tidy_empty, fun _ _ _ => rfl, fun _ _ _ _ => rfl⟩
theorem lit_apart {a b : Qu} {la lb : Lit} (ha : keyOf Try.prog 35 (qV a) = some la) (hb : keyOf Try.prog 35 (qV b) = some lb) (h : a ≠ b) : la ≠ lb := fun e => h (qV_inj (lawQ.inj ha (by rw [e]; exact hb)))
theorem Places.put {D : DataW Unit} {f : Qu → Option Nat} (h : Places D f) {q : Qu} {l : Lit} (hq : keyOf Try.prog 35 (qV q) = some l) (i : Nat) : Places (D.put l (.lit (.int .i64 (i : Nat)))) (fun x => if x = q then some i else f x) := by
  have hl := lawQ.key hq
  refine ⟨h.tidy.put hl _, fun x lx hx => ?_, fun x lx z hx => ?_⟩
  · by_cases e : x = q
    · subst e
      rw [hq] at hx
      cases hx
      rw [if_pos rfl, Maps.has_put_same h.tidy.isMap hl]
      rfl
    · rw [if_neg e, Maps.has_put_other (lit_apart hx hq e), h.has x lx hx]
  · by_cases e : x = q
    · subst e
      rw [hq] at hx
      cases hx
      rw [if_pos rfl, Maps.atKey_put_same h.tidy.isMap hl]
    · rw [if_neg e, Maps.atKey_put_other (lit_apart hx hq e), h.at_ x lx z hx]
theorem Places.del {D : DataW Unit} {f : Qu → Option Nat} (h : Places D f) {q : Qu} {l : Lit} (hq : keyOf Try.prog 35 (qV q) = some l) : Places (D.del l) (fun x => if x = q then none else f x) := by
  refine ⟨h.tidy.del _, fun x lx hx => ?_, fun x lx z hx => ?_⟩
  · by_cases e : x = q
    · subst e
      rw [hq] at hx
      cases hx
      rw [if_pos rfl, Maps.has_del_same]
      rfl
    · rw [if_neg e, Maps.has_del_other (lit_apart hx hq e), h.has x lx hx]
  · by_cases e : x = q
    · subst e
      rw [hq] at hx
      cases hx
      rw [if_pos rfl, Maps.atKey_del_same]
    · rw [if_neg e, Maps.atKey_del_other (lit_apart hx hq e), h.at_ x lx z hx]
theorem Places.congr {D : DataW Unit} {f f' : Qu → Option Nat} (h : Places D f) (e : ∀ q, f q = f' q) : Places D f' := by rw [← show f = f' from funext e]; exact h
/-- Block b is the map of N places. -/
def Pm (w : World) (b N : Nat) (f : Qu → Option Nat) : Prop := ∃ D : DataW Unit, w.ownsMap Try.prog 35 (plainElem Try.prog 3) b N D ∧ Places D f ∧ Maps.size D = N
section
variable {w w' : World} {b N : Nat} {f f' : Qu → Option Nat}
theorem pm_made (w : World) : Pm (w.alloc (.map #[] 0)) w.heap.size 0 (fun _ => none) := ⟨_, World.ownsMap_made w _ _ _, places_nil, rfl⟩
theorem Pm.lt (h : Pm w b N f) : b < w.heap.size := let ⟨_, o, _⟩ := h; o.lt
theorem Pm.block (h : Pm w b N f) (hb : w'.heap[b]? = w.heap[b]?) : Pm w' b N f := let ⟨D, ⟨es, c, h0, h1⟩, t⟩ := h; ⟨D, ⟨es, c, hb.trans h0, h1⟩, t⟩
theorem Pm.congr (h : Pm w b N f) (e : ∀ q, f q = f' q) : Pm w b N f' := let ⟨D, h0, t, s⟩ := h; ⟨D, h0, t.congr e, s⟩
/-- A block of cells is no map. -/
theorem Pm.no_cell (h : Pm w b N f) {k i : Nat} {v : Value} (hc : w.cell? ⟨k, i, none⟩ = some v) : k ≠ b := fun e => by
  obtain ⟨_, ⟨es, c, h0, _⟩, _⟩ := h
  rw [e] at hc
  simp [World.cell?, h0] at hc
theorem zeroI (w : World) : (zeroValue 3).run Try.prog w = .ok (.int .i64 0) w := by kernel_rfl
theorem Pm.look (h : Pm w b N f) {q : Qu} (hq : q.Fine) : (Instr.lookup 69 (.map (some b)) (qV q) true).run Try.prog w = .ok (.tuple #[.int .i64 (((f q).getD 0 : Nat) : Int), .bool (f q).isSome]) w := by
  obtain ⟨D, h0, T, _⟩ := h
  obtain ⟨l, hl⟩ := key_q hq
  obtain ⟨v, ps, h1, h2⟩ := h0.look_ok lawQ Try.underlying69 (zeroI w) (plainElem_int Try.underlying3 (by decide)) hl
  obtain ⟨c, rfl, hc, hwc⟩ := plainElem_int_inv Try.underlying3 h2
  have hc1 := congrArg Prod.fst hc
  simp only at hc1
  rw [T.at_ q l _ hl] at hc1
  rw [h1, T.has q l hl]
  cases hf : f q with
  | none => rw [hf] at hc1; cases hc1; rfl
  | some i => rw [hf] at hc1; cases hc1; rfl
end
section
variable {ops : Array Oper} {rest : List Oper} {o : Oper} {a : Act} {Q : Exit → Act → World → Prop} {w : World} {b N : Nat} {f : Qu → Option Nat}
theorem tight {w' : World} {N' : Nat} {D : DataW Unit} {f' : Qu → Option Nat} (h : w'.ownsMap Try.prog 35 (plainElem Try.prog 3) b N' D) (T : Places D f') : Pm w' b (Maps.size D) f' := by
  obtain ⟨es, c, h0, F, hs, hD⟩ := h
  refine ⟨D, ⟨es, c, h0, F, ?_, hD⟩, T, rfl⟩
  rw [hD, Maps.size_eq, length_read]
  exact Nat.le_refl _
theorem wpList_pm_put (hg : o.guard = none) (m x v : Operand) (hop : o.op = Op.mapUpdate 69 m x v) (q : Qu) (hq : q.Fine) (i : Nat) (hi : i < 1000) (hm : a.eval m = .map (some b)) (hI : Pm w b N f) (hn : N < 1000) (hx : a.eval x = qV q) (hv : a.eval v = .int .i64 (i : Nat))
    (hK : ∀ w', Pm w' b (if (f q).isSome then N else N + 1) (fun x => if x = q then some i else f x) → w.mapTurned w' b → wpList Try.prog ops Q rest (a.put o.dst undef) w') : wpList Try.prog ops Q (o :: rest) a w := by
  obtain ⟨D, h0, T, hs⟩ := hI
  obtain ⟨l, hl⟩ := key_q hq
  refine wpList_mapUpdate_in w hg m x v _ hop _ _ lawQ Try.underlying69 (plainElem Try.prog 3) b N D hm h0 (by unfold maxLen; omega) _ _ _ hx hv hl _ _ (plainElem_int Try.underlying3 (by simp [Lit.wf, IntKind.min, IntKind.max, IntKind.signed, IntKind.bits]; omega)) fun w' h1 h2 => hK w' ?_ h2
  have h3 := tight h1 (T.put hl i)
  rw [Maps.size_put T.tidy, T.has q l hl, hs] at h3
  exact h3
theorem wpList_pm_del (hg : o.guard = none) (m x : Operand) (hop : o.op = Op.call { callee := Callee.builtin Builtin.delete, args := #[m, x], argTypes := #[69, 35] }) (q : Qu) (hq : q.Fine) (hm : a.eval m = .map (some b)) (hI : Pm w b N f) (hx : a.eval x = qV q)
    (hK : ∀ w', Pm w' b (if (f q).isSome then N - 1 else N) (fun x => if x = q then none else f x) → w.mapTurned w' b → wpList Try.prog ops Q rest (a.put o.dst (.tuple #[])) w') : wpList Try.prog ops Q (o :: rest) a w := by
  obtain ⟨D, h0, T, hs⟩ := hI
  obtain ⟨l, hl⟩ := key_q hq
  refine wpList_delete_own w hg m x _ _ hop _ lawQ Try.underlying69 (plainElem Try.prog 3) b N D hm h0 _ _ hx hl fun w' h1 h2 => hK w' ?_ h2
  have h3 := tight h1 (T.del hl)
  have a1 := Maps.size_del (k := l) T.tidy
  rw [T.has q l hl, hs] at a1
  have e : Maps.size (D.del l) = if (f q).isSome then N - 1 else N := by
    split
    · rename_i h4; rw [if_pos h4] at a1; omega
    · rename_i h4; rw [if_neg h4] at a1; omega
  rw [e] at h3
  exact h3
end
end Go.Proofs.Ytjjanogfcfapcaa
