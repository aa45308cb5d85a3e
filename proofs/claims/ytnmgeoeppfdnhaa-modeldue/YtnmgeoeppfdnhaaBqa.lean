/- Joined texts: Vma Vsl Vmb Vmc Vsb Vsc Vmp Vck Vpa Vpd Vpe Lsv Vph. -/
import Derived.Test.YtnmgeoeppfdnhaaRows
import Derived.WalkKit
import Derived.WalkSpells
import Derived.WalkLawsBesides
import Derived.Lib.Hide
import Derived.Deep.QuietTactic
import Derived.BigQuiet
import Derived.Laws.IdiomStrings
import Derived.Deep.Draws
import Derived.OpenShut
import Derived.Lib.AppendZeros
import Derived.Laws.AppendOwnNone
import Derived.Lib.SliceRun
import Derived.Lib.Walk
import Derived.Deep.RegionLaw
import Derived.Deep.RegionWith
import Derived.Laws.OwnMore
import Derived.Laws.ResultCell
import Derived.RegionTactic
import Derived.Deep.DeepCutAuto
import Derived.Below
import Derived.Laws.Rows
import Derived.Test.YtnmgeoeppfdnhaaBqw
import Derived.Deep.MidRow
import Derived.StillTailTactics
import Derived.Laws.Tables
import Derived.DeepKeys4
import Derived.Maps.OwnSet
import Derived.Maps.RangeWalk
import Derived.Deep.RegionHeld3
import Derived.Deep.CutBlock
import Derived.BigRegion
import Derived.ProofKit
import Derived.ShutString
import Derived.ChangeOld
import Derived.SizedLaws
import Derived.Deep.Slices
import Derived.Deep.SlicePairs
import Derived.Carry

/- Slots of things of any kind, in plain mathematics: what each deed makes of them, the way of the hand, and the queue of the slots that are used. -/
namespace Go.Proofs.Ytnmgeoeppfdnhaa
set_option linter.unusedVariables false

/-- A slot. -/
structure Ce (α : Type) where
  x : α
  u : Bool
  t : Bool
/-- All slots, and the hand. -/
structure Ms (α : Type) where
  c : List (Ce α)
  h : Nat
structure Ms.Ok {α : Type} (M : Ms α) : Prop where
  n1 : 1 ≤ M.c.length
  n64 : M.c.length ≤ 64
  hn : M.h < M.c.length
section
variable {α : Type}
def upd (M : Ms α) (i : Int) (e : Ce α) : Ms α := ⟨M.c.set i.toNat e, M.h⟩
def firstC (c : List (Ce α)) : Option Nat := c.findIdx? fun e => !e.u
def putM (M : Ms α) (x : α) : Ms α × Int × Int :=
  match firstC M.c with
  | some i => (⟨M.c.set i ⟨x, true, false⟩, M.h⟩, i, 0)
  | none => (M, 0, 5)
theorem upd_ok {M : Ms α} (h : M.Ok) (i : Int) (e : Ce α) : (upd M i e).Ok := ⟨by simpa [upd] using h.n1, by simpa [upd] using h.n64, by simpa [upd] using h.hn⟩
theorem putM_ok {M : Ms α} (h : M.Ok) (x : α) : (putM M x).1.Ok := by
  unfold putM
  split
  · exact ⟨by simpa using h.n1, by simpa using h.n64, by simpa using h.hn⟩
  · exact h
theorem putM_len (M : Ms α) (x : α) : (putM M x).1.c.length = M.c.length := by unfold putM; split <;> simp
end
variable {α : Type} [Inhabited α]
def Z0 : Ce α := ⟨default, false, false⟩
def us (c : List (Ce α)) (j : Nat) : Bool := (c.getD j Z0).u
def ts (c : List (Ce α)) (j : Nat) : Bool := (c.getD j Z0).t
/-- Which have something. -/
def allC (c : List (Ce α)) (k : Nat) : List Nat := (List.range k).filter (us c)
def allM (M : Ms α) : List Nat := allC M.c M.c.length
def hasM (M : Ms α) (i : Int) : Bool := decide (0 ≤ i ∧ i < M.c.length) && us M.c i.toNat
def atM (M : Ms α) (i : Int) : Ce α := M.c.getD i.toNat Z0
def getM (M : Ms α) (i : Int) : α × Bool := if hasM M i then ((atM M i).x, true) else (default, false)
def setM (M : Ms α) (i : Int) (x : α) : Ms α := if hasM M i then upd M i ⟨x, true, (atM M i).t⟩ else M
def touM (M : Ms α) (i : Int) : Ms α := if hasM M i then upd M i ⟨(atM M i).x, true, true⟩ else M
def freM (M : Ms α) (i : Int) : Ms α := if hasM M i then upd M i Z0 else M
def nx (M : Ms α) : Nat := (M.h + 1) % M.c.length
def clrC (e : Ce α) : Ce α := if e.u then ⟨e.x, true, false⟩ else e
def stepM (M : Ms α) : Ms α := ⟨M.c.set M.h (clrC (M.c.getD M.h Z0)), nx M⟩
def vicF : Nat → Ms α → Ms α × Option Nat
  | 0, M => (M, none)
  | f + 1, M => if us M.c M.h && !ts M.c M.h then (⟨M.c, nx M⟩, some M.h) else vicF f (stepM M)
def vicM (M : Ms α) : Ms α × Option Nat := vicF (2 * M.c.length) M
def vicI (M : Ms α) : Int := match (vicM M).2 with | some i => i | none => 0
def vicB (M : Ms α) : Bool := (vicM M).2.isSome
def newM (n : Nat) : Ms α := ⟨List.replicate n Z0, 0⟩

theorem newM_ok (α : Type) [Inhabited α] {n : Nat} (h1 : 1 ≤ n) (h2 : n ≤ 64) : (newM n : Ms α).Ok := ⟨by simpa [newM] using h1, by simpa [newM] using h2, by simp [newM]; omega⟩
theorem getD_set (c : List (Ce α)) (i j : Nat) (e : Ce α) (hi : i < c.length) : (c.set i e).getD j Z0 = if i = j then e else c.getD j Z0 := by
  simp only [List.getD_eq_getElem?_getD, List.getElem?_set]
  split
  · subst_vars; simp
  · rfl
theorem set_self (c : List (Ce α)) (i : Nat) : c.set i (c.getD i Z0) = c := by
  apply List.ext_getElem?
  intro j
  rw [List.getElem?_set]
  split
  · subst_vars
    split
    · simp [*]
    · simp; omega
  · rfl
theorem has_of {M : Ms α} {i : Int} (h : hasM M i = true) : ∃ k : Nat, i = k ∧ k < M.c.length ∧ us M.c k = true := by
  unfold hasM at h
  simp only [Bool.and_eq_true, decide_eq_true_eq] at h
  exact ⟨i.toNat, by omega, by omega, h.2⟩
theorem has_nat {M : Ms α} {k : Nat} (h : k < M.c.length) : hasM M k = us M.c k := by
  unfold hasM
  rw [decide_eq_true (by omega)]
  simp
theorem stepM_len (M : Ms α) : (stepM M).c.length = M.c.length := by simp [stepM]
theorem stepM_ok {M : Ms α} (h : M.Ok) : (stepM M).Ok := ⟨by rw [stepM_len]; exact h.n1, by rw [stepM_len]; exact h.n64, by rw [stepM_len]; exact Nat.mod_lt _ (by have := h.n1; omega)⟩
theorem us_step {M : Ms α} (h : M.h < M.c.length) (j : Nat) : us (stepM M).c j = us M.c j := by
  unfold us stepM
  rw [getD_set _ _ _ _ h]
  split
  · subst_vars
    unfold clrC
    split
    · rename_i h1; exact h1.symm
    · rfl
  · rfl
theorem ts_step {M : Ms α} (h : M.h < M.c.length) (j : Nat) : ts (stepM M).c j = true → ts M.c j = true := by
  unfold ts stepM
  rw [getD_set _ _ _ _ h]
  split
  · subst_vars
    unfold clrC
    split
    · simp
    · exact id
  · exact id
theorem xs_step {M : Ms α} (h : M.h < M.c.length) (j : Nat) : ((stepM M).c.getD j Z0).x = (M.c.getD j Z0).x := by
  unfold stepM
  rw [getD_set _ _ _ _ h]
  split
  · subst_vars
    unfold clrC
    split <;> rfl
  · rfl
theorem vicF_keeps : ∀ (f : Nat) (M : Ms α), M.Ok → (vicF f M).1.Ok ∧ (vicF f M).1.c.length = M.c.length ∧ (∀ j, us (vicF f M).1.c j = us M.c j) ∧ (∀ j, ts (vicF f M).1.c j = true → ts M.c j = true) ∧ ∀ j, ((vicF f M).1.c.getD j Z0).x = (M.c.getD j Z0).x
  | 0, M, h => ⟨h, rfl, fun _ => rfl, fun _ => id, fun _ => rfl⟩
  | f + 1, M, h => by
    unfold vicF
    split
    · exact ⟨⟨h.n1, h.n64, Nat.mod_lt _ (by have := h.n1; omega)⟩, rfl, fun _ => rfl, fun _ => id, fun _ => rfl⟩
    · obtain ⟨a, b, c, d, e⟩ := vicF_keeps f (stepM M) (stepM_ok h)
      exact ⟨a, b.trans (stepM_len M), fun j => (c j).trans (us_step h.hn j), fun j hj => ts_step h.hn j (d j hj), fun j => (e j).trans (xs_step h.hn j)⟩
theorem allC_congr {c c' : List (Ce α)} (h : ∀ j, us c' j = us c j) (k : Nat) : allC c' k = allC c k := by
  unfold allC
  rw [show us c' = us c from funext h]
theorem vicM_ok {M : Ms α} (h : M.Ok) : (vicM M).1.Ok := (vicF_keeps _ M h).1
theorem vicM_len {M : Ms α} (h : M.Ok) : (vicM M).1.c.length = M.c.length := (vicF_keeps _ M h).2.1
theorem vicM_us {M : Ms α} (h : M.Ok) (j : Nat) : us (vicM M).1.c j = us M.c j := (vicF_keeps _ M h).2.2.1 j
theorem vicM_ts {M : Ms α} (h : M.Ok) (j : Nat) (h2 : ts (vicM M).1.c j = true) : ts M.c j = true := (vicF_keeps _ M h).2.2.2.1 j h2
theorem vicM_xs {M : Ms α} (h : M.Ok) (j : Nat) : ((vicM M).1.c.getD j Z0).x = (M.c.getD j Z0).x := (vicF_keeps _ M h).2.2.2.2 j
theorem vicM_all {M : Ms α} (h : M.Ok) : allM (vicM M).1 = allM M := by
  unfold allM
  rw [vicM_len h]
  exact allC_congr (vicM_us h) _

/-- The queue of all slots, from the hand on. -/
structure Qe where
  i : Nat
  u : Bool
  t : Bool
def clrQ (e : Qe) : Qe := if e.u then ⟨e.i, true, false⟩ else e
def vicQ : Nat → List Qe → List Qe × Option Nat
  | 0, q => (q, none)
  | _ + 1, [] => ([], none)
  | f + 1, e :: q => if e.u && !e.t then (q ++ [e], some e.i) else vicQ f (q ++ [clrQ e])
theorem vicQ_cons (f : Nat) (e : Qe) (q : List Qe) : vicQ (f + 1) (e :: q) = if e.u && !e.t then (q ++ [e], some e.i) else vicQ f (q ++ [clrQ e]) := rfl
def toQ (c : List (Ce α)) : List Qe := (List.range c.length).map fun i => ⟨i, us c i, ts c i⟩
def rotQ (M : Ms α) : List Qe := (toQ M.c).drop M.h ++ (toQ M.c).take M.h
theorem toQ_len (c : List (Ce α)) : (toQ c).length = c.length := by simp [toQ]
theorem toQ_at (c : List (Ce α)) (i : Nat) (h : i < c.length) : (toQ c)[i]'(by rw [toQ_len]; exact h) = ⟨i, us c i, ts c i⟩ := by simp [toQ]
theorem toQ_set (c : List (Ce α)) (i : Nat) (e : Ce α) (h : i < c.length) : toQ (c.set i e) = (toQ c).set i ⟨i, e.u, e.t⟩ := by
  apply List.ext_getElem
  · simp [toQ]
  intro j h1 h2
  rw [toQ_len, List.length_set] at h1
  rw [toQ_at _ _ (by simpa using h1), List.getElem_set]
  unfold us ts
  rw [getD_set _ _ _ _ h]
  split
  · subst_vars; rfl
  · rw [toQ_at _ _ h1]; rfl
theorem rot_head {M : Ms α} (h : M.h < M.c.length) : rotQ M = ⟨M.h, us M.c M.h, ts M.c M.h⟩ :: ((toQ M.c).drop (M.h + 1) ++ (toQ M.c).take M.h) := by
  unfold rotQ
  rw [List.drop_eq_getElem_cons (by rw [toQ_len]; exact h), toQ_at _ _ h]
  rfl
theorem rot_turn {c : List (Ce α)} {k : Nat} (h : k < c.length) (e : Ce α) : rotQ ⟨c.set k e, (k + 1) % c.length⟩ = (toQ c).drop (k + 1) ++ (toQ c).take k ++ [⟨k, e.u, e.t⟩] := by
  unfold rotQ
  simp only
  rw [toQ_set c k e h]
  by_cases h1 : k + 1 < c.length
  · rw [Nat.mod_eq_of_lt h1, List.drop_set_of_lt (by omega), List.take_add_one, List.getElem?_set_self (by rw [toQ_len]; exact h), List.take_set_of_le (by omega)]
    simp
  · have h2 : k + 1 = c.length := by omega
    rw [h2, Nat.mod_self, List.drop_zero, List.take_zero, List.append_nil, List.drop_of_length_le (by rw [toQ_len]; omega), List.nil_append]
    have h3 : (toQ c).set k ⟨k, e.u, e.t⟩ = ((toQ c).set k ⟨k, e.u, e.t⟩).take (k + 1) := by rw [List.take_of_length_le (by rw [List.length_set, toQ_len]; omega)]
    rw [h3, List.take_add_one, List.getElem?_set_self (by rw [toQ_len]; exact h), List.take_set_of_le (by omega)]
    simp
theorem rot_step {M : Ms α} (h : M.h < M.c.length) : rotQ (stepM M) = (toQ M.c).drop (M.h + 1) ++ (toQ M.c).take M.h ++ [clrQ ⟨M.h, us M.c M.h, ts M.c M.h⟩] := by
  unfold stepM nx
  rw [rot_turn h]
  congr 2
  unfold clrC clrQ us ts
  split <;> rfl
theorem rot_vic {M : Ms α} (h : M.h < M.c.length) : rotQ ⟨M.c, nx M⟩ = (toQ M.c).drop (M.h + 1) ++ (toQ M.c).take M.h ++ [⟨M.h, us M.c M.h, ts M.c M.h⟩] := by
  have := rot_turn h (M.c.getD M.h Z0)
  rw [set_self] at this
  exact this
theorem vic_rot : ∀ (f : Nat) (M : Ms α), M.Ok → vicQ f (rotQ M) = (rotQ (vicF f M).1, (vicF f M).2)
  | 0, M, h => rfl
  | f + 1, M, h => by
    rw [rot_head h.hn]
    unfold vicQ vicF
    simp only
    split
    · rw [rot_vic h.hn]
    · rw [← rot_step h.hn]
      exact vic_rot f _ (stepM_ok h)
def Quiet (q : List Qe) : Prop := ∀ e ∈ q, e.u = true → e.t = false
def fQ (q : List Qe) : List Nat := (q.filter (·.u)).map (·.i)
theorem fQ_append (a b : List Qe) : fQ (a ++ b) = fQ a ++ fQ b := by simp [fQ]
theorem clrQ_u (e : Qe) : (clrQ e).u = e.u := by unfold clrQ; split <;> simp [*]
theorem clrQ_i (e : Qe) : (clrQ e).i = e.i := by unfold clrQ; split <;> simp [*]
theorem clrQ_quiet (e : Qe) : (clrQ e).u = true → (clrQ e).t = false := by
  unfold clrQ
  split
  · exact fun _ => rfl
  · intro h; contradiction
theorem Quiet.snoc {q : List Qe} (h : Quiet q) {e : Qe} (he : e.u = true → e.t = false) : Quiet (q ++ [e]) := fun a ha => by
  rcases List.mem_append.1 ha with ha | ha
  · exact h a ha
  · rw [List.mem_singleton] at ha; subst ha; exact he
theorem quiet_vic : ∀ (f : Nat) (q : List Qe), Quiet q → Quiet (vicQ f q).1
  | 0, q, h => h
  | f + 1, [], h => h
  | f + 1, e :: q, h => by
    have hq : Quiet q := fun a ha => h a (List.mem_cons_of_mem _ ha)
    unfold vicQ
    split
    · exact hq.snoc (h e (List.mem_cons_self ..))
    · exact quiet_vic f _ (hq.snoc (clrQ_quiet e))
theorem phase1 : ∀ (f : Nat) (A B : List Qe) (k v : Nat), Quiet B → (fQ A).length ≤ k + 1 → (vicQ f (A ++ B)).2 = some v → ∃ A' B', (vicQ f (A ++ B)).1 = A' ++ B' ∧ Quiet B' ∧ (fQ A').length ≤ k
  | f, [], B, k, v, hB, _, _ => ⟨[], _, rfl, quiet_vic f _ hB, Nat.zero_le _⟩
  | 0, A, B, k, v, _, _, hv => by simp [vicQ] at hv
  | f + 1, e :: A, B, k, v, hB, hk, hv => by
    rw [List.cons_append] at hv ⊢
    rw [vicQ_cons] at hv ⊢
    split at hv
    · rename_i h
      rw [if_pos h]
      simp only [Bool.and_eq_true, Bool.not_eq_true'] at h
      refine ⟨A, B ++ [e], by simp, hB.snoc (fun _ => h.2), ?_⟩
      simp [fQ, h.1] at hk ⊢
      omega
    · rename_i h
      rw [if_neg h, List.append_assoc]
      rw [List.append_assoc] at hv
      refine phase1 f A _ k v (hB.snoc (clrQ_quiet e)) ?_ hv
      refine Nat.le_trans ?_ hk
      simp only [fQ, List.filter_cons]
      split <;> simp
theorem phase2 : ∀ (f : Nat) (q : List Qe) (x v : Nat) (T : List Nat), Quiet q → fQ q = x :: T → (vicQ f q).2 = some v → v = x ∧ fQ (vicQ f q).1 = T ++ [x]
  | 0, q, x, v, T, _, _, hv => by simp [vicQ] at hv
  | f + 1, [], x, v, T, _, hF, _ => by simp [fQ] at hF
  | f + 1, e :: q, x, v, T, h, hF, hv => by
    have hq : Quiet q := fun a ha => h a (List.mem_cons_of_mem _ ha)
    rw [vicQ_cons] at hv ⊢
    cases hu : e.u with
    | true =>
      have ht := h e (List.mem_cons_self ..) hu
      rw [hu, ht] at hv
      simp only [Bool.not_false, Bool.and_self, if_true, Option.some.injEq] at hv ⊢
      simp only [fQ, List.filter_cons, hu, if_true, List.map_cons, List.cons.injEq] at hF
      rw [ht]
      simp only [Bool.not_false, Bool.and_self, if_true]
      refine ⟨by rw [← hv, hF.1], ?_⟩
      rw [fQ_append, show fQ q = T from hF.2]
      simp [fQ, hu, hF.1]
    | false =>
      rw [hu] at hv
      simp only [Bool.false_and, Bool.false_eq_true, if_false] at hv ⊢
      refine phase2 f _ x v T (hq.snoc (clrQ_quiet e)) ?_ hv
      have hc := clrQ_u e
      rw [hu] at hc
      rw [fQ_append]
      simp only [fQ, List.filter_cons, hu, hc, List.filter_nil, List.map_nil, List.append_nil, Bool.false_eq_true, if_false] at hF ⊢
      exact hF
theorem phase3 : ∀ (A : List Qe) (f : Nat) (e : Qe) (B : List Qe), e.u = true → e.t = false → A.length < f → ∃ e' ∈ A ++ [e], e'.u = true ∧ e'.t = false ∧ (vicQ f (A ++ e :: B)).2 = some e'.i
  | [], f + 1, e, B, hu, ht, _ => ⟨e, by simp, hu, ht, by simp [vicQ, hu, ht]⟩
  | [], 0, e, B, _, _, hf => absurd hf (by simp)
  | a :: A, 0, e, B, _, _, hf => absurd hf (by simp)
  | a :: A, f + 1, e, B, hu, ht, hf => by
    rw [List.cons_append, List.cons_append, vicQ_cons]
    split
    · rename_i h
      simp only [Bool.and_eq_true, Bool.not_eq_true'] at h
      exact ⟨a, by simp, h.1, h.2, rfl⟩
    · rw [List.append_assoc, List.cons_append]
      obtain ⟨e', h1, h2⟩ := phase3 A f e (B ++ [clrQ a]) hu ht (by simpa using hf)
      exact ⟨e', List.mem_cons_of_mem _ h1, h2⟩
theorem phase4 : ∀ (A : List Qe) (f : Nat) (e : Qe) (B : List Qe), e.u = true → A.length + A.length + B.length + 1 < f → ∃ v, (vicQ f (A ++ e :: B)).2 = some v
  | [], f + 1, e, B, hu, hf => by
    rw [List.nil_append]
    rw [vicQ_cons]
    split
    · exact ⟨_, rfl⟩
    · obtain ⟨e', _, _, _, h⟩ := phase3 B f (clrQ e) [] (by rw [clrQ_u]; exact hu) (clrQ_quiet e (by rw [clrQ_u]; exact hu)) (by simp at hf; omega)
      exact ⟨_, h⟩
  | [], 0, e, B, _, hf => absurd hf (by simp)
  | a :: A, 0, e, B, _, hf => absurd hf (by simp)
  | a :: A, f + 1, e, B, hu, hf => by
    rw [List.cons_append]
    rw [vicQ_cons]
    split
    · exact ⟨_, rfl⟩
    · rw [List.append_assoc, List.cons_append]
      exact phase4 A f e (B ++ [clrQ a]) hu (by simp at hf ⊢; omega)
theorem fQ_toQ (c : List (Ce α)) : fQ (toQ c) = allC c c.length := by
  unfold fQ toQ allC
  rw [List.filter_map, List.map_map]
  have : (fun (x : Qe) => x.i) ∘ (fun i => (⟨i, us c i, ts c i⟩ : Qe)) = id := rfl
  rw [this, List.map_id]
  rfl
/-- The queue has what 'allM' has, turned. -/
theorem fQ_rot (M : Ms α) : ∃ A B, allM M = A ++ B ∧ fQ (rotQ M) = B ++ A := by
  refine ⟨fQ ((toQ M.c).take M.h), fQ ((toQ M.c).drop M.h), ?_, by unfold rotQ; rw [fQ_append]⟩
  rw [← fQ_append, List.take_append_drop, fQ_toQ]
  rfl
theorem mem_rot {M : Ms α} {e : Qe} (h : e ∈ rotQ M) : e.i < M.c.length ∧ e.u = us M.c e.i ∧ e.t = ts M.c e.i := by
  have : e ∈ toQ M.c := by
    unfold rotQ at h
    rcases List.mem_append.1 h with h | h
    · exact List.mem_of_mem_drop h
    · exact List.mem_of_mem_take h
  unfold toQ at this
  obtain ⟨i, hi, rfl⟩ := List.mem_map.1 this
  exact ⟨List.mem_range.1 hi, rfl, rfl⟩
theorem rot_mem {M : Ms α} {j : Nat} (h : j < M.c.length) : (⟨j, us M.c j, ts M.c j⟩ : Qe) ∈ rotQ M := by
  have h1 : (⟨j, us M.c j, ts M.c j⟩ : Qe) ∈ toQ M.c := List.mem_map.2 ⟨j, List.mem_range.2 h, rfl⟩
  unfold rotQ
  rw [← List.take_append_drop M.h (toQ M.c)] at h1
  rcases List.mem_append.1 h1 with h | h
  · exact List.mem_append_right _ h
  · exact List.mem_append_left _ h
theorem rot_len (M : Ms α) : (rotQ M).length = M.c.length := by
  unfold rotQ
  rw [List.length_append, Nat.add_comm, ← List.length_append, List.take_append_drop, toQ_len]
theorem all_mem {M : Ms α} {j : Nat} : j ∈ allM M ↔ j < M.c.length ∧ us M.c j = true := by
  unfold allM allC
  rw [List.mem_filter, List.mem_range]
theorem vicM_some {M : Ms α} (h : M.Ok) (hne : allM M ≠ []) : ∃ v, (vicM M).2 = some v := by
  obtain ⟨j, hj⟩ := List.exists_mem_of_ne_nil _ hne
  obtain ⟨h1, h2⟩ := all_mem.1 hj
  obtain ⟨A, B, hAB⟩ := List.append_of_mem (rot_mem h1)
  have hl := rot_len M
  rw [hAB, List.length_append, List.length_cons] at hl
  have h3 := vic_rot (2 * M.c.length) M h
  obtain ⟨v, hv⟩ := phase4 A (2 * M.c.length) ⟨j, us M.c j, ts M.c j⟩ B h2 (by omega)
  rw [hAB] at h3
  rw [h3] at hv
  exact ⟨v, hv⟩
/-- Who is told has something. -/
theorem vicF_mem : ∀ (f : Nat) (M : Ms α) (v : Nat), M.Ok → (vicF f M).2 = some v → v < M.c.length ∧ us M.c v = true
  | 0, M, v, _, hv => by simp [vicF] at hv
  | f + 1, M, v, h, hv => by
    unfold vicF at hv
    split at hv
    · rename_i h1
      simp only [Bool.and_eq_true] at h1
      simp only [Option.some.injEq] at hv
      subst hv
      exact ⟨h.hn, h1.1⟩
    · obtain ⟨h1, h2⟩ := vicF_mem f (stepM M) v (stepM_ok h) hv
      rw [stepM_len] at h1
      rw [us_step h.hn] at h2
      exact ⟨h1, h2⟩
theorem vicM_mem {M : Ms α} (h : M.Ok) {v : Nat} (hv : (vicM M).2 = some v) : v ∈ allM M := all_mem.2 (vicF_mem _ M v h hv)
theorem vicF_none : ∀ (f : Nat) (M : Ms α), M.Ok → allM M = [] → vicF f M = (⟨M.c, (M.h + f) % M.c.length⟩, none)
  | 0, M, h, _ => by unfold vicF; rw [Nat.add_zero, Nat.mod_eq_of_lt h.hn]
  | f + 1, M, h, h0 => by
    have hu : us M.c M.h = false := by
      cases e : us M.c M.h with
      | false => rfl
      | true =>
        have := all_mem.2 ⟨h.hn, e⟩
        rw [h0] at this
        cases this
    have hs : stepM M = ⟨M.c, nx M⟩ := by
      unfold stepM clrC
      rw [if_neg (by rw [show (M.c.getD M.h Z0).u = us M.c M.h from rfl, hu]; decide), set_self]
    have hOk := stepM_ok h
    rw [hs] at hOk
    unfold vicF
    rw [hu, if_neg (by simp), hs, vicF_none f _ hOk h0]
    simp only [nx]
    rw [Nat.mod_add_mod, Nat.add_assoc, Nat.add_comm 1 f]
theorem vicM_none {M : Ms α} (h : M.Ok) (h0 : allM M = []) : vicM M = (M, none) := by
  unfold vicM
  rw [vicF_none _ M h h0, show M.h + 2 * M.c.length = M.h + M.c.length + M.c.length by omega, Nat.add_mod_right, Nat.add_mod_right, Nat.mod_eq_of_lt h.hn]
theorem setM_ok {M : Ms α} (h : M.Ok) (i : Int) (x : α) : (setM M i x).Ok := by unfold setM; split; exact upd_ok h _ _; exact h
theorem touM_ok {M : Ms α} (h : M.Ok) (i : Int) : (touM M i).Ok := by unfold touM; split; exact upd_ok h _ _; exact h
theorem freM_ok {M : Ms α} (h : M.Ok) (i : Int) : (freM M i).Ok := by unfold freM; split; exact upd_ok h _ _; exact h
theorem setM_len (M : Ms α) (i : Int) (x : α) : (setM M i x).c.length = M.c.length := by unfold setM; split <;> simp [upd]
theorem touM_len (M : Ms α) (i : Int) : (touM M i).c.length = M.c.length := by unfold touM; split <;> simp [upd]
theorem freM_len (M : Ms α) (i : Int) : (freM M i).c.length = M.c.length := by unfold freM; split <;> simp [upd]
end Go.Proofs.Ytnmgeoeppfdnhaa

/- Slices of things in memory (records, questions): without anything of the other layers. -/
namespace Go.Proofs.Ytnmgeoeppfdnhaa
open Go.RowKit
set_option linter.unusedVariables false

/-- A record, in its parts. -/
structure Rc where
  n : ByteArray
  k : Nat
  c : Nat
  t : Nat
  d : ByteArray
/-- Its numbers are such of sixteen and of thirty-two bits. -/
structure Rc.Ok (r : Rc) : Prop where
  k : r.k < 65536
  c : r.c < 65536
  t : r.t < 4294967296
def Rc.zero : Rc := ⟨⟨#[]⟩, 0, 0, 0, ⟨#[]⟩⟩
theorem heap_lt {w : World} {g : Nat} {o : Obj} (h : w.heap[g]? = some o) : g < w.heap.size := (Array.getElem?_eq_some_iff.1 h).1
theorem blk_cell {w : World} {b : Nat} {cs : Array Value} {t : TypeId} (h : w.heap[b]? = some (.cells cs t (0, 0))) (i : Nat) : w.cell? ⟨b, i, none⟩ = cs[i]? := cell_of_row w b i cs t (0, 0) h
/-- The cells of a record, and of a question. -/
def rf (r : Rc) : List Value := [.string r.n, .int .u16 (r.k : Nat), .int .u16 (r.c : Nat), .int .u32 (r.t : Nat), .string r.d]
/-- A question. -/
structure Qu where
  n : ByteArray
  k : Nat
  c : Nat
structure Qu.Ok (q : Qu) : Prop where
  k : q.k < 65536
  c : q.c < 65536
def qf (r : Qu) : List Value := [.string r.n, .int .u16 (r.k : Nat), .int .u16 (r.c : Nat)]
theorem flat_at {α : Type} {f : α → List Value} {k : Nat} (hk : ∀ r, (f r).length = k) : ∀ (l : List α) (j i : Nat) (hj : j < l.length), i < k → (l.flatMap f)[j * k + i]? = (f l[j])[i]?
  | [], j, i, hj, _ => absurd hj (by simp)
  | a :: l, 0, i, hj, hi => by
    rw [List.flatMap_cons, List.getElem?_append_left (by rw [hk]; omega)]
    simp
  | a :: l, j + 1, i, hj, hi => by
    rw [List.flatMap_cons, List.getElem?_append_right (by rw [hk, Nat.add_mul]; omega), hk, show (j + 1) * k + i - k = j * k + i by rw [Nat.add_mul]; omega]
    exact flat_at hk l j i (by simpa using hj) hi
theorem flat_len {α : Type} {f : α → List Value} {k : Nat} (hk : ∀ r, (f r).length = k) : ∀ l : List α, (l.flatMap f).length = l.length * k
  | [] => by simp
  | a :: l => by rw [List.flatMap_cons, List.length_append, hk, flat_len hk l, List.length_cons, Nat.add_mul]; omega
theorem rf_len (r : Rc) : (rf r).length = 5 := rfl
theorem qf_len (r : Qu) : (qf r).length = 3 := rfl
theorem rf_one (l : List Rc) : ∀ u ∈ l.flatMap rf, u.oneCell' = true := fun u hu => by
  obtain ⟨r, _, hr⟩ := List.mem_flatMap.1 hu
  simp only [rf, List.mem_cons, List.not_mem_nil, or_false] at hr
  rcases hr with rfl | rfl | rfl | rfl | rfl <;> rfl
theorem qf_one (l : List Qu) : ∀ u ∈ l.flatMap qf, u.oneCell' = true := fun u hu => by
  obtain ⟨r, _, hr⟩ := List.mem_flatMap.1 hu
  simp only [qf, List.mem_cons, List.not_mem_nil, or_false] at hr
  rcases hr with rfl | rfl | rfl <;> rfl
/-- A slice's elements. -/
structure Sl {α : Type} (f : α → List Value) (w : World) (A : Option Addr) (cap : Nat) (l : List α) : Prop where
  nl : A = Option.none → cap = 0
  le : l.length ≤ cap
  has : l = [] ∨ ∃ b off, A = some ⟨b, off, none⟩ ∧ b < w.heap.size ∧ ∀ j u, (l.flatMap f)[j]? = some u → w.cell? ⟨b, off + j, none⟩ = some u
section
variable {α : Type} {f : α → List Value} {w w' : World} {A : Option Addr} {cap : Nat} {l : List α}
theorem Sl.nil (f : α → List Value) (w : World) : Sl f w Option.none 0 [] := ⟨fun _ => rfl, Nat.le_refl _, .inl rfl⟩
theorem Sl.below {B : Nat} (h : Sl f w A cap l) (hb : Below B w w') (hB : ∀ b off, A = some ⟨b, off, Option.none⟩ → b < B) : Sl f w' A cap l := by
  refine ⟨h.nl, h.le, ?_⟩
  rcases h.has with h1 | ⟨b, off, h1, h2, h3⟩
  · exact .inl h1
  · exact .inr ⟨b, off, h1, Nat.lt_of_lt_of_le h2 hb.size, fun j u hj => (hb.cell (p := ⟨b, off + j, Option.none⟩) (hB b off h1)).trans (h3 j u hj)⟩
theorem Sl.below' (h : Sl f w A cap l) (hb : Below w.heap.size w w') : Sl f w' A cap l := by
  refine ⟨h.nl, h.le, ?_⟩
  rcases h.has with h1 | ⟨b, off, h1, h2, h3⟩
  · exact .inl h1
  · exact .inr ⟨b, off, h1, Nat.lt_of_lt_of_le h2 hb.size, fun j u hj => (hb.cell (p := ⟨b, off + j, Option.none⟩) h2).trans (h3 j u hj)⟩
theorem Sl.empty (h : Sl f w A cap l) (hA : A = Option.none) : l = [] := by
  have := h.le
  rw [h.nl hA] at this
  exact List.eq_nil_of_length_eq_zero (by omega)
theorem Sl.take (h : Sl f w A cap l) (n : Nat) : Sl f w A cap (l.take n) := by
  refine ⟨h.nl, Nat.le_trans (by rw [List.length_take]; omega) h.le, ?_⟩
  rcases h.has with h1 | ⟨b, off, h1, h2, h3⟩
  · left; rw [h1]; simp
  · refine .inr ⟨b, off, h1, h2, fun j u hj => h3 j u ?_⟩
    have e : l.flatMap f = (l.take n).flatMap f ++ (l.drop n).flatMap f := by rw [← List.flatMap_append, List.take_append_drop]
    rw [e, List.getElem?_append_left (List.getElem?_eq_some_iff.1 hj).1]
    exact hj
/-- The cells of one element. -/
theorem Sl.at {k : Nat} (hk : ∀ r, (f r).length = k) (h : Sl f w A cap l) (j : Nat) (hj : j < l.length) : ∃ b off, A = some ⟨b, off, Option.none⟩ ∧ b < w.heap.size ∧ ∀ i u, (f l[j])[i]? = some u → w.cell? ⟨b, off + j * k + i, Option.none⟩ = some u := by
  rcases h.has with h1 | ⟨b, off, h1, h2, h3⟩
  · rw [h1] at hj; cases hj
  · refine ⟨b, off, h1, h2, fun i u hi => ?_⟩
    have hik : i < k := by have := (List.getElem?_eq_some_iff.1 hi).1; rw [hk] at this; exact this
    rw [Nat.add_assoc]
    exact h3 _ u (by rw [flat_at hk l j i hj hik]; exact hi)
theorem Sl.own {B : Nat} {e : TypeId} {k : Nat} {v : Value} (hk : ∀ r, (f r).length = k) (h : w.ownsRow B e k v l.length (l.flatMap f)) : ∃ A cap, v = .slice A l.length cap ∧ Sl f w A cap l := by
  rcases h.2 with ⟨hv, hn⟩ | ⟨g, cap, cur, hv, hB, hg, hc, hm, hz, ht⟩
  · obtain rfl : l = [] := List.eq_nil_of_length_eq_zero hn
    exact ⟨Option.none, 0, hv, Sl.nil f w⟩
  · refine ⟨_, cap, hv, (fun h => by cases h), hc, .inr ⟨g, 0, rfl, (Array.getElem?_eq_some_iff.1 hg).1, fun j u hj => ?_⟩⟩
    rw [← ht, List.getElem?_take] at hj
    rw [cell_of_row w g (0 + j) cur e (0, 0) hg, Nat.zero_add]
    split at hj
    · simpa using hj
    · cases hj
end
theorem Sl.ask3 {w : World} {A : Option Addr} {cap : Nat} {l : List Qu} (h : Sl qf w A cap l) (j : Nat) (hj : j < l.length) : ∃ b off, A = some ⟨b, off, Option.none⟩ ∧ b < w.heap.size ∧
    w.cell? ⟨b, off + j * 3, Option.none⟩ = some (.string l[j].n) ∧ w.cell? ⟨b, off + j * 3 + 1, Option.none⟩ = some (.int .u16 (l[j].k : Nat)) ∧ w.cell? ⟨b, off + j * 3 + 2, Option.none⟩ = some (.int .u16 (l[j].c : Nat)) := by
  obtain ⟨b, off, h1, h2, h3⟩ := h.at qf_len j hj
  exact ⟨b, off, h1, h2, h3 0 _ rfl, h3 1 _ rfl, h3 2 _ rfl⟩

theorem el_of {t : TypeId} {z : Value} {a b : Nat} (h : (Try.prog.info? t).map (fun i => (i.zero, i.size, i.bytes)) = some (some z, a, b)) : ∃ i, Try.prog.info? t = some i ∧ i.zero = some z ∧ i.size = a ∧ i.bytes = b := by
  rw [Option.map_eq_some_iff] at h
  obtain ⟨i, h1, h2⟩ := h
  simp only [Prod.mk.injEq] at h2
  exact ⟨i, h1, h2.1, h2.2.1, h2.2.2⟩
theorem Sl.src {α : Type} {f : α → List Value} {w : World} {a : Addr} {cap : Nat} {l : List α} (h : Sl f w (some a) cap l) : ∀ j u, (l.flatMap f)[j]? = some u → w.cell? (a.add j) = some u := fun j u hj => by
  rcases h.has with h1 | ⟨b, off, h1, h2, h3⟩
  · rw [h1] at hj; simp at hj
  · cases h1
    rw [Addr.add_lit]
    exact h3 j u hj

theorem Sl.other {α : Type} {f : α → List Value} {w w' : World} {A : Option Addr} {cap g : Nat} {l : List α} (h : Sl f w A cap l) (hw : ∀ b, b ≠ g → w'.heap[b]? = w.heap[b]?) (hz : w.heap.size ≤ w'.heap.size) (hne : ∀ a, A = some a → a.block ≠ g) : Sl f w' A cap l := by
  refine ⟨h.nl, h.le, ?_⟩
  rcases h.has with h1 | ⟨b, off, h1, h2, h3⟩
  · exact .inl h1
  · refine .inr ⟨b, off, h1, Nat.lt_of_lt_of_le h2 hz, fun j u hj => ?_⟩
    have e : w'.cell? ⟨b, off + j, none⟩ = w.cell? ⟨b, off + j, none⟩ := by
      unfold World.cell?
      rw [hw b (hne _ h1)]
    rw [e]
    exact h3 j u hj
theorem ownR_form {w : World} {B : Nat} {e : TypeId} {k : Nat} {v : Value} {n : Nat} {xs : List Value} (h : w.ownsRow B e k v n xs) : ∃ A cap, v = .slice A n cap := by
  rcases h.2 with ⟨rfl, rfl⟩ | ⟨g, cap, cur, rfl, _⟩
  · exact ⟨none, 0, rfl⟩
  · exact ⟨_, cap, rfl⟩
theorem own_block {w : World} {B : Nat} {e : TypeId} {k : Nat} {A : Option Addr} {n cap : Nat} {xs : List Value} (h : w.ownsRow B e k (.slice A n cap) n xs) (hn : 0 < n) : ∃ g, A = some ⟨g, 0, none⟩ ∧ B ≤ g := by
  rcases h.2 with ⟨_, h2⟩ | ⟨g, cap', cur, h1, h2, _⟩
  · omega
  · cases h1; exact ⟨g, rfl, h2⟩
theorem ownR_below {w w' : World} {B : Nat} {e : TypeId} {k : Nat} {v : Value} {n : Nat} {xs : List Value} (h : w.ownsRow B e k v n xs) (hb : Below w.heap.size w w') : w'.ownsRow B e k v n xs := by
  refine ⟨h.1, ?_⟩
  rcases h.2 with h1 | ⟨g, cap, cur, h1, h2, h3, h4⟩
  · exact .inl h1
  · exact .inr ⟨g, cap, cur, h1, h2, (hb.block g (heap_lt h3)).trans h3, h4⟩
/-- The numbers of a slice. -/
def Ns (k : IntKind) (w : World) (A : Option Addr) (l : List Nat) : Prop := ∀ j (h : j < l.length), ∃ b off : Nat, A = some ⟨b, off, none⟩ ∧ w.cell? ⟨b, off + j, none⟩ = some (.int k (l[j] : Nat))
/-- The value of a question. -/
def qV (r : Qu) : Value := .agg #[.string r.n, .int .u16 (r.k : Nat), .int .u16 (r.c : Nat)]
theorem elQ : (Try.prog.info? 25).map (fun i => (i.zero, i.size, i.bytes)) = some (some (qV ⟨⟨#[]⟩, 0, 0⟩), 3, 24) := by kernel_rfl
end Go.Proofs.Ytnmgeoeppfdnhaa

/- A shard, in plain mathematics: entries in slots, their times, and what each deed makes of them. -/
namespace Go.Proofs.Ytnmgeoeppfdnhaa
set_option linter.unusedVariables false

instance : Inhabited Qu := ⟨⟨⟨#[]⟩, 0, 0⟩⟩
instance : DecidableEq Qu := fun a b => if h : a.n = b.n ∧ a.k = b.k ∧ a.c = b.c then .isTrue (by
    obtain ⟨an, ak, ac⟩ := a
    obtain ⟨bn, bk, bc⟩ := b
    obtain ⟨rfl, rfl, rfl⟩ := h
    rfl) else .isFalse (fun e => h (by subst e; exact ⟨rfl, rfl, rfl⟩))
/-- An entry: its question, its records, its code, its rank, and when it ends. -/
structure En where
  q : Qu
  l : List Rc
  rc : Int
  rk : Int
  ex : Nat
instance : Inhabited En := ⟨⟨default, [], 0, 0, 0⟩⟩
/-- An entry, and where its records lie. -/
structure Ev where
  e : En
  A : Option Addr
  cap : Nat
instance : Inhabited Ev := ⟨⟨default, none, 0⟩⟩
def Ce.map {α β : Type} (f : α → β) (e : Ce α) : Ce β := ⟨f e.x, e.u, e.t⟩
def Ms.map {α β : Type} (f : α → β) (M : Ms α) : Ms β := ⟨M.c.map (Ce.map f), M.h⟩
/-- What is told of slots. -/
def pure (M : Ms Ev) : Ms En := M.map Ev.e
def pc (c : List (Ce Ev)) : List (Ce En) := c.map (Ce.map Ev.e)
theorem pure_c (M : Ms Ev) : (pure M).c = pc M.c := rfl
theorem pc_len (c : List (Ce Ev)) : (pc c).length = c.length := by simp [pc]
theorem pc_set (c : List (Ce Ev)) (k : Nat) (e : Ce Ev) : pc (c.set k e) = (pc c).set k (e.map Ev.e) := by simp [pc, List.map_set]
theorem Z0_map : (Z0 : Ce Ev).map Ev.e = Z0 := rfl
theorem pc_getD (c : List (Ce Ev)) (j : Nat) : (pc c).getD j Z0 = (c.getD j Z0).map Ev.e := by
  unfold pc
  rw [← Z0_map]
  simp only [List.getD_eq_getElem?_getD, List.getElem?_map]
  cases c[j]? <;> rfl
theorem us_pc (c : List (Ce Ev)) (j : Nat) : us (pc c) j = us c j := by unfold us; rw [pc_getD]; rfl
theorem ts_pc (c : List (Ce Ev)) (j : Nat) : ts (pc c) j = ts c j := by unfold ts; rw [pc_getD]; rfl
theorem pure_ok {M : Ms Ev} (h : M.Ok) : (pure M).Ok := ⟨by rw [pure_c, pc_len]; exact h.n1, by rw [pure_c, pc_len]; exact h.n64, by rw [pure_c, pc_len]; exact h.hn⟩
theorem ok_pure {M : Ms Ev} (h : (pure M).Ok) : M.Ok := ⟨by have := h.n1; rwa [pure_c, pc_len] at this, by have := h.n64; rwa [pure_c, pc_len] at this, by have := h.hn; rwa [pure_c, pc_len] at this⟩
theorem clrC_map (e : Ce Ev) : (clrC e).map Ev.e = clrC (e.map Ev.e) := by unfold clrC Ce.map; split <;> rfl
theorem stepM_pure (M : Ms Ev) : pure (stepM M) = stepM (pure M) := by
  show (⟨pc (M.c.set M.h (clrC (M.c.getD M.h Z0))), (M.h + 1) % M.c.length⟩ : Ms En) = ⟨(pc M.c).set M.h (clrC ((pc M.c).getD M.h Z0)), (M.h + 1) % (pc M.c).length⟩
  rw [pc_set, pc_len, pc_getD, clrC_map]
theorem vicF_pure : ∀ (f : Nat) (M : Ms Ev), vicF f (pure M) = (pure (vicF f M).1, (vicF f M).2)
  | 0, M => rfl
  | f + 1, M => by
    unfold vicF
    rw [pure_c, us_pc, ts_pc]
    show (if us M.c M.h && !ts M.c M.h then ((⟨pc M.c, nx (pure M)⟩ : Ms En), some M.h) else vicF f (stepM (pure M))) = _
    split
    · show ((⟨pc M.c, (M.h + 1) % (pc M.c).length⟩ : Ms En), some M.h) = (⟨pc M.c, (M.h + 1) % M.c.length⟩, some M.h)
      rw [pc_len]
    · rw [← stepM_pure, vicF_pure f (stepM M)]
theorem vicM_pure (M : Ms Ev) : vicM (pure M) = (pure (vicM M).1, (vicM M).2) := by unfold vicM; rw [pure_c, pc_len, vicF_pure]
theorem firstC_pc (c : List (Ce Ev)) : firstC (pc c) = firstC c := by
  unfold firstC pc
  rw [List.findIdx?_map]
  rfl
theorem newM_pure (n : Nat) : pure (newM n) = newM n := by
  show (⟨(List.replicate n Z0).map (Ce.map Ev.e), 0⟩ : Ms En) = ⟨List.replicate n Z0, 0⟩
  rw [List.map_replicate, Z0_map]

/-- The slot of a question. -/
def slotOf (c : List (Ce En)) (q : Qu) : Option Nat := c.findIdx? fun e => e.u && decide (e.x.q = q)
def qAt (c : List (Ce En)) (k : Nat) : Qu := (c.getD k Z0).x.q
/-- The questions there are, in the order of their slots. -/
def keysOf (c : List (Ce En)) : List Qu := (c.filter (·.u)).map (·.x.q)
/-- No question has two slots. -/
def Uq (c : List (Ce En)) : Prop := ∀ i j, i < c.length → j < c.length → us c i = true → us c j = true → qAt c i = qAt c j → i = j
theorem slot_some {c : List (Ce En)} (h : Uq c) {q : Qu} {k : Nat} : slotOf c q = some k ↔ k < c.length ∧ us c k = true ∧ qAt c k = q := by
  unfold slotOf
  rw [List.findIdx?_eq_some_iff_getElem]
  have at_ : ∀ j (hj : j < c.length), c.getD j Z0 = c[j] := fun j hj => by simp [hj]
  constructor
  · rintro ⟨hk, h1, _⟩
    simp only [Bool.and_eq_true, decide_eq_true_eq] at h1
    exact ⟨hk, by unfold us; rw [at_ k hk]; exact h1.1, by unfold qAt; rw [at_ k hk]; exact h1.2⟩
  · rintro ⟨hk, h1, h2⟩
    refine ⟨hk, ?_, fun j hj => ?_⟩
    · unfold us at h1
      unfold qAt at h2
      rw [at_ k hk] at h1 h2
      simp [h1, h2]
    · have hjc : j < c.length := by omega
      intro hc
      simp only [Bool.and_eq_true, decide_eq_true_eq] at hc
      have := h j k hjc hk (by unfold us; rw [at_ j hjc]; exact hc.1) h1 (by unfold qAt at h2 ⊢; rw [at_ j hjc, h2]; exact hc.2)
      omega
theorem slot_none {c : List (Ce En)} {q : Qu} : slotOf c q = none ↔ ∀ k, k < c.length → us c k = true → qAt c k ≠ q := by
  unfold slotOf
  rw [List.findIdx?_eq_none_iff]
  constructor
  · intro h k hk hu hq
    have := h c[k] (List.getElem_mem hk)
    unfold us at hu
    unfold qAt at hq
    rw [show c.getD k Z0 = c[k] by simp [hk]] at hu hq
    simp [hu, hq] at this
  · intro h x hx
    obtain ⟨k, hk, rfl⟩ := List.getElem_of_mem hx
    have := h k hk
    unfold us qAt at this
    rw [show c.getD k Z0 = c[k] by simp [hk]] at this
    cases hu : c[k].u with
    | false => rfl
    | true => simp [this hu]
theorem us_set {c : List (Ce En)} {k : Nat} (hk : k < c.length) (e : Ce En) (j : Nat) : us (c.set k e) j = if k = j then e.u else us c j := by
  unfold us; rw [getD_set _ _ _ _ hk]; split <;> rfl
theorem ts_set {c : List (Ce En)} {k : Nat} (hk : k < c.length) (e : Ce En) (j : Nat) : ts (c.set k e) j = if k = j then e.t else ts c j := by
  unfold ts; rw [getD_set _ _ _ _ hk]; split <;> rfl
theorem qAt_set {c : List (Ce En)} {k : Nat} (hk : k < c.length) (e : Ce En) (j : Nat) : qAt (c.set k e) j = if k = j then e.x.q else qAt c j := by
  unfold qAt; rw [getD_set _ _ _ _ hk]; split <;> rfl
theorem Uq.free {c : List (Ce En)} (h : Uq c) {k : Nat} (hk : k < c.length) {e : Ce En} (he : e.u = false) : Uq (c.set k e) := by
  intro i j hi hj ui uj hq
  rw [List.length_set] at hi hj
  rw [us_set hk] at ui uj
  rw [qAt_set hk, qAt_set hk] at hq
  by_cases e1 : k = i
  · rw [if_pos e1, he] at ui; cases ui
  · by_cases e2 : k = j
    · rw [if_pos e2, he] at uj; cases uj
    · rw [if_neg e1] at ui hq
      rw [if_neg e2] at uj hq
      exact h i j hi hj ui uj hq
/-- An entry of a question that is nowhere else. -/
theorem Uq.put {c : List (Ce En)} (h : Uq c) {k : Nat} (hk : k < c.length) {e : Ce En} (hn : ∀ j, j < c.length → us c j = true → qAt c j = e.x.q → j = k) : Uq (c.set k e) := by
  intro i j hi hj ui uj hq
  rw [List.length_set] at hi hj
  rw [us_set hk] at ui uj
  rw [qAt_set hk, qAt_set hk] at hq
  by_cases e1 : k = i
  · rw [if_pos e1] at hq
    by_cases e2 : k = j
    · omega
    · rw [if_neg e2] at uj hq
      have := hn j hj uj hq.symm
      omega
  · rw [if_neg e1] at ui hq
    by_cases e2 : k = j
    · rw [if_pos e2] at hq
      have := hn i hi ui hq
      omega
    · rw [if_neg e2] at uj hq
      exact h i j hi hj ui uj hq
theorem slot_free {c : List (Ce En)} (h : Uq c) {k : Nat} (hk : k < c.length) (hu : us c k = true) {e : Ce En} (he : e.u = false) (q : Qu) : slotOf (c.set k e) q = if q = qAt c k then none else slotOf c q := by
  have h2 := h.free hk he
  by_cases e0 : q = qAt c k
  · rw [if_pos e0]
    rw [slot_none]
    intro j hj uj hq
    rw [List.length_set] at hj
    rw [us_set hk] at uj
    rw [qAt_set hk] at hq
    by_cases e1 : k = j
    · rw [if_pos e1, he] at uj; cases uj
    · rw [if_neg e1] at uj hq
      exact e1 (h k j hk hj hu uj (by rw [hq, e0]))
  · rw [if_neg e0]
    cases hs : slotOf c q with
    | none =>
      rw [slot_none] at hs ⊢
      intro j hj uj
      rw [List.length_set] at hj
      rw [us_set hk] at uj
      rw [qAt_set hk]
      by_cases e1 : k = j
      · rw [if_pos e1, he] at uj; cases uj
      · rw [if_neg e1] at uj ⊢
        exact hs j hj uj
    | some j =>
      rw [slot_some h] at hs
      rw [slot_some h2]
      have e1 : k ≠ j := fun e => e0 (by rw [e]; exact hs.2.2.symm)
      rw [List.length_set, us_set hk, qAt_set hk, if_neg e1, if_neg e1]
      exact hs
/-- An entry comes to a slot that is free, or that has its question's. -/
theorem slot_put {c : List (Ce En)} (h : Uq c) {k : Nat} (hk : k < c.length) {e : Ce En} (he : e.u = true) (hn : ∀ j, j < c.length → us c j = true → qAt c j = e.x.q → j = k) (ho : us c k = true → qAt c k = e.x.q) (q : Qu) : slotOf (c.set k e) q = if q = e.x.q then some k else slotOf c q := by
  have h2 := h.put hk hn
  by_cases e0 : q = e.x.q
  · rw [if_pos e0, slot_some h2]
    rw [List.length_set, us_set hk, qAt_set hk, if_pos rfl, if_pos rfl]
    exact ⟨hk, he, e0.symm⟩
  · rw [if_neg e0]
    cases hs : slotOf c q with
    | none =>
      rw [slot_none] at hs ⊢
      intro j hj uj
      rw [List.length_set] at hj
      rw [us_set hk] at uj
      rw [qAt_set hk]
      by_cases e1 : k = j
      · rw [if_pos e1]; exact fun e2 => e0 e2.symm
      · rw [if_neg e1] at uj ⊢
        exact hs j hj uj
    | some j =>
      rw [slot_some h] at hs
      rw [slot_some h2]
      have e1 : k ≠ j := fun e => by
        subst e
        exact e0 (by rw [← hs.2.2]; exact ho hs.2.1)
      rw [List.length_set, us_set hk, qAt_set hk, if_neg e1, if_neg e1]
      exact hs
theorem slot_same {c : List (Ce En)} {k : Nat} (hk : k < c.length) {e : Ce En} (he : e.u = us c k) (hq : e.x.q = qAt c k) (q : Qu) : slotOf (c.set k e) q = slotOf c q := by
  unfold slotOf
  have e0 : ∀ (l : List (Ce En)) (p : Ce En → Bool) (k : Nat) (hk : k < l.length), p e = p l[k] → (l.set k e).findIdx? p = l.findIdx? p := by
    intro l p
    induction l with
    | nil => intro k hk; cases hk
    | cons a l ih =>
      intro k hk hp
      cases k with
      | zero =>
        simp only [List.getElem_cons_zero] at hp
        simp only [List.set_cons_zero, List.findIdx?_cons, hp]
      | succ k =>
        simp only [List.getElem_cons_succ] at hp
        simp only [List.set_cons_succ, List.findIdx?_cons, ih k (by simpa using hk) hp]
  refine e0 c _ k hk ?_
  have h1 : c.getD k Z0 = c[k] := by simp [hk]
  unfold us at he
  unfold qAt at hq
  rw [h1] at he hq
  simp only [he, hq]
end Go.Proofs.Ytnmgeoeppfdnhaa

/- A shard's deeds, in plain mathematics. -/
namespace Go.Proofs.Ytnmgeoeppfdnhaa
set_option linter.unusedVariables false

/-- The cells as 'Sha' has them. -/
def tiC (c : List (Ce En)) : List (Option En) := c.map fun e => if e.u then some e.x else none
theorem tiC_len (c : List (Ce En)) : (tiC c).length = c.length := by simp [tiC]
theorem tiC_set (c : List (Ce En)) (k : Nat) (e : Ce En) : tiC (c.set k e) = (tiC c).set k (if e.u then some e.x else none) := by simp [tiC, List.map_set]
theorem cell_tiC (c : List (Ce En)) (i : Nat) : W.cellOf (tiC c) i = if us c i then some (c.getD i Z0).x else none := by
  unfold W.cellOf tiC us
  rw [List.getElem?_map, List.getD_eq_getElem?_getD]
  cases c[i]? <;> rfl
theorem tiC_new (n : Nat) : tiC (newM n : Ms En).c = List.replicate n none := by
  show (List.replicate n (Z0 : Ce En)).map _ = _
  rw [List.map_replicate]
  rfl
abbrev TO (c : List (Ce En)) (l : List W.Ti) : Prop := W.TimesOf En.ex (tiC c) l

/-- A shard: its slots, and its times. -/
structure Sd where
  P : Ms En
  l : List W.Ti
structure Sd.Ok (d : Sd) : Prop where
  ok : d.P.Ok
  ti : TO d.P.c d.l
  uq : Uq d.P.c
def newS (n : Nat) : Sd := ⟨newM n, []⟩
def freeS (d : Sd) (k : Nat) : Sd := ⟨⟨d.P.c.set k Z0, d.P.h⟩, W.delL d.l k⟩
def storeS (d : Sd) (k : Nat) (e : En) (t : Bool) : Sd := ⟨⟨d.P.c.set k ⟨e, true, t⟩, d.P.h⟩, W.setL d.l k e.ex⟩
def touchS (d : Sd) (k : Nat) : Sd := ⟨⟨d.P.c.set k ⟨(d.P.c.getD k Z0).x, true, true⟩, d.P.h⟩, d.l⟩
def putS (d : Sd) (e : En) : Sd := match firstC d.P.c with | some i => storeS d i e false | none => d
/-- Slots are freed, one behind the other. -/
def freeAll (c : List (Ce En)) (is : List W.Ti) : List (Ce En) := is.foldl (fun c x => c.set x.id.toNat Z0) c
def goneQ (c : List (Ce En)) (is : List W.Ti) : List Qu := is.map fun x => qAt c x.id.toNat
def advS (d : Sd) (now : Nat) : Sd × List Qu := (⟨⟨freeAll d.P.c (W.dueL d.l now), d.P.h⟩, W.restL d.l now⟩, goneQ d.P.c (W.dueL d.l now))
def vicS (d : Sd) : Sd × Nat := (⟨(vicM d.P).1, d.l⟩, (vicM d.P).2.getD 0)
def roomS (d : Sd) (now : Nat) : Sd × List Qu :=
  if (firstC d.P.c).isSome then (d, [])
  else if (W.dueL d.l now).isEmpty then (freeS (vicS d).1 (vicS d).2, [qAt d.P.c (vicS d).2])
  else advS d now
/-- What beats. -/
def btE (a b : En) (now : Nat) : Bool := !decide (now < a.ex) || decide (a.rk ≤ b.rk)
def insS (d : Sd) (e : En) (now : Nat) : Sd × List Qu × Int :=
  if e.ex ≤ now then (d, [], 4)
  else match slotOf d.P.c e.q with
    | some k => if btE (d.P.c.getD k Z0).x e now then (storeS d k e true, [], 0) else (d, [], 7)
    | none => (putS (roomS d now).1 e, (roomS d now).2, 0)
def lookS (d : Sd) (q : Qu) (now : Nat) : Sd × En × Bool :=
  match slotOf d.P.c q with
  | some k => if now < (d.P.c.getD k Z0).x.ex then (touchS d k, (d.P.c.getD k Z0).x, true) else (d, default, false)
  | none => (d, default, false)
def evS (d : Sd) (q : Qu) : Sd × Bool :=
  match slotOf d.P.c q with
  | some k => (freeS d k, true)
  | none => (d, false)
theorem newS_ok {n : Nat} (h1 : 1 ≤ n) (h2 : n ≤ 64) : (newS n).Ok := by
  refine ⟨newM_ok En h1 h2, ?_, ?_⟩
  · show W.TimesOf En.ex (tiC (newM n : Ms En).c) []
    rw [tiC_new]
    exact W.TimesOf.new n
  · intro i j hi hj ui
    have : us (newM n : Ms En).c i = false := by
      unfold us newM
      simp only [List.getD_eq_getElem?_getD, List.getElem?_replicate]
      split <;> rfl
    rw [show (newS n).P.c = (newM n : Ms En).c from rfl, this] at ui
    cases ui
section
variable {d : Sd}
theorem freeS_ok (h : d.Ok) {k : Nat} (hk : k < d.P.c.length) : (freeS d k).Ok := by
  refine ⟨⟨by simpa [freeS] using h.ok.n1, by simpa [freeS] using h.ok.n64, by simpa [freeS] using h.ok.hn⟩, ?_, h.uq.free hk rfl⟩
  show W.TimesOf En.ex (tiC (d.P.c.set k Z0)) _
  rw [tiC_set]
  exact h.ti.free (by rw [tiC_len]; exact hk)
theorem storeS_ok (h : d.Ok) {k : Nat} (hk : k < d.P.c.length) (e : En) (t : Bool) (hn : ∀ j, j < d.P.c.length → us d.P.c j = true → qAt d.P.c j = e.q → j = k) : (storeS d k e t).Ok := by
  refine ⟨⟨by simpa [storeS] using h.ok.n1, by simpa [storeS] using h.ok.n64, by simpa [storeS] using h.ok.hn⟩, ?_, h.uq.put hk hn⟩
  show W.TimesOf En.ex (tiC (d.P.c.set k ⟨e, true, t⟩)) _
  rw [tiC_set]
  exact h.ti.set (by rw [tiC_len]; exact hk) e
/-- What only the touching turns. -/
structure Alike (c c' : List (Ce En)) : Prop where
  len : c'.length = c.length
  us : ∀ j, us c' j = us c j
  x : ∀ j, (c'.getD j Z0).x = (c.getD j Z0).x
theorem Alike.qAt {c c' : List (Ce En)} (h : Alike c c') (j : Nat) : qAt c' j = qAt c j := by
  unfold Proofs.Ytnmgeoeppfdnhaa.qAt; rw [h.x]
theorem Alike.tiC {c c' : List (Ce En)} (h : Alike c c') : tiC c' = tiC c := by
  apply List.ext_getElem?
  intro i
  by_cases hi : i < c.length
  · have h1 : c'.getD i Z0 = c'[i]'(by rw [h.len]; exact hi) := by simp [h.len, hi]
    have h2 : c.getD i Z0 = c[i] := by simp [hi]
    have a := h.us i
    have b := h.x i
    unfold Proofs.Ytnmgeoeppfdnhaa.us at a
    rw [h1, h2] at a b
    unfold Proofs.Ytnmgeoeppfdnhaa.tiC
    rw [List.getElem?_map, List.getElem?_map, List.getElem?_eq_getElem hi, List.getElem?_eq_getElem (by rw [h.len]; exact hi)]
    simp [a, b]
  · rw [List.getElem?_eq_none (by rw [tiC_len, h.len]; omega), List.getElem?_eq_none (by rw [tiC_len]; omega)]
theorem Alike.uq {c c' : List (Ce En)} (h : Alike c c') (hu : Uq c) : Uq c' := fun i j hi hj ui uj hq => by
  rw [h.len] at hi hj
  rw [h.us] at ui uj
  rw [h.qAt, h.qAt] at hq
  exact hu i j hi hj ui uj hq
theorem Alike.slot {c c' : List (Ce En)} (h : Alike c c') (hu : Uq c) (q : Qu) : slotOf c' q = slotOf c q := by
  cases hs : slotOf c q with
  | none =>
    rw [slot_none] at hs ⊢
    intro k hk hku
    rw [h.len] at hk
    rw [h.us] at hku
    rw [h.qAt]
    exact hs k hk hku
  | some k =>
    rw [slot_some hu] at hs
    rw [slot_some (h.uq hu), h.len, h.us, h.qAt]
    exact hs
theorem touch_alike (c : List (Ce En)) {k : Nat} (hk : k < c.length) (hu : us c k = true) : Alike c (c.set k ⟨(c.getD k Z0).x, true, true⟩) := by
  refine ⟨List.length_set, fun j => ?_, fun j => ?_⟩
  · rw [us_set hk]; split
    · rename_i h; rw [← h, hu]
    · rfl
  · rw [getD_set _ _ _ _ hk]; split
    · rename_i h; rw [← h]
    · rfl
theorem vic_alike {P : Ms En} (h : P.Ok) : Alike P.c (vicM P).1.c := ⟨vicM_len h, vicM_us h, vicM_xs h⟩
theorem touchS_ok (h : d.Ok) {k : Nat} (hk : k < d.P.c.length) (hu : us d.P.c k = true) : (touchS d k).Ok := by
  have a := touch_alike d.P.c hk hu
  refine ⟨⟨by simpa [touchS] using h.ok.n1, by simpa [touchS] using h.ok.n64, by simpa [touchS] using h.ok.hn⟩, ?_, a.uq h.uq⟩
  show W.TimesOf En.ex (tiC (touchS d k).P.c) d.l
  rw [show tiC (touchS d k).P.c = tiC d.P.c from a.tiC]
  exact h.ti
theorem vicS_ok (h : d.Ok) : (vicS d).1.Ok := by
  have a := vic_alike h.ok
  refine ⟨vicM_ok h.ok, ?_, a.uq h.uq⟩
  show W.TimesOf En.ex (tiC (vicM d.P).1.c) d.l
  rw [a.tiC]
  exact h.ti
end
end Go.Proofs.Ytnmgeoeppfdnhaa

/- The slots of entries in memory, and the contracts of the program's methods that only look: Cap, has. -/
namespace Go.Proofs.Ytnmgeoeppfdnhaa
open Go.RowKit
set_option linter.unusedVariables false

def Blk (w : World) (g : Nat) (t : TypeId) (cs : Array Value) : Prop := w.heap[g]? = some (.cells cs t (0, 0))
section
variable {w w' : World} {g : Nat} {t : TypeId} {cs : Array Value}
theorem Blk.lt (h : Blk w g t cs) : g < w.heap.size := by
  rcases Nat.lt_or_ge g w.heap.size with hlt | hge
  · exact hlt
  · unfold Blk at h; rw [Array.getElem?_eq_none hge] at h; cases h
theorem Blk.cell (h : Blk w g t cs) (i : Nat) : w.cell? ⟨g, i, none⟩ = cs[i]? := cell_of_row w g i cs t (0, 0) h
theorem Blk.frozen (h : Blk w g t cs) (i : Nat) : w.frozen? ⟨g, i, none⟩ = false := by
  unfold Blk at h
  simp [World.frozen?, h]
theorem Blk.new (w : World) (t : TypeId) (cs : Array Value) : Blk (w.alloc (.cells cs t)) w.heap.size t cs := heap_alloc_new w _
theorem Blk.set_ (h : Blk w g t cs) (i : Nat) (u : Value) : Blk (w.setCell ⟨g, i, none⟩ u) g t (cs.setIfInBounds i u) := by
  unfold Blk at h ⊢
  simp [World.setCell, Array.getElem?_modify, h]
theorem Blk.eq {w'' : World} (h : Blk w g t cs) (e : w''.heap[g]? = w.heap[g]?) : Blk w'' g t cs := e.trans h
theorem Blk.far (h : Blk w g t cs) (p : Addr) (u : Value) (hp : g ≠ p.block) : Blk (w.setCell p u) g t cs := (Below.heap_setCell w p u g hp).trans h
end
theorem Blk.setCells {g : Nat} {t : TypeId} : ∀ (vs : List Value) (o : Nat) {w : World} {cs : Array Value}, Blk w g t cs → o + vs.length ≤ cs.size → ∃ cs', Blk (w.setCells g o vs) g t cs' ∧ cs'.size = cs.size ∧ ∀ i, cs'[i]? = if o ≤ i ∧ i < o + vs.length then vs[i - o]? else cs[i]?
  | [], o, w, cs, h, _ => ⟨cs, h, rfl, fun i => by rw [if_neg (by simp)]⟩
  | v :: r, o, w, cs, h, hs => by
    simp only [List.length_cons] at hs
    obtain ⟨cs', h1, h2, h3⟩ := Blk.setCells (t := t) r (o + 1) (h.set_ o v) (by rw [Array.size_setIfInBounds]; omega)
    refine ⟨cs', h1, by rw [h2, Array.size_setIfInBounds], fun i => ?_⟩
    rw [h3 i, Array.getElem?_setIfInBounds]
    simp only [List.length_cons]
    by_cases e1 : o = i
    · subst e1
      rw [if_neg (by omega), if_pos rfl, if_pos (by omega), if_pos (by omega), Nat.sub_self]
      rfl
    · rw [if_neg e1]
      by_cases e2 : o + 1 ≤ i ∧ i < o + 1 + r.length
      · rw [if_pos e2, if_pos (by omega)]
        obtain ⟨q, hq⟩ : ∃ q, i - o = q + 1 := ⟨i - o - 1, by omega⟩
        rw [hq, show i - (o + 1) = q by omega]
        rfl
      · rw [if_neg e2, if_neg (by omega)]
theorem setCells_other {g k : Nat} : ∀ (vs : List Value) (o : Nat) (w : World), k ≠ g → (w.setCells g o vs).heap[k]? = w.heap[k]?
  | [], _, _, _ => rfl
  | v :: r, o, w, h => by rw [World.setCells, setCells_other r (o + 1) _ h, Below.heap_setCell w _ _ k h]
theorem setCells_below {B g : Nat} : ∀ (vs : List Value) (o : Nat) {w0 w : World}, Below B w0 w → B ≤ g → Below B w0 (w.setCells g o vs)
  | [], _, _, _, h, _ => h
  | v :: r, o, _, _, h, hg => by rw [World.setCells]; exact setCells_below r (o + 1) (h.setCell (p := ⟨g, o, none⟩) hg v) hg
theorem Blk.far_ {w : World} {g k : Nat} {t : TypeId} {cs : Array Value} (h : Blk w g t cs) (o : Nat) (vs : List Value) (hk : g ≠ k) : Blk (w.setCells k o vs) g t cs := h.eq (setCells_other vs o w hk)
theorem Blk.range {w : World} {g : Nat} {t : TypeId} {cs : Array Value} (h : Blk w g t cs) (o : Nat) (vs : List Value) (hv : ∀ j u, vs[j]? = some u → cs[o + j]? = some u) : w.rangeAt g o vs := fun j u hj => (h.cell _).trans (hv j u hj)
theorem Blk.there {w : World} {g : Nat} {t : TypeId} {cs : Array Value} (h : Blk w g t cs) (o n : Nat) (hn : o + n ≤ cs.size) : w.there g o n := fun j hj => ⟨by rw [h.cell]; simp; omega, h.frozen _⟩

/-- The cells of an entry. -/
def evL (x : Ev) : List Value := [.string x.e.q.n, .int .u16 (x.e.q.k : Nat), .int .u16 (x.e.q.c : Nat), .slice x.A x.e.l.length x.cap, .int .i64 x.e.rc, .int .i64 x.e.rk, .int .u64 (x.e.ex : Nat)]
def evV (x : Ev) : Value := .agg (evL x).toArray
theorem evV_eq (x : Ev) : evV x = .agg #[.string x.e.q.n, .int .u16 (x.e.q.k : Nat), .int .u16 (x.e.q.c : Nat), .slice x.A x.e.l.length x.cap, .int .i64 x.e.rc, .int .i64 x.e.rk, .int .u64 (x.e.ex : Nat)] := rfl
theorem evL_len (x : Ev) : (evL x).length = 7 := rfl
theorem evL_one (x : Ev) : (evL x).toArray.all (·.oneCell') = true := by simp [evL, Value.oneCell']
theorem infoE : (Try.prog.info? 35).map (·.size) = some 7 := by kernel_rfl
theorem infoEv (x : Ev) : (Try.prog.info? 35).map (·.size) = some (evL x).length := infoE
theorem infoEa (x : Ev) : (Try.prog.info? 35).map (·.size) = some (evL x).toArray.size := infoE
/-- The cells of the slots. -/
def cf (e : Ce Ev) : List Value := evL e.x ++ [.bool e.u, .bool e.t]
theorem cf_len1 (e : Ce Ev) : (cf e).length = 9 := rfl
def cA (c : List (Ce Ev)) : Array Value := (c.flatMap cf).toArray
theorem cA_at (c : List (Ce Ev)) (j i : Nat) (hj : j < c.length) (hi : i < 9) : (cA c)[j * 9 + i]? = (cf (c.getD j Z0))[i]? := by
  unfold cA
  rw [List.getElem?_toArray, flat_at cf_len1 c j i hj hi]
  simp [hj]
theorem cA_size (c : List (Ce Ev)) : (cA c).size = c.length * 9 := by unfold cA; rw [List.size_toArray, flat_len cf_len1]
theorem cA_ext {c : List (Ce Ev)} {a : Array Value} (hs : a.size = c.length * 9) (h : ∀ j i, j < c.length → i < 9 → a[j * 9 + i]? = (cf (c.getD j Z0))[i]?) : a = cA c := by
  apply Array.ext_getElem?
  intro q
  by_cases hq : q < c.length * 9
  · have e : q = q / 9 * 9 + q % 9 := by omega
    rw [e, h _ _ (by omega) (by omega), cA_at _ _ _ (by omega) (by omega)]
  · rw [Array.getElem?_eq_none (by omega), Array.getElem?_eq_none (by rw [cA_size]; omega)]
/-- A part of one slot's cells is stored. -/
theorem cA_part (c : List (Ce Ev)) (k : Nat) (hk : k < c.length) (e : Ce Ev) (o : Nat) (vs : List Value) (ho : o + vs.length ≤ 9) {a : Array Value} (hs : a.size = (cA c).size)
    (ha : ∀ i, a[i]? = if k * 9 + o ≤ i ∧ i < k * 9 + o + vs.length then vs[i - (k * 9 + o)]? else (cA c)[i]?)
    (h1 : ∀ i, i < 9 → (cf e)[i]? = if o ≤ i ∧ i < o + vs.length then vs[i - o]? else (cf (c.getD k Z0))[i]?) : a = cA (c.set k e) := by
  apply cA_ext
  · rw [hs, cA_size, List.length_set]
  intro j i hj hi
  rw [List.length_set] at hj
  rw [ha, getD_set _ _ _ _ hk]
  by_cases e1 : k = j
  · subst e1
    rw [if_pos rfl, h1 i hi]
    by_cases e2 : o ≤ i ∧ i < o + vs.length
    · rw [if_pos (by omega), if_pos e2, show k * 9 + i - (k * 9 + o) = i - o by omega]
    · rw [if_neg (by omega), if_neg e2, cA_at _ _ _ hk hi]
  · rw [if_neg e1, if_neg (by omega), cA_at _ _ _ hj hi]
theorem ce_eta (c : List (Ce Ev)) (k : Nat) : c.getD k Z0 = ⟨(c.getD k Z0).x, us c k, ts c k⟩ := rfl

theorem cell_size {w : World} {p : Addr} {v : Value} (h : w.cell? p = some v) : p.block < w.heap.size := by
  rcases Nat.lt_or_ge p.block w.heap.size with h1 | h1
  · exact h1
  · unfold World.cell? at h
    rw [Array.getElem?_eq_none h1] at h
    cases h
theorem Ns.below {k : IntKind} {w w' : World} {A : Option Addr} {l : List Nat} (h : Ns k w A l) (hb : Below w.heap.size w w') : Ns k w' A l := fun j hj => by
  obtain ⟨b, off, h1, h2⟩ := h j hj
  exact ⟨b, off, h1, (hb.cell (p := ⟨b, off + j, none⟩) (cell_size h2)).trans h2⟩
theorem elI : (Try.prog.info? 3).map (fun i => (i.zero, i.size, i.bytes)) = some (some (.int .i64 0), 1, 8) := by kernel_rfl
theorem newI (W : World) (n : Int) : ∀ j u, ([Value.int .i64 n] : List Value)[j]? = some u → (W.alloc (.cells #[.int .i64 n] 3)).cell? ((⟨W.heap.size, 0, none⟩ : Addr).add j) = some u := fun j u hj => by
  have h := heap_alloc_new W (Obj.cells #[.int .i64 n] 3)
  rw [Addr.add_lit, Nat.zero_add, blk_cell h j, ← hj]
  simp
/-- Of what was there only blocks of X have turned. -/
structure Ch (X : Nat → Prop) (w w' : World) : Prop where
  os : w'.os = w.os
  tape : w'.tape = w.tape
  output : w'.output = w.output
  size : w.heap.size ≤ w'.heap.size
  block : ∀ i, i < w.heap.size → ¬ X i → w'.heap[i]? = w.heap[i]?
section
variable {X Y : Nat → Prop} {a b c : World}
theorem Ch.refl (X : Nat → Prop) (w : World) : Ch X w w := ⟨rfl, rfl, rfl, Nat.le_refl _, fun _ _ _ => rfl⟩
theorem Ch.trans (h : Ch X a b) (k : Ch X b c) : Ch X a c := ⟨k.os.trans h.os, k.tape.trans h.tape, k.output.trans h.output, Nat.le_trans h.size k.size, fun i hi hx => (k.block i (Nat.lt_of_lt_of_le hi h.size) hx).trans (h.block i hi hx)⟩
theorem Ch.mono (h : Ch X a b) (hX : ∀ i, X i → Y i) : Ch Y a b := ⟨h.os, h.tape, h.output, h.size, fun i hi hy => h.block i hi (fun e => hy (hX i e))⟩
theorem Ch.bel (h : Below a.heap.size a b) : Ch X a b := ⟨h.os, h.tape, h.output, h.size, fun i hi _ => h.block i hi⟩
theorem Ch.below (h : Ch X a b) (k : Below b.heap.size b c) : Ch X a c := h.trans (Ch.bel k)
theorem Ch.isBelow {n : Nat} (h : Ch X a b) (hX : ∀ i, X i → n ≤ i) (hn : n ≤ a.heap.size) : Below n a b := ⟨h.os, h.tape, h.output, h.size, fun i hi => h.block i (by omega) (fun e => by have := hX i e; omega)⟩
theorem Ch.grown (h : Ch X a b) {r : Nat} (g : b.grownBy c (some r)) (hr : X r) : Ch X a c := ⟨g.os.trans h.os, g.tape.trans h.tape, g.output.trans h.output, Nat.le_trans h.size g.size, fun i hi hx => (g.block i (Nat.lt_of_lt_of_le hi h.size) (fun e => by cases e; exact hx hr)).trans (h.block i hi hx)⟩
end
/-- Only these two blocks turn. -/
def Fp (g b : Nat) (w w' : World) : Prop := Ch (fun i => i = g ∨ i = b) w w'
theorem Fp.refl (g b : Nat) (w : World) : Fp g b w w := Ch.refl _ _
theorem Fp.trans {g b : Nat} {w w' w'' : World} (h : Fp g b w w') (k : Fp g b w' w'') : Fp g b w w'' := Ch.trans h k
theorem Fp.of {g b : Nat} {w w' : World} (h : Below w.heap.size w w') (hb : b ≤ w.heap.size) : Fp g b w w' := Ch.bel h
theorem Fp.set {g b : Nat} (w : World) (i : Nat) (u : Value) (p : Nat) (hp : p = g ∨ p = b) (hgb : b < g) : Fp g b w (w.setCell ⟨p, i, none⟩ u) :=
  ⟨rfl, rfl, rfl, by simp, fun k hk hx => Below.heap_setCell w _ _ k (fun e => hx (by rw [e]; exact hp))⟩
theorem setCells_ch {X : Nat → Prop} {g : Nat} (hg : X g) : ∀ (vs : List Value) (o : Nat) (w : World), Ch X w (w.setCells g o vs)
  | [], _, w => Ch.refl _ _
  | v :: r, o, w => by
    rw [World.setCells]
    have h1 : Ch X w (w.setCell ⟨g, o, none⟩ v) := ⟨rfl, rfl, rfl, by simp, fun k hk hx => Below.heap_setCell w ⟨g, o, none⟩ v k (fun e => hx (by rw [e]; exact hg))⟩
    exact h1.trans (setCells_ch hg r (o + 1) _)
section
variable {w : World} {g b : Nat} {M : Ms Ev}
end

end Go.Proofs.Ytnmgeoeppfdnhaa

/- The contracts of the program's slots of entries: Get, Set, Touch, Free, step. -/
namespace Go.Proofs.Ytnmgeoeppfdnhaa
open Go.RowKit
set_option linter.unusedVariables false

def zE : Array Value := #[.string ⟨#[]⟩, .int .u16 0, .int .u16 0, .slice none 0 0, .int .i64 0, .int .i64 0, .int .u64 0]
theorem cf_one (e : Ce Ev) : (cf e).toArray.all (·.oneCell') = true := by simp [cf, evL, Value.oneCell']
theorem load_e (w : World) (g : Nat) (cs : Array Value) (hs : cs.size = 7) (hg : w.heap[g]? = some (.cells cs 35 (0, 0))) : (loadVar 35 ⟨g, 0, none⟩).run Try.prog w = .ok (.agg cs) w :=
  run_loadVar_row w g 35 35 cs (0, 0) _ hg Try.underlying35 rfl (by rw [hs]; exact infoE)
theorem ret_e2 {w : World} {fn : Func} {p q : Tmp} {R : Ending → World → Prop} {a : Act} {g : Nat} {v : Value} (cs : Array Value) (hs : cs.size = 7) (h : fn.results = #[.cell p 35, .tmp q]) (hp : a.tmps.getD p undef = .pointer (some ⟨g, 0, none⟩)) (hq : a.tmps.getD q undef = v) (hd : a.defers = [])
    (hg : w.heap[g]? = some (.cells cs 35 (0, 0))) (hR : R (.returned (.tuple #[.agg cs, v])) w) : bodyPost Try.prog fn R .ret a w := by
  refine bodyPost_ret (v := .tuple #[.agg cs, v]) ?_ hd hR
  rw [results_cell_tmp h, hp, hq]
  simp [asAddr, Result.andThen, load_e w g cs hs hg]
theorem setRow_below {B g : Nat} {w0 w : World} (hb : Below B w0 w) (hBg : B ≤ g) (cs : Array Value) : Below B w0 (w.setRow g cs) :=
  ⟨hb.os, hb.tape, hb.output, by rw [setRow_size]; exact hb.size, fun k hk => by rw [setRow_other w g k cs (by omega)]; exact hb.block k hk⟩

/-- What Set makes. -/
theorem cf_set (e : Ce Ev) (x : Ev) (i : Nat) (hi : i < 9) : (cf ⟨x, e.u, e.t⟩)[i]? = if 0 ≤ i ∧ i < 0 + (evL x).length then (evL x)[i - 0]? else (cf e)[i]? := by
  unfold cf
  by_cases h : i < 7
  · rw [if_pos (by rw [evL_len]; omega), List.getElem?_append_left (by rw [evL_len]; omega)]
    rfl
  · rw [if_neg (by rw [evL_len]; omega), List.getElem?_append_right (by rw [evL_len]; omega), List.getElem?_append_right (by rw [evL_len]; omega), evL_len, evL_len]
theorem cf_all (e e' : Ce Ev) (i : Nat) (hi : i < 9) : (cf e)[i]? = if 0 ≤ i ∧ i < 0 + (cf e).length then (cf e)[i - 0]? else (cf e')[i]? := by
  rw [if_pos (by rw [cf_len1]; omega)]
  rfl
theorem cf_tou (e : Ce Ev) (t : Bool) (i : Nat) (hi : i < 9) : (cf ⟨e.x, e.u, t⟩)[i]? = if 8 = i then some (.bool t) else (cf e)[i]? := by
  have h : i = 0 ∨ i = 1 ∨ i = 2 ∨ i = 3 ∨ i = 4 ∨ i = 5 ∨ i = 6 ∨ i = 7 ∨ i = 8 := by omega
  rcases h with rfl | rfl | rfl | rfl | rfl | rfl | rfl | rfl | rfl <;> rfl
end Go.Proofs.Ytnmgeoeppfdnhaa

/- The map of places: questions to the numbers of their slots. -/
namespace Go.Proofs.Ytnmgeoeppfdnhaa
open Go.RowKit
open Go.Maps (Keyed IsMap Tidy)
set_option linter.unusedVariables false

structure Qu.Fine (q : Qu) : Prop where
  n : q.n.size ≤ maxLen
  k : q.k < 65536
  c : q.c < 65536
theorem laidQ : laidOutB Try.prog = true := by kernel_rfl
theorem rowQ : (25 : TypeId) < Try.prog.types.size := of_decide_eq_true (by kernel_rfl)
theorem deepQ : Try.prog.keyTypeAt 3 25 = true := by kernel_rfl
theorem law0 : WideMaps.KeyLaw Try.prog 25 := deep_law_laid laidQ (m := 3) (k := 25) (Nat.le_of_ble_eq_true rfl) rowQ deepQ (by rw [Try.underlying25])
theorem lawQ : Keyed Try.prog 25 := Keyed.of_law law0
theorem wf_u16 {k : Nat} (h : k < 65536) : (Lit.int .u16 (k : Nat)).wf = true := by
  simp [Lit.wf, IntKind.min, IntKind.max, IntKind.signed, IntKind.bits]
  omega
theorem keyTypeQ : Try.prog.keyType 25 = true := by kernel_rfl
theorem cellsQ : Try.prog.cellsOf 25 = 3 := by kernel_rfl
theorem cellsS : Try.prog.cellsOf 9 = 1 := by kernel_rfl
theorem cellsU : Try.prog.cellsOf 23 = 1 := by kernel_rfl
theorem key_q {q : Qu} (h : q.Fine) : ∃ l, keyOf Try.prog 25 (qV q) = some l := by
  obtain ⟨m, hm⟩ : ∃ m, Try.prog.types.size + 1 = m + 2 := ⟨Try.prog.types.size - 1, by
    have h0 : 0 < Try.prog.types.size := Nat.lt_of_le_of_lt (Nat.zero_le _) rowQ
    generalize Try.prog.types.size = z at *
    omega⟩
  have hf : (qV q).formed Try.prog 25 = true := by simp [Value.formed, qV, Try.underlying25, cellsQ]
  unfold keyOf
  rw [Try.underlying25]
  simp only [keyTypeQ, hf, Bool.and_self, if_true]
  rw [hm]
  simp only [Program.keyLits, Try.underlying25, qV, Value.cells, cellsQ]
  simp [cellsS, cellsU, Try.underlying9, Try.underlying23, wf_u16 h.k, wf_u16 h.c, h.n]
theorem qV_inj {a b : Qu} (h : qV a = qV b) : a = b := by
  obtain ⟨an, ak, ac⟩ := a
  obtain ⟨bn, bk, bc⟩ := b
  simp only [qV, Value.agg.injEq, Array.mk.injEq, List.cons.injEq, Value.string.injEq, Value.int.injEq, true_and, and_true] at h
  obtain ⟨rfl, h2, h3⟩ := h
  have e2 : ak = bk := by omega
  have e3 : ac = bc := by omega
  subst e2
  subst e3
  rfl
/-- The map's datum holds just the places that f tells. -/
structure Places (D : DataW Unit) (f : Qu → Option Nat) : Prop where
  tidy : Tidy D
  has : ∀ q l, keyOf Try.prog 25 (qV q) = some l → Maps.has D l = (f q).isSome
  at_ : ∀ q l z, keyOf Try.prog 25 (qV q) = some l → D.atKey l z = match f q with | some i => .lit (.int .i64 (i : Nat)) | none => z
theorem places_nil : Places (.map []) (fun _ => none) := ⟨Maps.tidy_empty, fun _ _ _ => rfl, fun _ _ _ _ => rfl⟩
theorem lit_apart {a b : Qu} {la lb : Lit} (ha : keyOf Try.prog 25 (qV a) = some la) (hb : keyOf Try.prog 25 (qV b) = some lb) (h : a ≠ b) : la ≠ lb := fun e => h (qV_inj (lawQ.inj ha (by rw [e]; exact hb)))
theorem Places.put {D : DataW Unit} {f : Qu → Option Nat} (h : Places D f) {q : Qu} {l : Lit} (hq : keyOf Try.prog 25 (qV q) = some l) (i : Nat) : Places (D.put l (.lit (.int .i64 (i : Nat)))) (fun x => if x = q then some i else f x) := by
  have hl := lawQ.key hq
  refine ⟨h.tidy.put hl _, fun x lx hx => ?_, fun x lx z hx => ?_⟩
  · by_cases e : x = q
    · subst e
      rw [hq] at hx
      cases hx
      rw [if_pos rfl, Maps.has_put_same h.tidy.isMap hl]
      rfl
    · rw [if_neg e, Maps.has_put_other (lit_apart hx hq e), h.has x lx hx]
  · by_cases e : x = q
    · subst e
      rw [hq] at hx
      cases hx
      rw [if_pos rfl, Maps.atKey_put_same h.tidy.isMap hl]
    · rw [if_neg e, Maps.atKey_put_other (lit_apart hx hq e), h.at_ x lx z hx]
theorem Places.del {D : DataW Unit} {f : Qu → Option Nat} (h : Places D f) {q : Qu} {l : Lit} (hq : keyOf Try.prog 25 (qV q) = some l) : Places (D.del l) (fun x => if x = q then none else f x) := by
  refine ⟨h.tidy.del _, fun x lx hx => ?_, fun x lx z hx => ?_⟩
  · by_cases e : x = q
    · subst e
      rw [hq] at hx
      cases hx
      rw [if_pos rfl, Maps.has_del_same]
      rfl
    · rw [if_neg e, Maps.has_del_other (lit_apart hx hq e), h.has x lx hx]
  · by_cases e : x = q
    · subst e
      rw [hq] at hx
      cases hx
      rw [if_pos rfl, Maps.atKey_del_same]
    · rw [if_neg e, Maps.atKey_del_other (lit_apart hx hq e), h.at_ x lx z hx]
theorem Places.congr {D : DataW Unit} {f f' : Qu → Option Nat} (h : Places D f) (e : ∀ q, f q = f' q) : Places D f' := by rw [← show f = f' from funext e]; exact h
/-- Block b is the map of N places. -/
def Pm (w : World) (b N : Nat) (f : Qu → Option Nat) : Prop := ∃ D : DataW Unit, w.ownsMap Try.prog 25 (plainElem Try.prog 3) b N D ∧ Places D f ∧ Maps.size D = N
section
variable {w w' : World} {b N : Nat} {f f' : Qu → Option Nat}
theorem pm_made (w : World) : Pm (w.alloc (.map #[] 0)) w.heap.size 0 (fun _ => none) := ⟨_, World.ownsMap_made w _ _ _, places_nil, rfl⟩
theorem Pm.lt (h : Pm w b N f) : b < w.heap.size := let ⟨_, o, _⟩ := h; o.lt
theorem Pm.block (h : Pm w b N f) (hb : w'.heap[b]? = w.heap[b]?) : Pm w' b N f := let ⟨D, ⟨es, c, h0, h1⟩, t⟩ := h; ⟨D, ⟨es, c, hb.trans h0, h1⟩, t⟩
theorem Pm.congr (h : Pm w b N f) (e : ∀ q, f q = f' q) : Pm w b N f' := let ⟨D, h0, t, s⟩ := h; ⟨D, h0, t.congr e, s⟩
/-- A block of cells is no map. -/
theorem Pm.no_cell (h : Pm w b N f) {k i : Nat} {v : Value} (hc : w.cell? ⟨k, i, none⟩ = some v) : k ≠ b := fun e => by
  obtain ⟨_, ⟨es, c, h0, _⟩, _⟩ := h
  rw [e] at hc
  simp [World.cell?, h0] at hc
theorem zeroI (w : World) : (zeroValue 3).run Try.prog w = .ok (.int .i64 0) w := by kernel_rfl
end
section
variable {ops : Array Oper} {rest : List Oper} {o : Oper} {a : Act} {Q : Exit → Act → World → Prop} {w : World} {b N : Nat} {f : Qu → Option Nat}
theorem tight {w' : World} {N' : Nat} {D : DataW Unit} {f' : Qu → Option Nat} (h : w'.ownsMap Try.prog 25 (plainElem Try.prog 3) b N' D) (T : Places D f') : Pm w' b (Maps.size D) f' := by
  obtain ⟨es, c, h0, F, hs, hD⟩ := h
  refine ⟨D, ⟨es, c, h0, F, ?_, hD⟩, T, rfl⟩
  rw [hD, Maps.size_eq, length_read]
  exact Nat.le_refl _
end
end Go.Proofs.Ytnmgeoeppfdnhaa

/- A shard in memory: its slots, its places, its wheel, its entries' records; what each of them turns. -/
namespace Go.Proofs.Ytnmgeoeppfdnhaa
open Go.RowKit
set_option linter.unusedVariables false

theorem Ch.cell {X : Nat → Prop} {w w' : World} (h : Ch X w w') {b o : Nat} {v : Value} (hc : w.cell? ⟨b, o, none⟩ = some v) (hb : ¬ X b) : w'.cell? ⟨b, o, none⟩ = some v := by
  have e := h.block b (cell_size hc) hb
  unfold World.cell? at hc ⊢
  simp only at hc ⊢
  rw [e]
  exact hc
theorem Sl.ch {α : Type} {f : α → List Value} {X : Nat → Prop} {w w' : World} {A : Option Addr} {cap : Nat} {l : List α} (h : Sl f w A cap l) (hc : Ch X w w') (ha : ∀ b off, A = some ⟨b, off, none⟩ → l ≠ [] → ¬ X b) : Sl f w' A cap l := by
  refine ⟨h.nl, h.le, ?_⟩
  rcases h.has with h1 | ⟨b, off, h1, h2, h3⟩
  · exact .inl h1
  · by_cases e : l = []
    · exact .inl e
    · exact .inr ⟨b, off, h1, Nat.lt_of_lt_of_le h2 hc.size, fun j u hj => hc.cell (h3 j u hj) (ha b off h1 e)⟩
/-- An entry whose records lie where X isn't. -/
structure Re (X : Nat → Prop) (w : World) (x : Ev) : Prop where
  sl : Sl rf w x.A x.cap x.e.l
  away : ∀ b off, x.A = some ⟨b, off, none⟩ → x.e.l ≠ [] → ¬ X b
  q : x.e.q.Fine
  ex : x.e.ex < 18446744073709551616
  sm : x.e.l.length ≤ 3518437208883
section
variable {X Y : Nat → Prop} {w w' : World} {x : Ev}
theorem Re.ch (h : Re X w x) (hc : Ch X w w') : Re X w' x := ⟨h.sl.ch hc h.away, h.away, h.q, h.ex, h.sm⟩
theorem Re.low (h : Re X w x) (hb : Below w.heap.size w w') : Re X w' x := h.ch (Ch.bel hb)
theorem Re.zero (X : Nat → Prop) (w : World) : Re X w default := ⟨Sl.nil _ _, fun b off h => (by cases h), ⟨by show (0 : Nat) ≤ maxLen; omega, by show (0 : Nat) < 65536; omega, by show (0 : Nat) < 65536; omega⟩, by show (0 : Nat) < _; omega, by show (0 : Nat) ≤ _; omega⟩
end
/-- Where the parts of a shard lie. -/
structure Ly where
  g : Nat
  b : Nat
  p : Nat
  wg : Nat
  sb : Nat
  s : Nat
  bm : Nat → Nat
/-- The blocks that turn. -/
def Ly.X (K : Ly) (i : Nat) : Prop := i = K.g ∨ i = K.b ∨ i = K.p ∨ ∃ j, j < K.s ∧ i = K.bm j
structure Ly.Up (K : Ly) (h : Nat) : Prop where
  bg : K.b < K.g
  wg : K.g < K.wg
  sb : K.g < K.sb
  bm : ∀ j, j < K.s → K.g < K.bm j
  pw : K.wg < K.p
  ps : K.sb < K.p
  pm : ∀ j, j < K.s → K.bm j < K.p
  ph : K.p < h
section
variable {w w' : World} {h : Nat} {K : Ly} {M M' : Ms Ev} {f f' : Qu → Option Nat} {N N' : Nat} {l l' : List W.Ti}
theorem Ly.Up.nh (u : K.Up h) : ¬ K.X h := by
  rintro (e | e | e | ⟨j, hj, e⟩)
  · have := u.wg; have := u.pw; have := u.ph; omega
  · have := u.bg; have := u.wg; have := u.pw; have := u.ph; omega
  · have := u.ph; omega
  · have := u.pm j hj; have := u.ph; omega
end
/-- How many slots are used. -/
def cnt {α : Type} (c : List (Ce α)) : Nat := (c.filter (·.u)).length
theorem cnt_set {α : Type} [Inhabited α] (e : Ce α) : ∀ (c : List (Ce α)) (k : Nat), k < c.length → cnt (c.set k e) + (if us c k then 1 else 0) = cnt c + (if e.u then 1 else 0)
  | [], k, h => absurd h (by simp)
  | a :: c, 0, h => by
    unfold cnt us
    simp only [List.set_cons_zero, List.filter_cons, List.getD_cons_zero]
    cases a.u <;> cases e.u <;> simp
  | a :: c, k + 1, h => by
    have ih := cnt_set e c k (by simpa using h)
    have hu : us (a :: c) (k + 1) = us c k := by unfold us; simp
    unfold cnt at ih ⊢
    rw [hu]
    simp only [List.set_cons_succ, List.filter_cons]
    cases a.u
    · exact ih
    · simp only [if_true, List.length_cons]
      omega
theorem cnt_le {α : Type} (c : List (Ce α)) : cnt c ≤ c.length := List.length_filter_le _ _
/-- Nodup numbers below n are n at most. -/
theorem nodup_le : ∀ (n : Nat) (l : List Nat), l.Nodup → (∀ x ∈ l, x < n) → l.length ≤ n
  | 0, l, _, h => by
    cases l with
    | nil => exact Nat.le_refl _
    | cons a l => exact absurd (h a (List.mem_cons_self ..)) (by omega)
  | n + 1, l, hn, h => by
    have ih := nodup_le n (l.erase n) (hn.erase n) (fun x hx => by
      have h1 := h x (List.mem_of_mem_erase hx)
      have h2 : x ≠ n := fun e => by
        subst e
        exact (List.Nodup.not_mem_erase hn) hx
      omega)
    have := List.length_erase_le (a := n) (l := l)
    have h3 := List.le_length_erase (a := n) (l := l)
    omega
theorem ti_le {c : List (Ce En)} {l : List W.Ti} (h : TO c l) : l.length ≤ c.length := by
  have h1 : (l.map fun x => x.id.toNat).Nodup := by
    have := h.ord.nd
    rw [List.nodup_iff_pairwise_ne, List.pairwise_map] at this ⊢
    refine (List.Pairwise.and_mem.1 this).imp fun {a b} ⟨ha, hb, hne⟩ e => hne ?_
    have := h.nn a ha
    have := h.nn b hb
    omega
  have h2 := nodup_le c.length _ h1 (fun y hy => by
    obtain ⟨x, hx, rfl⟩ := List.mem_map.1 hy
    obtain ⟨k, e, h3, h4, _⟩ := h.mem hx
    have := W.cellOf_lt h4
    rw [tiC_len] at this
    omega)
  simpa using h2
end Go.Proofs.Ytnmgeoeppfdnhaa

/- The contracts of the program's shard: find. -/
namespace Go.Proofs.Ytnmgeoeppfdnhaa
open Go.RowKit
set_option linter.unusedVariables false

theorem results_tct {fn : Func} {p q r : Tmp} {ty : TypeId} (h : fn.results = #[.tmp p, .cell q ty, .tmp r]) (tmps : Array Value) (P : Program) (w : World) :
    (results fn tmps).run P w =
      ((asAddr (tmps.getD q undef)).run P w).andThen fun a w₁ => ((loadVar ty a).run P w₁).andThen fun v w₂ => .ok (.tuple #[tmps.getD p undef, v, tmps.getD r undef]) w₂ := by
  simp only [results, h]
  simp [Sem.run_bind, Result.andThen]
theorem ret_e3 {w : World} {fn : Func} {p q r : Tmp} {R : Ending → World → Prop} {a : Act} {g : Nat} {u v : Value} (cs : Array Value) (hs : cs.size = 7) (h : fn.results = #[.tmp p, .cell q 35, .tmp r]) (hp : a.tmps.getD p undef = u) (hq : a.tmps.getD q undef = .pointer (some ⟨g, 0, none⟩)) (hr : a.tmps.getD r undef = v) (hd : a.defers = [])
    (hg : w.heap[g]? = some (.cells cs 35 (0, 0))) (hR : R (.returned (.tuple #[u, .agg cs, v])) w) : bodyPost Try.prog fn R .ret a w := by
  refine bodyPost_ret (v := .tuple #[u, .agg cs, v]) ?_ hd hR
  rw [results_tct h, hp, hq, hr]
  simp [asAddr, Result.andThen, load_e w g cs hs hg]
theorem zE_eq : zE = (evL default).toArray := rfl
theorem below_drewN (w : World) (n : Nat) : Below w.heap.size w (w.drewN n) := ⟨rfl, rfl, rfl, Nat.le_refl _, fun _ _ => rfl⟩
/-- The world of find: the question's box, and the result's. -/
structure Fi (w : World) (q : Qu) (w1 : World) : Prop where
  bq : Blk w1 w.heap.size 25 (qf q).toArray
  br : Blk w1 (w.heap.size + 1) 35 zE
  b : Below w.heap.size w w1
  sz : w1.heap.size = w.heap.size + 2
theorem fi_of (w : World) (q : Qu) : Fi w q ((w.alloc (.cells (qf q).toArray 25)).alloc (.cells zE 35)) := by
  have h1 := Blk.new w 25 (qf q).toArray
  have hb := (Below.refl w.heap.size w).alloc (Nat.le_refl _) (Obj.cells (qf q).toArray 25)
  have es : (w.alloc (Obj.cells (qf q).toArray 25)).heap.size = w.heap.size + 1 := by simp
  generalize w.alloc (Obj.cells (qf q).toArray 25) = w1 at *
  have h2 := Blk.new w1 35 zE
  have hb2 := (Below.refl w1.heap.size w1).alloc (Nat.le_refl _) (Obj.cells zE 35)
  rw [es] at h2
  exact ⟨h1.eq (hb2.block _ h1.lt), h2, hb.trans (hb2.mono hb.size), by simp [es]⟩

/-- A variable for an entry, and the entry in it. -/
theorem box_of (w : World) (x : Ev) : Blk ((w.alloc (.cells zE 35)).setRow w.heap.size (evL x).toArray) w.heap.size 35 (evL x).toArray ∧ Below w.heap.size w ((w.alloc (.cells zE 35)).setRow w.heap.size (evL x).toArray) :=
  ⟨setRow_heap _ _ _ _ _ _ (Blk.new w 35 zE), setRow_below ((Below.refl w.heap.size w).alloc (Nat.le_refl _) _) (Nat.le_refl _) _⟩
theorem Fi.dr {w w1 : World} {q : Qu} (h : Fi w q w1) (n : Nat) : Fi w q (w1.drewN n) := ⟨h.bq, h.br, ⟨h.b.os, h.b.tape, h.b.output, h.b.size, h.b.block⟩, h.sz⟩
end Go.Proofs.Ytnmgeoeppfdnhaa

/- The contracts of slices.Clone of records; of the program's shard: Room, Keys, Len. -/
namespace Go.Proofs.Ytnmgeoeppfdnhaa
open Go.RowKit
set_option linter.unusedVariables false

def zR : Value := .agg #[.string ⟨#[]⟩, .int .u16 0, .int .u16 0, .int .u32 0, .string ⟨#[]⟩]
theorem elR : (Try.prog.info? 71).map (fun i => (i.zero, i.size, i.bytes)) = some (some zR, 5, 40) := by kernel_rfl
/-- A slice that the call has made: its block is new. -/
def Nw (B : Nat) (A : Option Addr) : Prop := ∀ b off, A = some ⟨b, off, none⟩ → B ≤ b
theorem Sl.owned {α : Type} {f : α → List Value} {w : World} {B : Nat} {e : TypeId} {k : Nat} {A : Option Addr} {cap : Nat} {l : List α} (hk : ∀ r, (f r).length = k) (h : w.ownsRow B e k (.slice A l.length cap) l.length (l.flatMap f)) : Sl f w A cap l ∧ Nw B A := by
  obtain ⟨A', cap', e1, s⟩ := Sl.own hk h
  simp only [Value.slice.injEq, true_and] at e1
  obtain ⟨rfl, rfl⟩ := e1
  refine ⟨s, fun b off hb => ?_⟩
  rcases h.2 with ⟨h1, _⟩ | ⟨g, c, cur, h1, h2, _⟩
  · simp only [Value.slice.injEq] at h1
    rw [h1.1] at hb
    cases hb
  · simp only [Value.slice.injEq] at h1
    rw [h1.1] at hb
    cases hb
    exact h2
set_option maxRecDepth 100000 in
set_option maxHeartbeats 1000000 in
theorem clone_any (A : Option Addr) (cap : Nat) (l : List Rc) (hs : l.length ≤ 3518437208883) (w : World) (hI : Sl rf w A cap l) :
    Calls Try.prog 30 #[.slice A l.length cap] w fun e w' => ∃ A' cap', e = .returned (.slice A' l.length cap') ∧ Sl rf w' A' cap' l ∧ Nw w.heap.size A' ∧ Below w.heap.size w w' := by
  have qn : ∀ (w : World) (a : Option Addr) (n c n' c' : Nat), (binOp .eql 32 (.slice a n c) (.slice none n' c')).run Try.prog w = .ok (.bool a.isNone) w := fun w a n c n' c' => Lib.run_eql_slice_nil w _ _ a n c n' c' Try.underlying32
  cases A with
  | none =>
    obtain rfl := hI.empty rfl
    have hz := hI.nl rfl
    subst hz
    go_enter Try.func30, Try.ntmps30
    go_wp2_with fail
    go_ret
    exact ⟨none, 0, rfl, Sl.nil _ _, (fun b off h => by cases h), Below.refl _ _⟩
  | some a =>
    obtain ⟨i0, hi, hz0, hz1, hz2⟩ := el_of elR
    have HI := Lib.hid hI.src
    clear hI
    go_enter Try.func30, Try.ntmps30
    go_wp2_with (at_builtin; refine wpList_append_own _ rfl _ _ 32 rfl w.heap.size 71 i0 zR 5 40 Try.underlying32 hi hz0 hz1 hz2 rfl (by decide) _ _ _ rfl (World.ownsRow_made w #[] 0 (Nat.le_refl _) (Nat.zero_le _) (by simp)) a l.length cap (l.flatMap rf) rfl (flat_len rf_len l) ?qc2 (rf_one l) ?qc4 ?qc5 ?qc6 ?_)
    case qc2 =>
      intro j u hj
      exact Lib.cell?_alloc_some _ (HI.out j u hj)
    case qc4 => unfold maxLen; omega
    case qc5 => omega
    case qc6 => simp
    intro v' w1 hown hgrow hnil
    have hown2 : w1.ownsRow w.heap.size 71 5 v' l.length (l.flatMap rf) := by simpa using hown
    have hb := ((Below.refl _ w).alloc (Nat.le_refl _) (Obj.cells #[] 71)).grown hgrow (by simp) (by intro k hk; simp [Value.ownBlock] at hk; omega)
    obtain ⟨A', cap', rfl⟩ := ownR_form hown2
    have HF := Lib.hid (And.intro (Sl.owned rf_len hown2) hb)
    clear hown hown2 hgrow hnil hb
    go_wp2_with fail
    go_ret
    exact ⟨A', cap', rfl, HF.out.1.1, HF.out.1.2, HF.out.2⟩

theorem keys_all (c : List (Ce En)) : keysOf c = (allC c c.length).map (qAt c) := by
  unfold keysOf allC
  have e : c = (List.range c.length).map fun i => c.getD i Z0 := by
    apply List.ext_getElem
    · simp
    · intro i h1 h2
      simp [h1]
  have key : ∀ l : List Nat, ((l.map fun i => c.getD i Z0).filter (·.u)).map (·.x.q) = (l.filter (us c)).map (qAt c) := by
    intro l
    rw [List.filter_map, List.map_map]
    rfl
  calc (c.filter (·.u)).map (·.x.q) = (((List.range c.length).map fun i => c.getD i Z0).filter (·.u)).map (·.x.q) := by rw [← e]
    _ = _ := key _
theorem keys_len (c : List (Ce En)) : (keysOf c).length = cnt c := by unfold keysOf cnt; rw [List.length_map]
theorem all_pc (c : List (Ce Ev)) (k : Nat) : allC (pc c) k = allC c k := by
  unfold allC
  rw [show us (pc c) = us c from funext (us_pc c)]
theorem cnt_pc (c : List (Ce Ev)) : cnt (pc c) = cnt c := by
  unfold cnt pc
  rw [List.filter_map, List.length_map]
  rfl
theorem newQ (W : World) (x : Qu) : ∀ j u, (qf x)[j]? = some u → (W.alloc (.cells #[.string x.n, .int .u16 (x.k : Nat), .int .u16 (x.c : Nat)] 25)).cell? ((⟨W.heap.size, 0, none⟩ : Addr).add j) = some u := fun j u hj => by
  have h := heap_alloc_new W (Obj.cells #[.string x.n, .int .u16 (x.k : Nat), .int .u16 (x.c : Nat)] 25)
  rw [Addr.add_lit, Nat.zero_add, blk_cell h j, ← hj]
  simp [qf]
theorem qAt_pc (c : List (Ce Ev)) (k : Nat) : qAt (pc c) k = (c.getD k Z0).x.e.q := by unfold qAt; rw [pc_getD]; rfl
end Go.Proofs.Ytnmgeoeppfdnhaa

/- The contracts of ttl.Live, rank.Beats; of the program's shard: Lookup, Evict. -/
namespace Go.Proofs.Ytnmgeoeppfdnhaa
open Go.RowKit
set_option linter.unusedVariables false

theorem q_cells {w : World} {g : Nat} {t : TypeId} {q : Qu} (h : Blk w g t (qf q).toArray) : w.cell? ⟨g, 0, none⟩ = some (.string q.n) ∧ w.cell? ⟨g, 1, none⟩ = some (.int .u16 (q.k : Nat)) ∧ w.cell? ⟨g, 2, none⟩ = some (.int .u16 (q.c : Nat)) := ⟨h.cell 0, h.cell 1, h.cell 2⟩
theorem e_cells {w : World} {g : Nat} {t : TypeId} {x : Ev} (h : Blk w g t (evL x).toArray) : w.cell? ⟨g, 0, none⟩ = some (.string x.e.q.n) ∧ w.cell? ⟨g, 1, none⟩ = some (.int .u16 (x.e.q.k : Nat)) ∧ w.cell? ⟨g, 2, none⟩ = some (.int .u16 (x.e.q.c : Nat)) ∧
    w.cell? ⟨g, 3, none⟩ = some (.slice x.A x.e.l.length x.cap) ∧ w.cell? ⟨g, 4, none⟩ = some (.int .i64 x.e.rc) ∧ w.cell? ⟨g, 5, none⟩ = some (.int .i64 x.e.rk) ∧ w.cell? ⟨g, 6, none⟩ = some (.int .u64 (x.e.ex : Nat)) := ⟨h.cell 0, h.cell 1, h.cell 2, h.cell 3, h.cell 4, h.cell 5, h.cell 6⟩
theorem live_any (e n : Nat) (w : World) : Calls Try.prog 29 #[.int .u64 (e : Nat), .int .u64 (n : Nat)] w fun x w' => x = .returned (.bool (decide (n < e))) ∧ w' = w := by
  go_enter Try.func29, Try.ntmps29
  go_wp2_with fail
  go_ret
  exact ⟨rfl, rfl⟩
set_option maxHeartbeats 1000000 in
theorem beats_any (x y : Ev) (now : Nat) (w : World) :
    Calls Try.prog 31 #[evV x, evV y, .int .u64 (now : Nat)] w fun e w' => e = .returned (.bool (btE x.e y.e now)) ∧ Below w.heap.size w w' := by
  rw [evV_eq, evV_eq]
  have HB := Lib.hid (fun o o' => ((Below.refl w.heap.size w).alloc (Nat.le_refl _) o).alloc (by simp) o')
  have HL := Lib.hid (fun W => live_any x.e.ex now W)
  by_cases h : now < x.e.ex
  · have HR := Lib.hid (show btE x.e y.e now = decide (x.e.rk ≤ y.e.rk) by unfold btE; simp [h])
    have hd : decide (now < x.e.ex) = true := by simpa using h
    clear h
    go_enter Try.func31, Try.ntmps31
    go_wp2_with (go_at_call 29; (with_reducible (refine (HL.out _).mono ?_)); rintro e w1 ⟨rfl, rfl⟩)
    go_ret
    exact ⟨by rw [HR.out]; rfl, HB.out _ _⟩
  · have HR := Lib.hid (show btE x.e y.e now = true by unfold btE; simp [h])
    have hd : decide (now < x.e.ex) = false := by simpa using h
    clear h
    go_enter Try.func31, Try.ntmps31
    go_wp2_with (go_at_call 29; (with_reducible (refine (HL.out _).mono ?_)); rintro e w1 ⟨rfl, rfl⟩)
    go_ret
    exact ⟨by rw [HR.out]; rfl, HB.out _ _⟩

end Go.Proofs.Ytnmgeoeppfdnhaa

/- Entries, deeds of shards, slices of deeds and questions as arguments are read. -/
namespace Go.Proofs.Ytnmgeoeppfdnhaa
open Go.ChangeShapes Go.WideShapes Go.ChangeAt Go.RowKit Go.Deep
set_option linter.unusedVariables false
theorem laidOut : laidOutB Try.prog = true := by kernel_rfl
theorem readE : Try.prog.readableRec 35 = true := by kernel_rfl
theorem sizeE : 35 < Try.prog.types.size := by decide +kernel
theorem readD : Try.prog.readableRec 37 = true := by kernel_rfl
theorem sizeD : 37 < Try.prog.types.size := by decide +kernel
theorem readZ : Try.prog.readableRec 22 = true := by kernel_rfl
theorem sizeZ : 22 < Try.prog.types.size := by decide +kernel
theorem readq : Try.prog.readableRec 25 = true := by kernel_rfl
theorem sizeq : 25 < Try.prog.types.size := by decide +kernel
theorem cell_E : Try.prog.cellsOf 35 = 7 := by kernel_rfl
theorem cell_D : Try.prog.cellsOf 37 = 9 := by kernel_rfl
theorem cell_R : Try.prog.cellsOf 71 = 5 := by kernel_rfl
theorem cell_Rs : Try.prog.cellsOf 32 = 1 := by kernel_rfl
theorem cell_u16 : Try.prog.cellsOf 23 = 1 := by kernel_rfl
theorem cell_u32 : Try.prog.cellsOf 42 = 1 := by kernel_rfl
theorem cell_u64 : Try.prog.cellsOf 33 = 1 := by kernel_rfl
theorem cell_int : Try.prog.cellsOf 3 = 1 := by kernel_rfl
theorem cell_s : Try.prog.cellsOf 9 = 1 := by kernel_rfl
theorem byteR : Try.prog.bytesOf 71 = 40 := by kernel_rfl
theorem nat_u16 {n : Int} (h : (Lit.int .u16 n).wf = true) : ∃ k : Nat, n = k ∧ k < 65536 := by
  simp [Lit.wf, IntKind.min, IntKind.max, IntKind.signed, IntKind.bits] at h
  exact ⟨n.toNat, by omega, by omega⟩
theorem nat_u8 {n : Int} (h : (Lit.int .u8 n).wf = true) : ∃ k : Nat, n = k ∧ k < 256 := by
  simp [Lit.wf, IntKind.min, IntKind.max, IntKind.signed, IntKind.bits] at h
  exact ⟨n.toNat, by omega, by omega⟩
theorem nat_u32 {n : Int} (h : (Lit.int .u32 n).wf = true) : ∃ k : Nat, n = k ∧ k < 4294967296 := by
  simp [Lit.wf, IntKind.min, IntKind.max, IntKind.signed, IntKind.bits] at h
  exact ⟨n.toNat, by omega, by omega⟩
theorem nat_u64 {n : Int} (h : (Lit.int .u64 n).wf = true) : ∃ k : Nat, n = k ∧ k < 18446744073709551616 := by
  simp [Lit.wf, IntKind.min, IntKind.max, IntKind.signed, IntKind.bits] at h
  exact ⟨n.toNat, by omega, by omega⟩
theorem cell_lt {w : World} {p : Addr} {v : Value} (h : w.cell? p = some v) : p.block < w.heap.size := cell_size h
/-- An entry that came in. -/
structure Arg (w : World) (x : Ev) : Prop where
  sl : Sl rf w x.A x.cap x.e.l
  q : x.e.q.Fine
  ex : x.e.ex < 18446744073709551616
  sm : x.e.l.length ≤ 3518437208883
theorem Arg.low {w w' : World} {x : Ev} (h : Arg w x) (hb : Below w.heap.size w w') : Arg w' x := ⟨h.sl.below' hb, h.q, h.ex, h.sm⟩
/-- A deed. -/
structure Dd where
  k : Int
  x : Ev
  now : Nat
instance : Inhabited Dd := ⟨⟨0, default, 0⟩⟩
instance : Inhabited Rc := ⟨Rc.zero⟩
def df (d : Dd) : List Value := .int .i64 d.k :: (evL d.x ++ [.int .u64 (d.now : Nat)])
theorem df_len (d : Dd) : (df d).length = 9 := rfl
/-- A deed that came in. -/
structure ArgD (w : World) (d : Dd) : Prop where
  x : Arg w d.x
  now : d.now < 18446744073709551616
section
variable {H : Type} {enc : TypeId × Value → H} {w : World} {base : Nat} {sp : Nat → Bool} {held : Bool}
set_option maxRecDepth 100000 in
theorem rr_cells {fuel : Nat} {cs : List Value} {x : DataW H × List MemPlace} (h : DataW.trod enc Try.prog w base sp held fuel 71 cs = some x) :
    ∃ r : Rc, cs = rf r ∧ r.Ok := by
  obtain ⟨xs, n, _, _, hlen, hxl, hf⟩ := DataW.trod_struct Try.underlying71 h
  rw [cell_R] at hlen
  have hxl' : xs.length = 5 := hxl
  have h0 : DataW.trod enc Try.prog w base sp held n 9 ((cs.drop 0).take (Try.prog.cellsOf 9)) = xs[0]? := hf 0 _ rfl
  have h1 : DataW.trod enc Try.prog w base sp held n 23 ((cs.drop 1).take (Try.prog.cellsOf 23)) = xs[1]? := hf 1 _ rfl
  have h2 : DataW.trod enc Try.prog w base sp held n 23 ((cs.drop 2).take (Try.prog.cellsOf 23)) = xs[2]? := hf 2 _ rfl
  have h3 : DataW.trod enc Try.prog w base sp held n 42 ((cs.drop 3).take (Try.prog.cellsOf 42)) = xs[3]? := hf 3 _ rfl
  have h4 : DataW.trod enc Try.prog w base sp held n 9 ((cs.drop 4).take (Try.prog.cellsOf 9)) = xs[4]? := hf 4 _ rfl
  rw [List.getElem?_eq_getElem (by omega), cell_s] at h0 h4
  rw [List.getElem?_eq_getElem (by omega), cell_u16] at h1 h2
  rw [List.getElem?_eq_getElem (by omega), cell_u32] at h3
  match cs, hlen with
  | [v0, v1, v2, v3, v4], _ =>
    obtain ⟨a0, e0, _, s0⟩ := DataW.trod_string Try.underlying9 h0
    obtain ⟨a1, e1, _, s1⟩ := DataW.trod_int Try.underlying23 h1
    obtain ⟨a2, e2, _, s2⟩ := DataW.trod_int Try.underlying23 h2
    obtain ⟨a3, e3, _, s3⟩ := DataW.trod_int Try.underlying42 h3
    obtain ⟨a4, e4, _, s4⟩ := DataW.trod_string Try.underlying9 h4
    obtain ⟨k, rfl, hk⟩ := nat_u16 s1
    obtain ⟨c, rfl, hc⟩ := nat_u16 s2
    obtain ⟨t, rfl, ht⟩ := nat_u32 s3
    simp at e0 e1 e2 e3 e4
    exact ⟨⟨a0, k, c, t, a4⟩, by rw [e0, e1, e2, e3, e4]; rfl, ⟨hk, hc, ht⟩⟩
set_option maxRecDepth 100000 in
theorem q_read {fuel : Nat} {cs : List Value} {x : DataW H × List MemPlace} (h : DataW.trod enc Try.prog w base sp held fuel 25 cs = some x) :
    ∃ q : Qu, cs = qf q ∧ q.Fine := by
  obtain ⟨ys, m, _, _, hlen, hyl, hq⟩ := DataW.trod_struct Try.underlying25 h
  rw [cellsQ] at hlen
  have hyl' : ys.length = 3 := hyl
  have q0 : DataW.trod enc Try.prog w base sp held m 9 ((cs.drop 0).take (Try.prog.cellsOf 9)) = ys[0]? := hq 0 _ rfl
  have q1 : DataW.trod enc Try.prog w base sp held m 23 ((cs.drop 1).take (Try.prog.cellsOf 23)) = ys[1]? := hq 1 _ rfl
  have q2 : DataW.trod enc Try.prog w base sp held m 23 ((cs.drop 2).take (Try.prog.cellsOf 23)) = ys[2]? := hq 2 _ rfl
  rw [List.getElem?_eq_getElem (by omega), cell_s] at q0
  rw [List.getElem?_eq_getElem (by omega), cell_u16] at q1 q2
  match cs, hlen with
  | [v0, v1, v2], _ =>
    obtain ⟨a0, e0, _, s0⟩ := DataW.trod_string Try.underlying9 q0
    obtain ⟨a1, e1, _, s1⟩ := DataW.trod_int Try.underlying23 q1
    obtain ⟨a2, e2, _, s2⟩ := DataW.trod_int Try.underlying23 q2
    obtain ⟨t, rfl, ht⟩ := nat_u16 s1
    obtain ⟨c, rfl, hc⟩ := nat_u16 s2
    simp at e0 e1 e2
    exact ⟨⟨a0, t, c⟩, by rw [e0, e1, e2]; rfl, ⟨s0, ht, hc⟩⟩
end
/-- Elements that lie one behind the other. -/
theorem sl_of {α : Type} [Inhabited α] {f : α → List Value} {k : Nat} (hk : ∀ r, (f r).length = k) (hk0 : 0 < k) {G : α → Prop} {W : World} {a : Addr} {len cap : Nat} (hl : len ≤ cap) (each : ∀ i, i < len → ∃ r : α, G r ∧ W.cells? 0 (a.add (i * k)) k = some (f r)) :
    ∃ l : List α, l.length = len ∧ Sl f W (some a) cap l ∧ ∀ r ∈ l, G r := by
  obtain ⟨Q, hQ⟩ := choose_lt each
  refine ⟨(List.range len).map Q, by simp, ⟨(fun h => by cases h), by simpa using hl, ?_⟩, fun r hr => ?_⟩
  · rcases Nat.eq_zero_or_pos len with h0 | h0
    · left
      rw [h0]
      rfl
    · right
      obtain ⟨_, _, hatz⟩ := World.cells?_some (hQ 0 h0).2
      have qz := hatz 0 hk0
      rw [List.getElem?_eq_getElem (by rw [hk]; exact hk0)] at qz
      obtain ⟨sb, so, spot⟩ := a
      have hspot : spot = none := by simpa [Addr.add] using World.cell?_spot qz
      subst hspot
      have hlt : sb < W.heap.size := by simpa [Addr.add] using cell_lt qz
      refine ⟨sb, so, rfl, hlt, fun j u hj => ?_⟩
      have hjl : j < len * k := by
        have := (List.getElem?_eq_some_iff.1 hj).1
        rw [flat_len hk] at this
        simpa using this
      have hi : j / k < len := Nat.div_lt_of_lt_mul (by rw [Nat.mul_comm]; exact hjl)
      have hm : j % k < k := Nat.mod_lt _ hk0
      have hjj : j / k * k + j % k = j := by rw [Nat.mul_comm]; exact Nat.div_add_mod j k
      have hfa := flat_at hk ((List.range len).map Q) (j / k) (j % k) (by simpa using hi) hm
      rw [hjj, hj] at hfa
      simp only [List.getElem_map, List.getElem_range] at hfa
      obtain ⟨_, _, hat⟩ := World.cells?_some (hQ (j / k) hi).2
      have hc := hat (j % k) hm
      rw [add_plain, add_plain, Nat.add_assoc, hjj] at hc
      rw [hc]
      exact hfa.symm
  · obtain ⟨i, hi', rfl⟩ := List.mem_map.1 hr
    exact (hQ i (List.mem_range.1 hi')).1
section
variable {H : Type} {enc : TypeId × Value → H} {W : World}
theorem rrs_cell {fuel : Nat} {c : Value} {x : DataW H × List MemPlace} (hf : DataW.trod enc Try.prog W 0 (fun _ => true) true fuel 32 [c] = some x) (hw : ∀ n ∈ x.1.weights Try.prog 32, n ≤ reachBytes) : ∃ A cap l, c = .slice A l.length cap ∧ Sl rf W A cap l ∧ l.length ≤ 3518437208883 := by
  rcases open_slice Try.underlying32 hf with ⟨hcs, hx⟩ | ⟨a, len, cap, m, n, D, Pl, hcs, _, hl, hm, hmm, hx, hi⟩
  · simp at hcs
    subst hcs
    exact ⟨none, 0, [], rfl, Sl.nil _ _, by simp⟩
  · simp at hcs
    subst hcs
    simp only [if_true] at hmm
    rw [cell_R] at hi
    obtain ⟨l, h1, h2, h3⟩ := sl_of (f := rf) (G := Rc.Ok) rf_len (by decide) hl (fun i hil => by
      obtain ⟨cs', g1, g2⟩ := hi i (by omega)
      obtain ⟨r, rfl, g4⟩ := rr_cells g2
      exact ⟨r, g4, g1⟩)
    refine ⟨some a, cap, l, by rw [h1], h2, ?_⟩
    have := hw ((((List.range len).map D).length + ((List.range (m - len)).map fun j => D (len + j)).length) * Try.prog.bytesOf 71) (by rw [hx]; simp only [DataW.weights, Try.underlying32]; exact List.mem_cons_self ..)
    rw [byteR] at this
    simp only [List.length_map, List.length_range] at this
    have := reachBytes_lt
    omega
set_option maxRecDepth 100000 in
theorem entry_read {fuel : Nat} {cs : List Value} {x : DataW H × List MemPlace} (h : DataW.trod enc Try.prog W 0 (fun _ => true) true fuel 35 cs = some x) (hw : ∀ n ∈ x.1.weights Try.prog 35, n ≤ reachBytes) : ∃ e : Ev, cs = evL e ∧ Arg W e := by
  obtain ⟨xs, n, _, hxe, hlen, hxl, hfs⟩ := DataW.trod_struct Try.underlying35 h
  rw [cell_E] at hlen
  have hxl' : xs.length = 5 := hxl
  have h0 : DataW.trod enc Try.prog W 0 (fun _ => true) true n 25 ((cs.drop 0).take (Try.prog.cellsOf 25)) = xs[0]? := hfs 0 _ rfl
  have h1 : DataW.trod enc Try.prog W 0 (fun _ => true) true n 32 ((cs.drop 3).take (Try.prog.cellsOf 32)) = xs[1]? := hfs 1 _ rfl
  have h2 : DataW.trod enc Try.prog W 0 (fun _ => true) true n 3 ((cs.drop 4).take (Try.prog.cellsOf 3)) = xs[2]? := hfs 2 _ rfl
  have h3 : DataW.trod enc Try.prog W 0 (fun _ => true) true n 3 ((cs.drop 5).take (Try.prog.cellsOf 3)) = xs[3]? := hfs 3 _ rfl
  have h4 : DataW.trod enc Try.prog W 0 (fun _ => true) true n 33 ((cs.drop 6).take (Try.prog.cellsOf 33)) = xs[4]? := hfs 4 _ rfl
  rw [List.getElem?_eq_getElem (by omega), cellsQ] at h0
  rw [List.getElem?_eq_getElem (by omega), cell_Rs] at h1
  rw [List.getElem?_eq_getElem (by omega), cell_int] at h2 h3
  rw [List.getElem?_eq_getElem (by omega), cell_u64] at h4
  match cs, hlen with
  | [v0, v1, v2, v3, v4, v5, v6], _ =>
    obtain ⟨q, hq, hqf⟩ := q_read h0
    simp only [List.drop_zero, List.take_succ_cons, List.take_zero, qf, List.cons.injEq, and_true] at hq
    obtain ⟨rfl, rfl, rfl⟩ := hq
    obtain ⟨A, cap, l, e1, hsl, hll⟩ := rrs_cell h1 (fun n hn => hw n (by
      rw [hxe]
      simp only [DataW.weights, Try.underlying35]
      exact DataW.weights_mem_each (j := 1) (t := 32) rfl (by rw [List.getElem?_map, List.getElem?_eq_getElem (by omega)]; rfl) n hn))
    obtain ⟨a4, e4, _, s4⟩ := DataW.trod_int Try.underlying3 h2
    obtain ⟨a5, e5, _, s5⟩ := DataW.trod_int Try.underlying3 h3
    obtain ⟨a6, e6, _, s6⟩ := DataW.trod_int Try.underlying33 h4
    obtain ⟨ex, rfl, hex⟩ := nat_u64 s6
    simp at e4 e5 e6
    exact ⟨⟨⟨q, l, a4, a5, ex⟩, A, cap⟩, by rw [e1, e4, e5, e6]; rfl, ⟨hsl, hqf, hex, hll⟩⟩
set_option maxRecDepth 100000 in
theorem deed_read {fuel : Nat} {cs : List Value} {x : DataW H × List MemPlace} (h : DataW.trod enc Try.prog W 0 (fun _ => true) true fuel 37 cs = some x) (hw : ∀ n ∈ x.1.weights Try.prog 37, n ≤ reachBytes) : ∃ d : Dd, cs = df d ∧ ArgD W d := by
  obtain ⟨xs, n, _, hxe, hlen, hxl, hfs⟩ := DataW.trod_struct Try.underlying37 h
  rw [cell_D] at hlen
  have hxl' : xs.length = 3 := hxl
  have h0 : DataW.trod enc Try.prog W 0 (fun _ => true) true n 3 ((cs.drop 0).take (Try.prog.cellsOf 3)) = xs[0]? := hfs 0 _ rfl
  have h1 : DataW.trod enc Try.prog W 0 (fun _ => true) true n 35 ((cs.drop 1).take (Try.prog.cellsOf 35)) = xs[1]? := hfs 1 _ rfl
  have h2 : DataW.trod enc Try.prog W 0 (fun _ => true) true n 33 ((cs.drop 8).take (Try.prog.cellsOf 33)) = xs[2]? := hfs 2 _ rfl
  rw [List.getElem?_eq_getElem (by omega), cell_int] at h0
  rw [List.getElem?_eq_getElem (by omega), cell_E] at h1
  rw [List.getElem?_eq_getElem (by omega), cell_u64] at h2
  match cs, hlen with
  | [v0, v1, v2, v3, v4, v5, v6, v7, v8], _ =>
    obtain ⟨a0, e0, _, s0⟩ := DataW.trod_int Try.underlying3 h0
    obtain ⟨e, he, ha⟩ := entry_read h1 (fun n hn => hw n (by
      rw [hxe]
      simp only [DataW.weights, Try.underlying37]
      exact DataW.weights_mem_each (j := 1) (t := 35) rfl (by rw [List.getElem?_map, List.getElem?_eq_getElem (by omega)]; rfl) n hn))
    obtain ⟨a8, e8, _, s8⟩ := DataW.trod_int Try.underlying33 h2
    obtain ⟨now, rfl, hnow⟩ := nat_u64 s8
    simp only [List.drop_succ_cons, List.drop_zero, List.take_succ_cons, List.take_zero] at he
    simp at e0 e8
    refine ⟨⟨a0, e, now⟩, ?_, ⟨ha, hnow⟩⟩
    unfold df
    simp only
    rw [← he, e0, e8]
    rfl
theorem deeds_cell {fuel : Nat} {c : Value} {x : DataW H × List MemPlace} (hf : DataW.trod enc Try.prog W 0 (fun _ => true) true fuel 22 [c] = some x) (hw : ∀ n ∈ x.1.weights Try.prog 22, n ≤ reachBytes) : ∃ A cap l, c = .slice A l.length cap ∧ Sl df W A cap l ∧ ∀ d ∈ l, ArgD W d := by
  rcases open_slice Try.underlying22 hf with ⟨hcs, hx⟩ | ⟨a, len, cap, m, n, D, Pl, hcs, _, hl, hm, hmm, hx, hi⟩
  · simp at hcs
    subst hcs
    exact ⟨none, 0, [], rfl, Sl.nil _ _, fun d hd => by cases hd⟩
  · simp at hcs
    subst hcs
    simp only [if_true] at hmm
    rw [cell_D] at hi
    have hall : ∀ (ds : List (DataW H)) (d : DataW H), d ∈ ds → ∀ n ∈ d.weights Try.prog 37, n ∈ DataW.weightsAll Try.prog 37 ds := by
      intro ds
      induction ds with
      | nil => intro d hd; cases hd
      | cons a ds ih =>
        intro d hd n hn
        simp only [DataW.weightsAll, List.mem_append]
        rcases List.mem_cons.1 hd with rfl | hd
        · exact .inl hn
        · exact .inr (ih d hd n hn)
    obtain ⟨l, h1, h2, h3⟩ := sl_of (f := df) (G := ArgD W) df_len (by decide) hl (fun i hil => by
      obtain ⟨cs', g1, g2⟩ := hi i (by omega)
      obtain ⟨d, rfl, g4⟩ := deed_read g2 (fun n hn => hw n (by
        rw [hx]
        simp only [DataW.weights, Try.underlying22]
        refine List.mem_cons_of_mem _ (List.mem_append.2 (.inl (hall _ (D i) (List.mem_map.2 ⟨i, List.mem_range.2 hil, rfl⟩) n hn)))))
      exact ⟨d, g4, g1⟩)
    exact ⟨some a, cap, l, by rw [h1], h2, h3⟩
end
section
variable {H : Type} {enc : TypeId × Value → H} {W : World} {base : Nat} {v : Value} {d : DataW H} {ps : List MemPlace}
set_option maxRecDepth 100000 in
theorem open_ent (hok : Value.okWide Try.prog W .any base 35 v) (h : DataW.Trod enc Try.prog W 0 (fun _ => true) true 35 v d ps) (hw : ∀ n ∈ d.weights Try.prog 35, n ≤ reachBytes) : ∃ x : Ev, v = evV x ∧ Arg W x := by
  obtain ⟨cs, rfl, hsz⟩ := okWide_struct Try.underlying35 hok
  obtain ⟨fuel, hf⟩ := h
  obtain ⟨e, he, ha⟩ := entry_read hf hw
  refine ⟨e, ?_, ha⟩
  unfold evV
  rw [← he]
  rfl
set_option maxRecDepth 100000 in
theorem open_deed (hok : Value.okWide Try.prog W .any base 37 v) (h : DataW.Trod enc Try.prog W 0 (fun _ => true) true 37 v d ps) (hw : ∀ n ∈ d.weights Try.prog 37, n ≤ reachBytes) : ∃ x : Dd, v = .agg (df x).toArray ∧ ArgD W x := by
  obtain ⟨cs, rfl, hsz⟩ := okWide_struct Try.underlying37 hok
  obtain ⟨fuel, hf⟩ := h
  obtain ⟨e, he, ha⟩ := deed_read hf hw
  refine ⟨e, ?_, ha⟩
  rw [← he]
  rfl
set_option maxRecDepth 100000 in
theorem open_deeds (hok : Value.okWide Try.prog W .any base 22 v) (h : DataW.Trod enc Try.prog W 0 (fun _ => true) true 22 v d ps) (hw : ∀ n ∈ d.weights Try.prog 22, n ≤ reachBytes) : ∃ A cap l, v = .slice A l.length cap ∧ Sl df W A cap l ∧ ∀ d ∈ l, ArgD W d := by
  obtain ⟨a0, len, cap, rfl⟩ := okWide_slice Try.underlying22 hok
  obtain ⟨fuel, hf⟩ := h
  exact deeds_cell hf hw
set_option maxRecDepth 100000 in
theorem open_qq (hok : Value.okWide Try.prog W .any base 25 v) (h : DataW.Trod enc Try.prog W 0 (fun _ => true) true 25 v d ps) (hw : ∀ n ∈ d.weights Try.prog 25, n ≤ reachBytes) : ∃ q : Qu, v = qV q ∧ q.Fine := by
  obtain ⟨cs, rfl, hsz⟩ := okWide_struct Try.underlying25 hok
  obtain ⟨fuel, hf⟩ := h
  obtain ⟨q, he, hq⟩ := q_read hf
  refine ⟨q, ?_, hq⟩
  have e1 : cs.toList = qf q := he
  obtain ⟨L⟩ := cs
  simp only at e1
  subst e1
  rfl
end
/-- What a law's argument weighs. -/
theorem weigh {H : Type} {P : Program} {ts : List TypeId} {ds : List (DataW H)} (h : (DataW.weightsEach P ts ds).all (· ≤ reachBytes) = true) {j : Nat} {t : TypeId} {d : DataW H} (ht : ts[j]? = some t) (hd : ds[j]? = some d) : ∀ n ∈ d.weights P t, n ≤ reachBytes := fun n hn => by
  have := List.all_eq_true.1 h _ (DataW.weights_mem_each ht hd n hn)
  simpa using this
end Go.Proofs.Ytnmgeoeppfdnhaa

/- A shard: what its memory and its mathematics say; Advance. -/
namespace Go.Proofs.Ytnmgeoeppfdnhaa
open Go.RowKit
set_option linter.unusedVariables false

theorem ownR_ch {X : Nat → Prop} {w w' : World} {B : Nat} {e : TypeId} {k : Nat} {v : Value} {n : Nat} {xs : List Value} (h : w.ownsRow B e k v n xs) (hc : Ch X w w') (hX : ∀ i, X i → i < B) : w'.ownsRow B e k v n xs := by
  refine ⟨h.1, ?_⟩
  rcases h.2 with h1 | ⟨g, cap, cur, h1, h2, h3, h4⟩
  · exact .inl h1
  · exact .inr ⟨g, cap, cur, h1, h2, (hc.block g (heap_lt h3) (fun e => by have := hX g e; omega)).trans h3, h4⟩

end Go.Proofs.Ytnmgeoeppfdnhaa
