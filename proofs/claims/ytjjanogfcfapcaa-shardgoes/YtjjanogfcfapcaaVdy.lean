/- What is due, told by its questions: mathematics for ShardDue. -/
import Derived.Test.YtjjanogfcfapcaaBvc
namespace Go.Proofs.Ytjjanogfcfapcaa.D
set_option linter.unusedVariables false

theorem nodup_len : ∀ {l1 l2 : List Nat}, l1.Nodup → (∀ x ∈ l1, x ∈ l2) → l1.length ≤ l2.length
  | [], l2, _, _ => Nat.zero_le _
  | a :: t, l2, n1, sub => by
    rw [List.nodup_cons] at n1
    have ha := sub a (List.mem_cons_self ..)
    have h1 := nodup_len (l1 := t) (l2 := l2.erase a) n1.2 (fun x hx => (List.mem_erase_of_ne (fun e => by subst e; exact n1.1 hx)).2 (sub x (List.mem_cons_of_mem _ hx)))
    rw [List.length_erase_of_mem ha] at h1
    have h2 := List.length_pos_of_mem ha
    rw [List.length_cons]
    omega
theorem nodup_eq {l1 l2 : List Nat} (n1 : l1.Nodup) (n2 : l2.Nodup) (h : ∀ x, x ∈ l1 ↔ x ∈ l2) : l1.length = l2.length := Nat.le_antisymm (nodup_len n1 fun x hx => (h x).1 hx) (nodup_len n2 fun x hx => (h x).2 hx)
section
variable {c : List (Ce En)} {l : List W.Ti}
def exA (c : List (Ce En)) (k : Nat) : Nat := (c.getD k Z0).x.ex
theorem allC_nodup (c : List (Ce En)) (k : Nat) : (allC c k).Nodup := List.Nodup.sublist List.filter_sublist List.nodup_range
theorem mem_allC {k j : Nat} : j ∈ allC c k ↔ j < k ∧ us c j = true := by unfold allC; rw [List.mem_filter, List.mem_range]
theorem cnt_all (c : List (Ce En)) : cnt c = (allC c c.length).length := by rw [← keys_len, keys_all, List.length_map]
theorem due_len (h : TO c l) (now : Nat) : ((allC c c.length).filter fun k => decide (exA c k ≤ now)).length = (W.dueL l now).length := by
  have h1 : (W.dueL l now).length = ((W.dueL l now).map fun x => x.id.toNat).length := by rw [List.length_map]
  rw [h1]
  refine nodup_eq (List.Nodup.sublist List.filter_sublist (allC_nodup _ _)) (due_nodup h now) (fun k => ?_)
  rw [List.mem_filter, mem_allC, List.mem_map]
  constructor
  · rintro ⟨⟨hk, hu⟩, he⟩
    have h2 := h.used hu
    have h3 := (W.mem_due h.ord (now := now) (x := ⟨k, (c.getD k Z0).x.ex⟩)).2 ⟨(W.look_mem h.ord.nd).1 h2, of_decide_eq_true he⟩
    exact ⟨_, h3, rfl⟩
  · rintro ⟨x, hx, rfl⟩
    obtain ⟨k, h2, h3, h4, h5⟩ := h.slot (due_sub l now x hx)
    have h6 := ((W.mem_due h.ord).1 hx).2
    rw [h2]
    refine ⟨⟨h3, h4⟩, decide_eq_true ?_⟩
    show (c.getD k Z0).x.ex ≤ now
    rw [h5]
    exact h6
theorem to_cnt (h : TO c l) : l.length = cnt c := by
  have h1 : l.length = (l.map fun x => x.id.toNat).length := by rw [List.length_map]
  rw [h1, cnt_all]
  refine nodup_eq ?_ (allC_nodup _ _) (fun k => ?_)
  · rw [List.Nodup, List.pairwise_map]
    have h2 : l.Pairwise fun a b => a.id ≠ b.id := by
      have := h.ord.nd
      rw [List.Nodup, List.pairwise_map] at this
      exact this
    refine h2.imp_of_mem ?_
    intro a b ha hb hab he
    obtain ⟨k, h3, _⟩ := h.slot ha
    obtain ⟨k', h4, _⟩ := h.slot hb
    rw [h3, h4] at he hab
    have h5 : k = k' := by simpa using he
    exact hab (by rw [h5])
  · rw [mem_allC, List.mem_map]
    constructor
    · rintro ⟨x, hx, rfl⟩
      obtain ⟨k, h2, h3, h4, _⟩ := h.slot hx
      rw [h2]
      exact ⟨h3, h4⟩
    · rintro ⟨hk, hu⟩
      exact ⟨_, h.used hu, rfl⟩
theorem mem_gone (h : TO c l) (hq : Uq c) {now k : Nat} (hk : k < c.length) (hu : us c k = true) : qAt c k ∈ goneQ c (W.dueL l now) ↔ exA c k ≤ now := by
  unfold goneQ
  rw [List.mem_map]
  constructor
  · rintro ⟨x, hx, he⟩
    obtain ⟨k', h2, h3, h4, h5⟩ := h.slot (due_sub l now x hx)
    have h6 := ((W.mem_due h.ord).1 hx).2
    rw [h2] at he
    obtain rfl := hq k' k h3 hk h4 hu he
    show (c.getD k' Z0).x.ex ≤ now
    rw [h5]
    exact h6
  · intro he
    have h2 := h.used hu
    exact ⟨_, (W.mem_due h.ord (now := now) (x := ⟨k, (c.getD k Z0).x.ex⟩)).2 ⟨(W.look_mem h.ord.nd).1 h2, he⟩, rfl⟩
theorem due_again (h : TO c l) (now : Nat) : W.dueL (W.restL l now) now = [] := by
  rw [List.eq_nil_iff_forall_not_mem]
  intro x hx
  have h1 := ((W.mem_due (W.restL_ord h.ord now)).1 hx)
  have h2 := (W.mem_rest h.ord).1 (due_sub _ now x hx)
  omega
end
/-- Slots that are told the same, with the same times. -/
structure Sim (S T : Sd) : Prop where
  al : Alike S.P.c T.P.c
  l : T.l = S.l
  ok : T.Ok
theorem Sim.refl {S : Sd} (h : S.Ok) : Sim S S := ⟨⟨rfl, fun _ => rfl, fun _ => rfl⟩, rfl, h⟩
theorem Alike.trans {a b c : List (Ce En)} (h : Alike a b) (k : Alike b c) : Alike a c := ⟨k.1.trans h.1, fun j => (k.2 j).trans (h.2 j), fun j => (k.3 j).trans (h.3 j)⟩
section
variable {S T : Sd}
theorem Sim.look (s : Sim S T) (q : Qu) (now : Nat) : Sim S (lookS T q now).1 := by
  refine ⟨?_, ?_, lookS_ok s.ok q now⟩
  · unfold lookS
    cases hs : slotOf T.P.c q with
    | none => exact s.al
    | some k =>
      have h1 := (slot_some s.ok.uq).1 hs
      simp only
      split
      · exact Alike.trans s.al (touch_alike T.P.c h1.1 h1.2.1)
      · exact s.al
  · unfold lookS
    split
    · split
      · exact s.l
      · exact s.l
    · exact s.l
theorem Sim.key (s : Sim S T) (hS : S.Ok) {k : Nat} (hk : k < S.P.c.length) (hu : us S.P.c k = true) : (lookS T (qAt S.P.c k) 0).2.1.ex = exA S.P.c k := by
  have h1 : slotOf T.P.c (qAt S.P.c k) = some k := by
    rw [s.al.slot hS.uq, slot_some hS.uq]
    exact ⟨hk, hu, rfl⟩
  unfold lookS
  rw [h1]
  simp only
  have h2 : (T.P.c.getD k Z0).x = (S.P.c.getD k Z0).x := s.al.3 k
  rw [h2]
  unfold exA
  split
  · rfl
  · rename_i h3
    show (0 : Nat) = _
    omega
theorem Sim.gone (s : Sim S T) (now : Nat) : (advS T now).2 = goneQ S.P.c (W.dueL S.l now) := by
  show goneQ T.P.c (W.dueL T.l now) = _
  rw [s.l]
  unfold goneQ
  refine List.map_congr_left fun x _ => ?_
  exact s.al.qAt _
theorem Sim.left (s : Sim S T) (now : Nat) : (keysOf (advS T now).1.P.c).length + (W.dueL S.l now).length = (keysOf T.P.c).length := by
  have h1 := to_cnt s.ok.ti
  have h2 : (W.restL T.l now).length = cnt (advS T now).1.P.c := to_cnt (rest_TO s.ok.ti now)
  have h3 := congrArg List.length (W.due_rest T.l now)
  rw [List.length_append] at h3
  rw [keys_len, keys_len, ← h1, ← h2, ← s.l]
  omega
theorem Sim.keys (s : Sim S T) : (keysOf T.P.c).length = (keysOf S.P.c).length := by
  rw [keys_len, keys_len, cnt_all, cnt_all, s.al.1]
  exact congrArg List.length (by unfold allC; rw [show us T.P.c = us S.P.c from funext s.al.2])
theorem Sim.again (s : Sim S T) (now : Nat) : (advS (advS T now).1 now).2 = [] := by
  show goneQ _ (W.dueL (W.restL T.l now) now) = []
  rw [due_again s.ok.ti]
  rfl
end
end Go.Proofs.Ytjjanogfcfapcaa.D
