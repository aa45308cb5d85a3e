/- A shard's deeds, in plain mathematics: freeing what is due, making room; each keeps what is asked of a shard. -/
import Derived.Test.YtjjanogfcfapcaaVck
namespace Go.Proofs.Ytjjanogfcfapcaa
set_option linter.unusedVariables false

theorem freeAll_nil (c : List (Ce En)) : freeAll c [] = c := rfl
theorem freeAll_snoc (c : List (Ce En)) (is : List W.Ti) (x : W.Ti) : freeAll c (is ++ [x]) = (freeAll c is).set x.id.toNat Z0 := by simp [freeAll]
theorem freeAll_len : ∀ (is : List W.Ti) (c : List (Ce En)), (freeAll c is).length = c.length
  | [], c => rfl
  | x :: is, c => by
    show (freeAll (c.set x.id.toNat Z0) is).length = _
    rw [freeAll_len is, List.length_set]
theorem freeAll_at : ∀ (is : List W.Ti) (c : List (Ce En)) (k : Nat), (∀ x ∈ is, x.id.toNat ≠ k) → (freeAll c is).getD k Z0 = c.getD k Z0
  | [], c, k, _ => rfl
  | x :: is, c, k, h => by
    show (freeAll (c.set x.id.toNat Z0) is).getD k Z0 = _
    rw [freeAll_at is _ k (fun y hy => h y (List.mem_cons_of_mem _ hy))]
    have hx := h x (List.mem_cons_self ..)
    simp only [List.getD_eq_getElem?_getD, List.getElem?_set, if_neg hx]
theorem freeAll_gone : ∀ (is : List W.Ti) (c : List (Ce En)) (k : Nat), (∃ x ∈ is, x.id.toNat = k) → (freeAll c is).getD k Z0 = Z0
  | [], c, k, h => by obtain ⟨x, hx, _⟩ := h; cases hx
  | x :: is, c, k, h => by
    show (freeAll (c.set x.id.toNat Z0) is).getD k Z0 = _
    by_cases h2 : ∃ y ∈ is, y.id.toNat = k
    · exact freeAll_gone is _ k h2
    · obtain ⟨y, hy, he⟩ := h
      rcases List.mem_cons.1 hy with e | e
      · subst e
        rw [freeAll_at is _ k (fun z hz e => h2 ⟨z, hz, e⟩)]
        simp only [List.getD_eq_getElem?_getD, List.getElem?_set]
        rw [if_pos he]
        split <;> rfl
      · exact absurd ⟨y, e, he⟩ h2
theorem freeAll_uq {is : List W.Ti} {c : List (Ce En)} (h : Uq c) : Uq (freeAll c is) := by
  intro i j hi hj ui uj hq
  rw [freeAll_len] at hi hj
  have key : ∀ k, us (freeAll c is) k = true → (freeAll c is).getD k Z0 = c.getD k Z0 := fun k hk => by
    by_cases e : ∃ x ∈ is, x.id.toNat = k
    · have := freeAll_gone is c k e
      unfold us at hk
      rw [this] at hk
      cases hk
    · exact freeAll_at is c k (fun x hx e2 => e ⟨x, hx, e2⟩)
  have ki := key i ui
  have kj := key j uj
  unfold us at ui uj
  unfold qAt at hq
  rw [ki] at ui hq
  rw [kj] at uj hq
  exact h i j hi hj ui uj hq
section
variable {c : List (Ce En)} {l : List W.Ti}
/-- What is in the list of times has its slot. -/
theorem TO.slot (h : TO c l) {x : W.Ti} (hx : x ∈ l) : ∃ k : Nat, x.id = k ∧ k < c.length ∧ us c k = true ∧ (c.getD k Z0).x.ex = x.t := by
  obtain ⟨k, e, h1, h2, h3⟩ := h.mem hx
  have hl := W.cellOf_lt h2
  rw [tiC_len] at hl
  rw [cell_tiC] at h2
  split at h2
  · rename_i hu
    refine ⟨k, h1, hl, hu, ?_⟩
    cases h2
    exact h3
  · cases h2
theorem TO.used (h : TO c l) {k : Nat} (hu : us c k = true) : (⟨k, (c.getD k Z0).x.ex⟩ : W.Ti) ∈ l := by
  refine (W.look_mem h.ord.nd).2 ?_
  show W.look l k = _
  rw [h.at_ k, cell_tiC, if_pos hu]
  rfl
theorem due_sub (l : List W.Ti) (now : Nat) : ∀ x ∈ W.dueL l now, x ∈ l := fun x hx => (List.takeWhile_sublist _).subset hx
theorem due_nodup (h : TO c l) (now : Nat) : ((W.dueL l now).map fun x => x.id.toNat).Nodup := by
  have hs : List.Sublist ((W.dueL l now).map (·.id)) (l.map (·.id)) := (List.takeWhile_sublist _).map _
  have h1 := hs.nodup h.ord.nd
  rw [List.nodup_iff_pairwise_ne, List.pairwise_map] at h1 ⊢
  refine (List.Pairwise.and_mem.1 h1).imp fun {a b} ⟨ha, hb, hne⟩ e => hne ?_
  have := h.nn a (due_sub l now a ha)
  have := h.nn b (due_sub l now b hb)
  omega
/-- The slot of what comes next is still as it was. -/
theorem due_at (h : TO c l) (now j : Nat) (hj : j < (W.dueL l now).length) : (freeAll c ((W.dueL l now).take j)).getD (W.dueL l now)[j].id.toNat Z0 = c.getD (W.dueL l now)[j].id.toNat Z0 := by
  refine freeAll_at _ c _ fun x hx e => ?_
  obtain ⟨i, hi, rfl⟩ := List.getElem_of_mem hx
  rw [List.length_take] at hi
  rw [List.getElem_take] at e
  have hn := due_nodup h now
  have := (List.getElem_inj (h₀ := by rw [List.length_map]; omega) (h₁ := by rw [List.length_map]; omega) hn (i := i) (j := j)).1 (by simpa using e)
  omega
theorem due_slot (h : TO c l) (now j : Nat) (hj : j < (W.dueL l now).length) : ∃ k : Nat, (W.dueL l now)[j].id = k ∧ k < c.length ∧ us c k = true := by
  obtain ⟨k, h1, h2, h3, _⟩ := h.slot (due_sub l now _ (List.getElem_mem hj))
  exact ⟨k, h1, h2, h3⟩
theorem rest_del (h : W.Ord l) (now : Nat) {x : W.Ti} (hx : x ∈ W.dueL l now) : W.delL (W.restL l now) x.id = W.restL l now := by
  unfold W.delL
  rw [List.filter_eq_self]
  intro y hy
  have h1 := (W.mem_due h).1 hx
  have h2 := (W.mem_rest h).1 hy
  have : y.id ≠ x.id := fun e => by
    rw [e, h1.1] at h2
    obtain ⟨a, b⟩ := h2
    obtain ⟨_, b2⟩ := h1
    simp only [Option.some.injEq] at a
    omega
  simpa using this
theorem rest_TO (h : TO c l) (now : Nat) : TO (freeAll c (W.dueL l now)) (W.restL l now) := by
  refine ⟨W.restL_ord h.ord now, fun i => ?_, fun x hx => h.nn x ((List.dropWhile_sublist _).subset hx)⟩
  rw [W.restL_look h.ord, h.at_ i, cell_tiC, cell_tiC]
  by_cases e : ∃ x ∈ W.dueL l now, x.id.toNat = i
  · have h1 := freeAll_gone _ c i e
    have hu : us (freeAll c (W.dueL l now)) i = false := by unfold us; rw [h1]; rfl
    rw [hu]
    obtain ⟨x, hx, rfl⟩ := e
    obtain ⟨k, hk, _, hku, hkx⟩ := h.slot (due_sub l now x hx)
    have hd := ((W.mem_due h.ord).1 hx).2
    have : x.id.toNat = k := by omega
    rw [this, if_pos hku]
    simp only [Option.map_some, Bool.false_eq_true, if_false, Option.map_none]
    rw [if_pos (by rw [hkx]; exact hd)]
  · have h1 := freeAll_at _ c i (fun x hx e2 => e ⟨x, hx, e2⟩)
    have hu : us (freeAll c (W.dueL l now)) i = us c i := by unfold us; rw [h1]
    rw [hu, h1]
    cases hc : us c i with
    | false => rfl
    | true =>
      have hm := h.used hc
      have : ¬ (c.getD i Z0).x.ex ≤ now := fun hle => e ⟨_, (W.mem_due h.ord).2 ⟨(W.look_mem h.ord.nd).1 hm, hle⟩, by simp⟩
      simp only [if_true, Option.map_some]
      rw [if_neg this]
end
theorem advS_ok {d : Sd} (h : d.Ok) (now : Nat) : (advS d now).1.Ok := by
  refine ⟨⟨?_, ?_, ?_⟩, rest_TO h.ti now, freeAll_uq h.uq⟩
  · show 1 ≤ (freeAll d.P.c _).length; rw [freeAll_len]; exact h.ok.n1
  · show (freeAll d.P.c _).length ≤ 64; rw [freeAll_len]; exact h.ok.n64
  · show d.P.h < (freeAll d.P.c _).length; rw [freeAll_len]; exact h.ok.hn
theorem advS_none {d : Sd} {now : Nat} (h : W.dueL d.l now = []) : advS d now = (d, []) := by
  have hr : W.restL d.l now = d.l := by
    have := W.due_rest d.l now
    rw [h] at this
    exact this
  unfold advS
  rw [h, hr]
  rfl
theorem cnt_full {α : Type} [Inhabited α] : ∀ (c : List (Ce α)), firstC c = none ↔ cnt c = c.length
  | [] => by simp [firstC, cnt]
  | a :: c => by
    have ih := cnt_full c
    have hle := cnt_le c
    unfold firstC cnt at *
    rw [List.findIdx?_cons, List.filter_cons]
    cases hu : a.u with
    | false =>
      simp only [Bool.not_false, if_true, Bool.false_eq_true, if_false, List.length_cons]
      constructor
      · intro h; cases h
      · intro h; omega
    | true =>
      simp only [Bool.not_true, Bool.false_eq_true, if_false, if_true, List.length_cons, Option.map_eq_none_iff]
      rw [ih]
      omega
theorem first_cnt {α : Type} [Inhabited α] (c : List (Ce α)) : (firstC c).isSome = decide (cnt c < c.length) := by
  have h := cnt_full c
  have h2 := cnt_le c
  cases hf : firstC c with
  | none =>
    have := h.1 hf
    simp; omega
  | some i =>
    have : ¬ cnt c = c.length := fun e => by rw [h.2 e] at hf; cases hf
    simp; omega
/-- A full row has all slots used. -/
theorem full_us {α : Type} [Inhabited α] {c : List (Ce α)} (h : firstC c = none) {k : Nat} (hk : k < c.length) : us c k = true := by
  unfold firstC at h
  rw [List.findIdx?_eq_none_iff] at h
  have := h c[k] (List.getElem_mem hk)
  rw [us_get hk]
  simpa using this
theorem vicS_slot {d : Sd} (h : d.Ok) (hf : firstC d.P.c = none) : ∃ v, (vicM d.P).2 = some v ∧ v < d.P.c.length ∧ us d.P.c v = true := by
  have hne : allM d.P ≠ [] := by
    intro e
    have h0 : (0 : Nat) ∈ allM d.P := all_mem.2 ⟨h.ok.n1, full_us hf h.ok.n1⟩
    rw [e] at h0
    cases h0
  obtain ⟨v, hv⟩ := vicM_some h.ok hne
  obtain ⟨h1, h2⟩ := all_mem.1 (vicM_mem h.ok hv)
  exact ⟨v, hv, h1, h2⟩
/-- Room is made: a slot is free. -/
theorem roomS_ok {d : Sd} (h : d.Ok) (now : Nat) : (roomS d now).1.Ok ∧ (roomS d now).1.P.c.length = d.P.c.length ∧ (firstC (roomS d now).1.P.c).isSome = true ∧ (∀ q, slotOf d.P.c q = none → slotOf (roomS d now).1.P.c q = none) := by
  unfold roomS
  cases hf : firstC d.P.c with
  | some i => simp [h, hf]
  | none =>
    simp only [Option.isSome_none, Bool.false_eq_true, if_false]
    cases hd : W.dueL d.l now with
    | nil =>
      simp only [List.isEmpty_nil, if_true]
      obtain ⟨v, hv, h1, h2⟩ := vicS_slot h hf
      have hv2 : (vicS d).2 = v := by unfold vicS; rw [hv]; rfl
      have a := vic_alike h.ok
      have hlen : (vicS d).1.P.c.length = d.P.c.length := a.len
      have hvk : v < (vicS d).1.P.c.length := by rw [hlen]; exact h1
      have hu2 : us (vicS d).1.P.c v = true := by rw [show us (vicS d).1.P.c v = us d.P.c v from a.us v]; exact h2
      rw [hv2]
      refine ⟨freeS_ok (vicS_ok h) hvk, ?_, ?_, fun q hq => ?_⟩
      · show ((vicS d).1.P.c.set v Z0).length = _
        rw [List.length_set, hlen]
      · show (firstC ((vicS d).1.P.c.set v Z0)).isSome = true
        rw [first_cnt]
        have hc := cnt_set (Z0 : Ce En) (vicS d).1.P.c v hvk
        have hle := cnt_le (vicS d).1.P.c
        rw [hu2] at hc
        simp only [if_true, show (Z0 : Ce En).u = false from rfl, Bool.false_eq_true, if_false] at hc
        simp
        omega
      · show slotOf ((vicS d).1.P.c.set v Z0) q = none
        rw [slot_free (vicS_ok h).uq hvk hu2 rfl]
        split
        · rfl
        · rw [show slotOf (vicS d).1.P.c q = slotOf d.P.c q from a.slot h.uq q]; exact hq
    | cons x r =>
      simp only [List.isEmpty_cons, Bool.false_eq_true, if_false]
      refine ⟨advS_ok h now, freeAll_len _ _, ?_, fun q hq => ?_⟩
      · obtain ⟨k, hk1, hk2, _⟩ := h.ti.slot (due_sub d.l now x (by rw [hd]; exact List.mem_cons_self ..))
        cases hn : firstC (advS d now).1.P.c with
        | some i => rfl
        | none =>
          have h1 := full_us hn (k := k) (by show k < (freeAll d.P.c _).length; rw [freeAll_len]; exact hk2)
          have h2 := freeAll_gone (W.dueL d.l now) d.P.c k ⟨x, by rw [hd]; exact List.mem_cons_self .., by omega⟩
          unfold us at h1
          rw [show (advS d now).1.P.c = freeAll d.P.c (W.dueL d.l now) from rfl, h2] at h1
          cases h1
      · show slotOf (freeAll d.P.c _) q = none
        rw [slot_none] at hq ⊢
        intro k hk hku hkq
        rw [freeAll_len] at hk
        have h2 : (freeAll d.P.c (W.dueL d.l now)).getD k Z0 = d.P.c.getD k Z0 := by
          by_cases e : ∃ x ∈ W.dueL d.l now, x.id.toNat = k
          · have := freeAll_gone _ d.P.c k e
            unfold us at hku
            rw [this] at hku
            cases hku
          · exact freeAll_at _ d.P.c k (fun x hx e2 => e ⟨x, hx, e2⟩)
        unfold us at hku
        unfold qAt at hkq
        rw [h2] at hku hkq
        exact hq k hk hku hkq
theorem putS_ok {d : Sd} (h : d.Ok) {e : En} (hn : slotOf d.P.c e.q = none) : (putS d e).Ok := by
  unfold putS
  cases hf : firstC d.P.c with
  | none => exact h
  | some i =>
    refine storeS_ok h (first_of hf).1 e false fun j hj uj hq => ?_
    exact absurd hq (slot_none.1 hn j hj uj)
theorem insS_ok {d : Sd} (h : d.Ok) (e : En) (now : Nat) : (insS d e now).1.Ok := by
  unfold insS
  split
  · exact h
  · cases hs : slotOf d.P.c e.q with
    | some k =>
      obtain ⟨h1, h2, h3⟩ := (slot_some h.uq).1 hs
      simp only
      split
      · exact storeS_ok h h1 e true fun j hj uj hq => h.uq j k hj h1 uj h2 (by rw [hq, h3])
      · exact h
    | none =>
      obtain ⟨r1, r2, r3, r4⟩ := roomS_ok h now
      exact putS_ok r1 (r4 _ hs)
theorem lookS_ok {d : Sd} (h : d.Ok) (q : Qu) (now : Nat) : (lookS d q now).1.Ok := by
  unfold lookS
  cases hs : slotOf d.P.c q with
  | none => exact h
  | some k =>
    obtain ⟨h1, h2, h3⟩ := (slot_some h.uq).1 hs
    simp only
    split
    · exact touchS_ok h h1 h2
    · exact h
theorem evS_ok {d : Sd} (h : d.Ok) (q : Qu) : (evS d q).1.Ok := by
  unfold evS
  cases hs : slotOf d.P.c q with
  | none => exact h
  | some k => exact freeS_ok h ((slot_some h.uq).1 hs).1
end Go.Proofs.Ytjjanogfcfapcaa
