/- What a question's entry is behind each deed: mathematics for ShardRoom and ShardGoes. -/
import Derived.Test.YtjjanogfcfapcaaVdy
import Derived.Test.YtjjanogfcfapcaaVed
namespace Go.Proofs.Ytjjanogfcfapcaa.D
set_option linter.unusedVariables false

/-- A question's entry. -/
def ent (S : Sd) (q : Qu) : Option En := (slotOf S.P.c q).map fun k => (S.P.c.getD k Z0).x
section
variable {S T : Sd}
theorem ent_some (h : Uq S.P.c) {q : Qu} {e : En} : ent S q = some e ↔ ∃ k, k < S.P.c.length ∧ us S.P.c k = true ∧ (S.P.c.getD k Z0).x = e ∧ e.q = q := by
  unfold ent
  rw [Option.map_eq_some_iff]
  constructor
  · rintro ⟨k, h1, h2⟩
    obtain ⟨h3, h4, h5⟩ := (slot_some h).1 h1
    refine ⟨k, h3, h4, h2, ?_⟩
    rw [← h2]
    exact h5
  · rintro ⟨k, h1, h2, h3, h4⟩
    refine ⟨k, (slot_some h).2 ⟨h1, h2, ?_⟩, h3⟩
    show (S.P.c.getD k Z0).x.q = q
    rw [h3, h4]
theorem ent_none {q : Qu} : ent S q = none ↔ slotOf S.P.c q = none := by unfold ent; rw [Option.map_eq_none_iff]
theorem ent_alike (h : Uq S.P.c) (a : Alike S.P.c T.P.c) (q : Qu) : ent T q = ent S q := by
  unfold ent
  rw [a.slot h]
  cases slotOf S.P.c q with
  | none => rfl
  | some k => exact congrArg some (a.x k)
theorem ent_look (ok : S.Ok) (q : Qu) (now : Nat) (q' : Qu) : ent (lookS S q now).1 q' = ent S q' := by
  unfold lookS
  cases hs : slotOf S.P.c q with
  | none => rfl
  | some k =>
    obtain ⟨h1, h2, h3⟩ := (slot_some ok.uq).1 hs
    simp only
    split
    · exact ent_alike ok.uq (touch_alike S.P.c h1 h2) q'
    · rfl
theorem ent_free (ok : S.Ok) {k : Nat} (hk : k < S.P.c.length) (hu : us S.P.c k = true) (q : Qu) : ent (freeS S k) q = if q = qAt S.P.c k then none else ent S q := by
  unfold ent
  rw [show slotOf (freeS S k).P.c q = _ from slot_free ok.uq hk hu (e := Z0) rfl q]
  by_cases e : q = qAt S.P.c k
  · rw [if_pos e, if_pos e]; rfl
  · rw [if_neg e, if_neg e]
    cases hs : slotOf S.P.c q with
    | none => rfl
    | some j =>
      obtain ⟨h1, h2, h3⟩ := (slot_some ok.uq).1 hs
      show some ((S.P.c.set k Z0).getD j Z0).x = _
      rw [getD_set _ _ _ _ hk, if_neg (fun h => e (by rw [← h3, h]))]
      rfl
theorem ent_ev (ok : S.Ok) (q q' : Qu) : ent (evS S q).1 q' = if q' = q then none else ent S q' := by
  unfold evS
  cases hs : slotOf S.P.c q with
  | none =>
    show ent S q' = _
    by_cases h : q' = q
    · rw [if_pos h, h]; exact ent_none.2 hs
    · rw [if_neg h]
  | some k =>
    obtain ⟨h1, h2, h3⟩ := (slot_some ok.uq).1 hs
    show ent (freeS S k) q' = _
    rw [ent_free ok h1 h2, h3]
theorem ev_is (q : Qu) : (evS S q).2 = (ent S q).isSome := by
  unfold evS ent
  cases slotOf S.P.c q <;> rfl
theorem free_key {c : List (Ce En)} {is : List W.Ti} {k : Nat} (hk : us (freeAll c is) k = true) : (freeAll c is).getD k Z0 = c.getD k Z0 ∧ ∀ x ∈ is, x.id.toNat ≠ k := by
  have hn : ∀ x ∈ is, x.id.toNat ≠ k := fun x hx he => by
    have h1 := freeAll_gone is c k ⟨x, hx, he⟩
    unfold us at hk
    rw [h1] at hk
    cases hk
  exact ⟨freeAll_at is c k hn, hn⟩
theorem ent_adv (ok : S.Ok) (now : Nat) (q : Qu) : ent (advS S now).1 q = if q ∈ (advS S now).2 then none else ent S q := by
  have oku := (advS_ok ok now).uq
  split
  · rename_i hg
    cases he : ent (advS S now).1 q with
    | none => rfl
    | some e =>
      obtain ⟨k, h1, h2, h3, h4⟩ := (ent_some oku).1 he
      obtain ⟨h5, h6⟩ := free_key h2
      have h7 : k < S.P.c.length := by
        have h8 : k < (freeAll S.P.c (W.dueL S.l now)).length := h1
        rwa [freeAll_len] at h8
      have h9 : us S.P.c k = true := by
        have h8 : us (freeAll S.P.c (W.dueL S.l now)) k = true := h2
        unfold us at h8 ⊢
        rwa [h5] at h8
      have h10 : qAt S.P.c k = q := by
        have h8 : ((freeAll S.P.c (W.dueL S.l now)).getD k Z0).x = e := h3
        rw [h5] at h8
        show (S.P.c.getD k Z0).x.q = q
        rw [h8, h4]
      rw [← h10] at hg
      have h11 := (mem_gone ok.ti ok.uq h7 h9).1 hg
      have h12 := (W.mem_due ok.ti.ord (now := now) (x := ⟨k, (S.P.c.getD k Z0).x.ex⟩)).2 ⟨(W.look_mem ok.ti.ord.nd).1 (ok.ti.used h9), h11⟩
      exact absurd (by simp) (h6 _ h12)
  · rename_i hg
    apply Option.ext
    intro e
    rw [ent_some oku, ent_some ok.uq]
    constructor
    · rintro ⟨k, h1, h2, h3, h4⟩
      obtain ⟨h5, h6⟩ := free_key h2
      have h8 : k < (freeAll S.P.c (W.dueL S.l now)).length := h1
      have h9 : us (freeAll S.P.c (W.dueL S.l now)) k = true := h2
      have h10 : ((freeAll S.P.c (W.dueL S.l now)).getD k Z0).x = e := h3
      unfold us at h9
      rw [freeAll_len] at h8
      rw [h5] at h9 h10
      exact ⟨k, h8, h9, h10, h4⟩
    · rintro ⟨k, h1, h2, h3, h4⟩
      have hq : qAt S.P.c k = q := by show (S.P.c.getD k Z0).x.q = q; rw [h3, h4]
      have h5 := freeAll_at (W.dueL S.l now) S.P.c k (fun x hx he => hg (by
        rw [← hq, ← he]
        exact List.mem_map.2 ⟨x, hx, rfl⟩))
      refine ⟨k, by show k < (freeAll S.P.c _).length; rw [freeAll_len]; exact h1, ?_, ?_, h4⟩
      · show us (freeAll S.P.c _) k = true
        unfold us
        rw [h5]
        exact h2
      · show ((freeAll S.P.c _).getD k Z0).x = e
        rw [h5]
        exact h3
theorem gone_ex (ok : S.Ok) (now : Nat) {q : Qu} (hg : q ∈ (advS S now).2) : ∃ e, ent S q = some e ∧ e.ex ≤ now := by
  obtain ⟨x, hx, hq⟩ := List.mem_map.1 hg
  obtain ⟨k, h2, h3, h4, h5⟩ := ok.ti.slot (due_sub S.l now x hx)
  have h6 := ((W.mem_due ok.ti.ord).1 hx).2
  rw [h2] at hq
  refine ⟨(S.P.c.getD k Z0).x, (ent_some ok.uq).2 ⟨k, h3, h4, rfl, hq⟩, ?_⟩
  rw [h5]
  exact h6
theorem ent_store (ok : S.Ok) {k : Nat} (hk : k < S.P.c.length) (e : En) (t : Bool) (hn : ∀ j, j < S.P.c.length → us S.P.c j = true → qAt S.P.c j = e.q → j = k) (ho : us S.P.c k = true → qAt S.P.c k = e.q) (q : Qu) : ent (storeS S k e t) q = if q = e.q then some e else ent S q := by
  unfold ent
  rw [show slotOf (storeS S k e t).P.c q = _ from slot_put ok.uq hk (e := ⟨e, true, t⟩) rfl hn ho q]
  show Option.map (fun j => ((S.P.c.set k ⟨e, true, t⟩).getD j Z0).x) (if q = e.q then some k else slotOf S.P.c q) = _
  by_cases h : q = e.q
  · rw [if_pos h, if_pos h]
    show some ((S.P.c.set k ⟨e, true, t⟩).getD k Z0).x = _
    rw [getD_set _ _ _ _ hk, if_pos rfl]
  · rw [if_neg h, if_neg h]
    cases hs : slotOf S.P.c q with
    | none => rfl
    | some j =>
      obtain ⟨h1, h2, h3⟩ := (slot_some ok.uq).1 hs
      show some ((S.P.c.set k ⟨e, true, t⟩).getD j Z0).x = _
      rw [getD_set _ _ _ _ hk, if_neg (fun hkj => h (by subst hkj; rw [← h3]; exact ho h2))]
      rfl
/-- What room is made of. -/
theorem room_ways (ok : S.Ok) (now : Nat) : ((firstC S.P.c).isSome = true ∧ roomS S now = (S, [])) ∨ (firstC S.P.c = none ∧ (roomS S now).2 ≠ [] ∧ (roomS S now).2.length ≤ S.P.c.length ∧ (∀ q ∈ (roomS S now).2, ent S q ≠ none) ∧ ∀ q, ent (roomS S now).1 q = if q ∈ (roomS S now).2 then none else ent S q) := by
  unfold roomS
  cases hf : firstC S.P.c with
  | some i => exact .inl ⟨rfl, rfl⟩
  | none =>
    right
    simp only [Option.isSome_none, Bool.false_eq_true, if_false, true_and]
    cases hd : W.dueL S.l now with
    | nil =>
      simp only [List.isEmpty_nil, if_true]
      obtain ⟨v, hv, h1, h2⟩ := vicS_slot ok hf
      have hv2 : (vicS S).2 = v := by unfold vicS; rw [hv]; rfl
      have a := vic_alike ok.ok
      rw [hv2]
      refine ⟨by simp, by have := ok.ok.n1; simpa using this, fun q hq => ?_, fun q => ?_⟩
      · rw [List.mem_singleton] at hq
        subst hq
        rw [(ent_some (q := qAt S.P.c v) ok.uq).2 ⟨v, h1, h2, rfl, rfl⟩]
        simp
      · have hvk : v < (vicS S).1.P.c.length := by show v < (vicM S.P).1.c.length; rw [a.len]; exact h1
        have hu2 : us (vicS S).1.P.c v = true := (a.us v).trans h2
        rw [ent_free (vicS_ok ok) hvk hu2, show qAt (vicS S).1.P.c v = qAt S.P.c v from a.qAt v, ent_alike (S := S) ok.uq a]
        simp only [List.mem_singleton]
    | cons x r =>
      simp only [List.isEmpty_cons, Bool.false_eq_true, if_false]
      refine ⟨?_, ?_, fun q hq => ?_, fun q => ent_adv ok now q⟩
      · show goneQ S.P.c (W.dueL S.l now) ≠ []
        rw [hd]
        simp [goneQ]
      · show (goneQ S.P.c (W.dueL S.l now)).length ≤ _
        have h1 := due_len ok.ti now
        have h2 : (goneQ S.P.c (W.dueL S.l now)).length = (W.dueL S.l now).length := by simp [goneQ]
        have h3 := List.length_filter_le (fun k => decide (exA S.P.c k ≤ now)) (allC S.P.c S.P.c.length)
        have h4 := cnt_all S.P.c
        have h5 := cnt_le S.P.c
        omega
      · obtain ⟨e, he, _⟩ := gone_ex ok now hq
        rw [he]
        simp
/-- What an insert makes. -/
theorem ins_ways (ok : S.Ok) (e : En) (now : Nat) :
    (∀ q, q ≠ e.q → ent (insS S e now).1 q = if q ∈ (insS S e now).2.1 then none else ent S q) ∧
    (ent S e.q ≠ none → (insS S e now).2.1 = []) ∧
    (ent (insS S e now).1 e.q ≠ none ↔ (insS S e now).2.2 = 0 ∨ ent S e.q ≠ none) ∧
    ((insS S e now).2.1 = [] ∨ firstC S.P.c = none ∧ (insS S e now).2.2 = 0) ∧
    (insS S e now).2.1.length ≤ S.P.c.length := by
  unfold insS
  split
  · exact ⟨fun q _ => by simp, fun _ => rfl, ⟨fun h => .inr h, fun h => h.elim (fun h => by cases h) id⟩, .inl rfl, Nat.zero_le _⟩
  · cases hs : slotOf S.P.c e.q with
    | some k =>
      obtain ⟨h1, h2, h3⟩ := (slot_some ok.uq).1 hs
      have hn : ent S e.q ≠ none := fun h => by rw [ent_none, hs] at h; cases h
      simp only
      split
      · have hst := ent_store ok h1 e true (fun j hj uj hq => ok.uq j k hj h1 uj h2 (by rw [hq, h3])) (fun _ => h3)
        exact ⟨fun q hq => by rw [hst, if_neg hq]; simp, fun _ => rfl, ⟨fun _ => .inl rfl, fun _ => by rw [hst, if_pos rfl]; simp⟩, .inl rfl, Nat.zero_le _⟩
      · exact ⟨fun q hq => by simp, fun _ => rfl, ⟨fun _ => .inr hn, fun _ => hn⟩, .inl rfl, Nat.zero_le _⟩
    | none =>
      obtain ⟨r1, r2, r3, r4⟩ := roomS_ok ok now
      have r5 := r4 _ hs
      obtain ⟨i, hi⟩ := Option.isSome_iff_exists.1 r3
      have hp : putS (roomS S now).1 e = storeS (roomS S now).1 i e false := by unfold putS; rw [hi]
      obtain ⟨hfi, hfu⟩ := first_of hi
      have hst := ent_store r1 hfi e false (fun j hj uj hq => absurd hq (slot_none.1 r5 j hj uj)) (fun h => by first | (rw [hfu] at h; cases h) | (have h9 := hfu.1; rw [h9] at h; cases h))
      have hn : ent S e.q = none := ent_none.2 hs
      simp only
      rw [hp]
      refine ⟨fun q hq => ?_, fun h => absurd hn h, ⟨fun _ => .inl (by first | rfl | trivial), fun _ => by rw [hst, if_pos rfl]; simp⟩, ?_, ?_⟩
      · rw [hst, if_neg hq]
        rcases room_ways ok now with ⟨_, h⟩ | ⟨_, _, _, _, h⟩
        · rw [h]; simp
        · exact h q
      · rcases room_ways ok now with ⟨_, h⟩ | ⟨h, _⟩
        · rw [h]; left; rfl
        · right; exact ⟨h, by first | rfl | trivial⟩
      · rcases room_ways ok now with ⟨_, h⟩ | ⟨_, _, h, _⟩
        · rw [h]; exact Nat.zero_le _
        · exact h
theorem mem_keys (h : Uq S.P.c) {q : Qu} : q ∈ keysOf S.P.c ↔ ent S q ≠ none := by
  rw [keys_all, List.mem_map]
  constructor
  · rintro ⟨k, hk, hq⟩
    obtain ⟨h1, h2⟩ := mem_allC.1 hk
    rw [(ent_some h).2 ⟨k, h1, h2, rfl, hq⟩]
    simp
  · intro hn
    obtain ⟨e, he⟩ := Option.ne_none_iff_exists'.1 hn
    obtain ⟨k, h1, h2, h3, h4⟩ := (ent_some h).1 he
    exact ⟨k, mem_allC.2 ⟨h1, h2⟩, by show (S.P.c.getD k Z0).x.q = q; rw [h3, h4]⟩
theorem keys_nodup (h : Uq S.P.c) : (keysOf S.P.c).Nodup := by
  rw [keys_all, List.Nodup, List.pairwise_map]
  refine (allC_nodup S.P.c S.P.c.length).imp_of_mem ?_
  intro a b ha hb hab he
  obtain ⟨a1, a2⟩ := mem_allC.1 ha
  obtain ⟨b1, b2⟩ := mem_allC.1 hb
  exact hab (h a b a1 b1 a2 b2 he)
end
/-- All that ShardRoom asks. -/
structure RoomF (ks kt gone : List Qu) (q : Qu) (code : Int) : Prop where
  nd : kt.Nodup
  go : ∀ q ∈ ks, (q ∈ kt) ↔ q ∉ gone
  full : gone = [] ∨ ks.length = 4 ∧ code = 0
  has : q ∈ kt ↔ code = 0 ∨ q ∈ ks
  le : kt.length ≤ 4
  gle : gone.length ≤ 4
  ksl : ks.length ≤ 4
theorem room_f {S : Sd} (ok : S.Ok) (h4 : S.P.c.length = 4) (e : En) (now : Nat) (hl : (insS S e now).1.P.c.length = S.P.c.length) : RoomF (keysOf S.P.c) (keysOf (insS S e now).1.P.c) (insS S e now).2.1 e.q (insS S e now).2.2 := by
  obtain ⟨w1, w2, w3, w4, w5⟩ := ins_ways ok e now
  have okT := insS_ok ok e now
  refine ⟨keys_nodup okT.uq, fun q hq => ?_, ?_, ?_, ?_, by omega, ?_⟩
  · rw [mem_keys ok.uq] at hq
    rw [mem_keys okT.uq]
    by_cases he : q = e.q
    · subst he
      rw [w2 hq, w3]
      simp [hq]
    · rw [w1 q he]
      split
      · rename_i h; simp [h]
      · rename_i h; simp [h, hq]
  · rcases w4 with h | ⟨h1, h2⟩
    · exact .inl h
    · refine .inr ⟨?_, h2⟩
      rw [keys_len, (cnt_full _).1 h1, h4]
  · rw [mem_keys okT.uq, mem_keys ok.uq]
    exact w3
  · rw [keys_len]
    have := cnt_le (insS S e now).1.P.c
    omega
  · rw [keys_len]
    have := cnt_le S.P.c
    omega
theorem nodup_take {l : List Qu} (h : l.Nodup) (j : Nat) (hj : j < l.length) : l[j] ∉ l.take j := by
  intro hm
  obtain ⟨i, hi, he⟩ := List.getElem_of_mem hm
  rw [List.length_take] at hi
  rw [List.getElem_take] at he
  have := (List.getElem_inj (h₀ := by omega) (h₁ := hj) h).1 he
  omega
/-- What is told of a question at time 0. -/
theorem look_ent {S : Sd} (q : Qu) : (lookS S q 0).2 = match ent S q with | some e => if 0 < e.ex then (e, true) else (default, false) | none => (default, false) := by
  unfold lookS ent
  cases slotOf S.P.c q with
  | none => rfl
  | some k =>
    simp only [Option.map_some]
    split <;> rfl
theorem goes_f {S T : Sd} {q : Qu} {G : List Qu} (h : ent T q = if q ∈ G then none else ent S q) : (lookS T q 0).2 = if q ∈ G then (default, false) else (lookS S q 0).2 := by
  rw [look_ent, look_ent, h]
  by_cases hg : q ∈ G
  · rw [if_pos hg, if_pos hg]
  · rw [if_neg hg, if_neg hg]
theorem goes_ex {S : Sd} (ok : S.Ok) {q : Qu} {now : Nat} (hg : q ∈ (advS S now).2) : (lookS S q 0).2.1.ex ≤ now := by
  obtain ⟨e, he, hx⟩ := gone_ex ok now hg
  rw [look_ent, he]
  simp only
  split
  · exact hx
  · exact Nat.zero_le _
end Go.Proofs.Ytjjanogfcfapcaa.D
