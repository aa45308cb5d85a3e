/- What is put in is told: mathematics for ShardNever. -/
import Derived.Test.YtjjanogfcfapcaaBvc
namespace Go.Proofs.Ytjjanogfcfapcaa.D
set_option linter.unusedVariables false

/-- The question's entry. -/
def HasE (S : Sd) (e : En) : Prop := ∃ k, slotOf S.P.c e.q = some k ∧ (S.P.c.getD k Z0).x = e
section
variable {S : Sd}
theorem ev_none (ok : S.Ok) (q : Qu) : slotOf (evS S q).1.P.c q = none := by
  unfold evS
  cases hs : slotOf S.P.c q with
  | none => exact hs
  | some k =>
    obtain ⟨h1, h2, h3⟩ := (slot_some ok.uq).1 hs
    show slotOf (S.P.c.set k Z0) q = none
    rw [slot_free ok.uq h1 h2 rfl, if_pos h3.symm]
theorem ins_new_code (ok : S.Ok) (a : En) (now : Nat) (hn : slotOf S.P.c a.q = none) : (insS S a now).2.2 = if a.ex ≤ now then 4 else 0 := by
  unfold insS
  split
  · rfl
  · rw [hn]
theorem store_has (ok : S.Ok) (e : En) (t : Bool) {k : Nat} (hk : k < S.P.c.length) (hn : ∀ j, j < S.P.c.length → us S.P.c j = true → qAt S.P.c j = e.q → j = k) : HasE (storeS S k e t) e := by
  refine ⟨k, ?_, ?_⟩
  · have h2 := (storeS_ok ok hk e t hn).uq
    rw [slot_some h2]
    show k < (S.P.c.set k ⟨e, true, t⟩).length ∧ us (S.P.c.set k ⟨e, true, t⟩) k = true ∧ qAt (S.P.c.set k ⟨e, true, t⟩) k = e.q
    rw [List.length_set, us_set hk, qAt_set hk, if_pos rfl, if_pos rfl]
    exact ⟨hk, rfl, rfl⟩
  · show ((S.P.c.set k ⟨e, true, t⟩).getD k Z0).x = e
    rw [getD_set _ _ _ _ hk, if_pos rfl]
theorem ins_new_has (ok : S.Ok) (a : En) (now : Nat) (hn : slotOf S.P.c a.q = none) (he : now < a.ex) : HasE (insS S a now).1 a := by
  have h1 : (insS S a now).1 = putS (roomS S now).1 a := by
    unfold insS
    rw [if_neg (by omega), hn]
  rw [h1]
  obtain ⟨r1, r2, r3, r4⟩ := roomS_ok ok now
  have r5 := r4 _ hn
  obtain ⟨i, hi⟩ := Option.isSome_iff_exists.1 r3
  have h2 : putS (roomS S now).1 a = storeS (roomS S now).1 i a false := by unfold putS; rw [hi]
  rw [h2]
  refine store_has r1 a false (first_of hi).1 (fun j hj hu hq => ?_)
  exact absurd hq ((slot_none.1 r5) j hj hu)
theorem ins_old (ok : S.Ok) (a b : En) (now : Nat) (h : HasE S a) (he : now < a.ex) (hq : b.q = a.q) :
    (insS S b now).2.2 = (if b.ex ≤ now then 4 else if a.rk ≤ b.rk then 0 else 7) ∧ HasE (insS S b now).1 (if now < b.ex ∧ a.rk ≤ b.rk then b else a) := by
  obtain ⟨k, h1, h2⟩ := h
  obtain ⟨k1, k2, k3⟩ := (slot_some ok.uq).1 h1
  have hb : btE a b now = decide (a.rk ≤ b.rk) := by unfold btE; simp [he]
  unfold insS
  by_cases hx : b.ex ≤ now
  · rw [if_pos hx, if_pos hx, if_neg (by omega)]
    exact ⟨rfl, k, h1, h2⟩
  · rw [if_neg hx, if_neg hx, hq, h1]
    simp only
    rw [h2, hb]
    by_cases hr : a.rk ≤ b.rk
    · rw [if_pos (by simpa using hr), if_pos hr, if_pos ⟨by omega, hr⟩]
      refine ⟨rfl, store_has ok b true k1 (fun j hj hu hqj => ok.uq j k hj k1 hu k2 ?_)⟩
      rw [hqj, k3, hq]
    · rw [if_neg (by simpa using hr), if_neg hr, if_neg (fun hc => hr hc.2)]
      exact ⟨rfl, k, h1, h2⟩
theorem look_has (ok : S.Ok) (e : En) (now : Nat) (h : HasE S e) : (now < e.ex → (lookS S e.q now).2 = (e, true)) ∧ (¬ now < e.ex → (lookS S e.q now).2 = (default, false)) ∧ HasE (lookS S e.q now).1 e := by
  obtain ⟨k, h1, h2⟩ := h
  obtain ⟨k1, k2, k3⟩ := (slot_some ok.uq).1 h1
  unfold lookS
  rw [h1]
  simp only
  rw [h2]
  refine ⟨fun hn => by rw [if_pos hn], fun hn => by rw [if_neg hn], ?_⟩
  split
  · refine ⟨k, ?_, ?_⟩
    · have h3 := touch_alike S.P.c k1 k2
      have h4 := h3.slot ok.uq e.q
      rw [h1] at h4
      exact h4
    · show ((S.P.c.set k ⟨(S.P.c.getD k Z0).x, true, true⟩).getD k Z0).x = e
      rw [getD_set _ _ _ _ k1, if_pos rfl]
      exact h2
  · exact ⟨k, h1, h2⟩
end
end Go.Proofs.Ytjjanogfcfapcaa.D
