/- The document's deeds are the plain ones; what holds of all slots. -/
import Derived.Test.YtjjanogfcfapcaaVdi
namespace Go.Proofs.Ytjjanogfcfapcaa.D
open Go.RowKit
set_option linter.unusedVariables false

section
variable {M : Ms Ev} {S : Sd}
theorem pc_eq (hp : pure M = S.P) : pc M.c = S.P.c := congrArg Ms.c hp
theorem h_eq (hp : pure M = S.P) : M.h = S.P.h := congrArg Ms.h hp
theorem evE_pure (hp : pure M = S.P) (q : Qu) : pure (evE M q).1 = (evS S q).1.P ∧ (evE M q).2 = (evS S q).2 := by
  unfold evE evS
  rw [pc_eq hp]
  cases slotOf S.P.c q with
  | none => exact ⟨hp, rfl⟩
  | some k => exact ⟨pure_set hp k Z0, rfl⟩
theorem lookE_pure (hp : pure M = S.P) (q : Qu) (now : Nat) : pure (lookE M q now).1 = (lookS S q now).1.P ∧ (lookE M q now).2.1.e = (lookS S q now).2.1 ∧ (lookE M q now).2.2 = (lookS S q now).2.2 := by
  unfold lookE lookS
  rw [pc_eq hp]
  cases slotOf S.P.c q with
  | none => exact ⟨hp, rfl, rfl⟩
  | some k =>
    simp only
    rw [pure_x hp k]
    split
    · refine ⟨?_, pure_x hp k, rfl⟩
      have := pure_set hp k ⟨(M.c.getD k Z0).x, true, true⟩
      rw [show (⟨(M.c.getD k Z0).x, true, true⟩ : Ce Ev).map Ev.e = ⟨(S.P.c.getD k Z0).x, true, true⟩ by rw [← pure_x hp k]; rfl] at this
      exact this
    · exact ⟨hp, rfl, rfl⟩
theorem putE_pure (hp : pure M = S.P) (x : Ev) : pure (putM M x).1 = (putS S x.e).P := by
  unfold putM putS
  rw [← pc_eq hp, firstC_pc]
  cases firstC M.c with
  | none => exact hp
  | some i => exact pure_set hp i ⟨x, true, false⟩
theorem frE_pure (hp : pure M = S.P) (now : Nat) : pure ⟨frA M.c (W.dueL S.l now), M.h⟩ = (advS S now).1.P ∧ goneQ (pc M.c) (W.dueL S.l now) = (advS S now).2 := by
  refine ⟨?_, by rw [pc_eq hp]; rfl⟩
  show (⟨pc (frA M.c (W.dueL S.l now)), M.h⟩ : Ms En) = ⟨freeAll S.P.c (W.dueL S.l now), S.P.h⟩
  rw [frA_pc, pc_eq hp, h_eq hp]
theorem roomE_pure (hp : pure M = S.P) (now : Nat) (hr : ¬ (keysOf (pc M.c)).length < M.c.length) : pure (roomE M S.l now).1 = (roomS S now).1.P ∧ (roomE M S.l now).2 = (roomS S now).2 := by
  have h1 := first_cnt S.P.c
  rw [pc_eq hp, keys_len, pure_len hp] at hr
  rw [decide_eq_false hr] at h1
  unfold roomE roomS
  rw [h1]
  simp only [Bool.false_eq_true, if_false]
  split
  · have h2 := vicM_pure M
    rw [hp] at h2
    have h3 : (vicS S).2 = (vicM M).2.getD 0 := by unfold vicS; rw [h2]
    have h4 : pure (vicM M).1 = (vicS S).1.P := by unfold vicS; rw [h2]
    refine ⟨?_, ?_⟩
    · rw [h3]
      exact pure_set h4 _ Z0
    · rw [h3]
      unfold qAt
      rw [pure_x hp]
  · exact frE_pure hp now
theorem insE_pure (hp : pure M = S.P) (x : Ev) (now : Nat) : pure (insE M S.l x now).1 = (insS S x.e now).1.P ∧ (insE M S.l x now).2.1 = (insS S x.e now).2.1 ∧ (insE M S.l x now).2.2 = (insS S x.e now).2.2 := by
  unfold insE insS
  split
  · exact ⟨hp, rfl, rfl⟩
  · rw [pc_eq hp]
    cases slotOf S.P.c x.e.q with
    | some k =>
      simp only
      rw [pure_x hp k]
      split
      · exact ⟨pure_set hp k ⟨x, true, true⟩, rfl, rfl⟩
      · exact ⟨hp, rfl, rfl⟩
    | none =>
      simp only
      split
      · rename_i hr
        have h1 := first_cnt S.P.c
        rw [keys_len, pure_len hp] at hr
        rw [decide_eq_true hr] at h1
        have h2 : roomS S now = (S, []) := by unfold roomS; rw [h1]; rfl
        rw [h2]
        exact ⟨putE_pure hp x, rfl, rfl⟩
      · rename_i hr
        have h1 := roomE_pure hp now (by rw [pc_eq hp]; exact hr)
        exact ⟨putE_pure h1.1 x, h1.2, rfl⟩
end
/-- What holds of all slots' entries. -/
def Al (P : Ev → Prop) (c : List (Ce Ev)) : Prop := ∀ k, P (c.getD k Z0).x
section
variable {P : Ev → Prop} {c : List (Ce Ev)}
theorem Al.set (h : Al P c) (k : Nat) (e : Ce Ev) (he : P e.x) : Al P (c.set k e) := fun j => by
  by_cases hk : k < c.length
  · rw [getD_set _ _ _ _ hk]
    split
    · exact he
    · exact h j
  · rw [List.set_eq_of_length_le (by omega)]
    exact h j
theorem Al.fr (h : Al P c) (h0 : P default) (is : List W.Ti) : Al P (frA c is) := fun k => by
  rcases frA_at is c k with e | e
  · rw [e]; exact h k
  · rw [e]; exact h0
theorem Al.put {M : Ms Ev} (h : Al P M.c) (x : Ev) (hx : P x) : Al P (putM M x).1.c := by
  unfold putM
  split
  · exact h.set _ _ hx
  · exact h
theorem Al.vic {M : Ms Ev} (h : Al P M.c) (hok : M.Ok) : Al P (vicM M).1.c := fun k => by rw [vicM_xs hok]; exact h k
theorem Al.ev {M : Ms Ev} (h : Al P M.c) (h0 : P default) (q : Qu) : Al P (evE M q).1.c := by
  unfold evE
  split
  · exact h.set _ _ h0
  · exact h
theorem Al.look {M : Ms Ev} (h : Al P M.c) (q : Qu) (now : Nat) : Al P (lookE M q now).1.c := by
  unfold lookE
  split
  · split
    · exact h.set _ _ (h _)
    · exact h
  · exact h
theorem Al.lookx {M : Ms Ev} (h : Al P M.c) (h0 : P default) (q : Qu) (now : Nat) : P (lookE M q now).2.1 := by
  unfold lookE
  split
  · split
    · exact h _
    · exact h0
  · exact h0
theorem Al.room {M : Ms Ev} (h : Al P M.c) (hok : M.Ok) (h0 : P default) (l : List W.Ti) (now : Nat) : Al P (roomE M l now).1.c := by
  unfold roomE
  split
  · exact (h.vic hok).set _ _ h0
  · exact h.fr h0 _
theorem Al.ins {M : Ms Ev} (h : Al P M.c) (hok : M.Ok) (h0 : P default) (l : List W.Ti) (x : Ev) (hx : P x) (now : Nat) : Al P (insE M l x now).1.c := by
  unfold insE
  split
  · exact h
  · split
    · split
      · exact h.set _ _ hx
      · exact h
    · split
      · exact h.put x hx
      · exact (h.room hok h0 l now).put x hx
end
/-- Both shards, the program's and the document's. -/
structure Bo (w : World) (h : Nat) (K : Ly) (S : Sd) (B : Nat) (d : Dv) (M : Ms Ev) : Prop where
  sh : Sh w h K S
  pm : pure M = S.P
  dw : Dw B w d M.c
  re : Al (Re K.X w) M.c
  xb : ∀ i, K.X i → i < B
  le : B ≤ w.heap.size
section
variable {w w' : World} {h : Nat} {K : Ly} {S S' : Sd} {B : Nat} {d d' : Dv} {M M' : Ms Ev}
theorem Bo.ok (b : Bo w h K S B d M) : M.Ok := ok_pure (by rw [b.pm]; exact b.sh.ok.ok)
theorem Bo.ti (b : Bo w h K S B d M) : TO (pc M.c) S.l := by rw [pc_eq b.pm]; exact b.sh.ok.ti
theorem Bo.low (b : Bo w h K S B d M) (hb : Below w.heap.size w w') : Bo w' h K S B d M := ⟨b.sh.low hb, b.pm, b.dw.below hb, fun k => (b.re k).low hb, b.xb, Nat.le_trans b.le hb.size⟩
end
end Go.Proofs.Ytjjanogfcfapcaa.D
