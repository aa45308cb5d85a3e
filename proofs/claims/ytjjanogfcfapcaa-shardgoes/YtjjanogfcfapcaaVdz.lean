/- What the laws' walks need besides: one block turns, keys stay, a lookup at nought. -/
import Derived.Test.YtjjanogfcfapcaaVdu
import Derived.Test.YtjjanogfcfapcaaVdy
namespace Go.Proofs.Ytjjanogfcfapcaa.D
open Go.RowKit
set_option linter.unusedVariables false

theorem re_ch1 {X : Nat → Prop} {w w' : World} {x : Ev} {g : Nat} {t : TypeId} {cs : Array Value} (h : Re X w x) (hb : Blk w g t cs) (hs : NoS cs) (hc : Ch (fun i => i = g) w w') : Re X w' x := by
  refine ⟨h.sl.ch hc (fun b off hA hne he => ?_), h.away, h.q, h.ex, h.sm⟩
  rcases h.sl.has with h1 | ⟨b', off', h1, h2, h3⟩
  · exact hne h1
  · rw [h1] at hA
    cases hA
    subst he
    obtain ⟨r, l, hl⟩ := List.exists_cons_of_ne_nil hne
    have h4 := h3 0 (.string r.n) (by rw [hl]; rfl)
    rw [Nat.add_zero, hb.cell] at h4
    exact hs _ _ h4
theorem sh_ch1 {w w' : World} {h g : Nat} {K : Ly} {S : Sd} {t : TypeId} {cs : Array Value} (s : Sh w h K S) (hb : Blk w g t cs) (hs : NoS cs) (hg : h < g) (hc : Ch (fun i => i = g) w w') : Sh w' h K S := by
  obtain ⟨ok, M, hp, v⟩ := s
  have u1 := v.up.bg
  have u2 := v.up.wg
  have u3 := v.up.sb
  have u4 := v.up.pw
  have u5 := v.up.ps
  have u6 := v.up.ph
  refine ⟨ok, M, hp, ?_⟩
  exact ⟨v.up, v.bh.eq (hc.block _ v.bh.lt (by omega)), v.sp.keepC hc (by omega) (by omega), v.pm.block (hc.block _ v.pm.lt (by omega)), v.wl.ch hc (by omega) (by omega) (fun j hj => by have := v.up.pm j hj; omega), fun k => re_ch1 (v.re k) hb hs hc⟩
theorem sh_fine {w : World} {h : Nat} {K : Ly} {S : Sd} (s : Sh w h K S) (k : Nat) : (qAt S.P.c k).Fine := by
  obtain ⟨ok, M, hp, v⟩ := s
  have := (v.re k).q
  rw [pure_x hp k] at this
  exact this
theorem look_0 {w : World} {h : Nat} {K : Ly} {S : Sd} (s : Sh w h K S) (q : Qu) (hq : q.Fine) : Calls Try.prog 22 #[.pointer (some ⟨h, 0, none⟩), .agg #[.string q.n, .int .u16 (q.k : Nat), .int .u16 (q.c : Nat)], .int .u64 0] w fun e w' => ∃ A cap, e = .returned (.tuple #[.agg (evL ⟨(lookS S q 0).2.1, A, cap⟩).toArray, .bool (lookS S q 0).2.2]) ∧ Sl rf w' A cap (lookS S q 0).2.1.l ∧ Nw w.heap.size A ∧ Sh w' h K (lookS S q 0).1 ∧ Ch K.X w w' := look_any s q hq 0
theorem argd_low {w w' : World} {D : Dd} (h : ArgD w D) (hb : Below w.heap.size w w') : ArgD w' D := ⟨h.x.low hb, h.now⟩
end Go.Proofs.Ytjjanogfcfapcaa.D
