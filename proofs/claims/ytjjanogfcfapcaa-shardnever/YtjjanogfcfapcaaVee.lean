/- An entry's box turns: no records lie in it, nor the shard (for ShardNever). -/
import Derived.Test.YtjjanogfcfapcaaVdz
import Derived.Test.YtjjanogfcfapcaaVed
namespace Go.Proofs.Ytjjanogfcfapcaa.D
open Go.RowKit
set_option linter.unusedVariables false

theorem rec_box {X : Nat → Prop} {w : World} {x y : Ev} {g : Nat} {t : TypeId} (h : Re X w x) (hb : Blk w g t (evL y).toArray) : ∀ b off, x.A = some ⟨b, off, none⟩ → x.e.l ≠ [] → b ≠ g := by
  intro b off hA hne he
  subst he
  rcases h.sl.has with h1 | ⟨b', off', h1, h2, h3⟩
  · exact hne h1
  · rw [h1] at hA
    cases hA
    obtain ⟨r, l, hl⟩ := List.exists_cons_of_ne_nil hne
    have h4 := h3 0 (.string r.n) (by rw [hl]; rfl)
    have h5 := h3 3 (.int .u32 (r.t : Nat)) (by rw [hl]; rfl)
    rw [Nat.add_zero, hb.cell] at h4
    rw [hb.cell] at h5
    match off, h4, h5 with
    | 0, _, h5 => cases h5
    | 1, h4, _ => cases h4
    | 2, h4, _ => cases h4
    | 3, h4, _ => cases h4
    | 4, h4, _ => cases h4
    | 5, h4, _ => cases h4
    | 6, h4, _ => cases h4
    | n + 7, h4, _ => cases h4
theorem re_box {X : Nat → Prop} {w w' : World} {x y : Ev} {g : Nat} {t : TypeId} (h : Re X w x) (hb : Blk w g t (evL y).toArray) (hc : Ch (fun i => i = g) w w') : Re X w' x :=
  ⟨h.sl.ch hc (fun b off hA hne he => rec_box h hb b off hA hne he), h.away, h.q, h.ex, h.sm⟩
/-- The box is older than the shard. -/
theorem sh_box {w w' : World} {h g : Nat} {K : Ly} {S : Sd} {y : Ev} {t : TypeId} (s : Sh w h K S) (hb : Blk w g t (evL y).toArray) (hg : ∀ i, K.X i → g < i) (hc : Ch (fun i => i = g) w w') : Sh w' h K S := by
  obtain ⟨ok, M, hp, v⟩ := s
  have u0 := hg K.b (.inr (.inl rfl))
  have u1 := v.up.bg
  have u2 := v.up.wg
  have u3 := v.up.sb
  have u4 := v.up.pw
  have u5 := v.up.ps
  have u6 := v.up.ph
  exact ⟨ok, M, hp, v.up, v.bh.eq (hc.block _ v.bh.lt (by omega)), v.sp.keepC hc (by omega) (by omega), v.pm.block (hc.block _ v.pm.lt (by omega)), v.wl.ch hc (by omega) (by omega) (fun j hj => by have := hg _ (.inr (.inr (.inr ⟨j, hj, rfl⟩))); omega), fun k => re_box (v.re k) hb hc⟩
end Go.Proofs.Ytjjanogfcfapcaa.D
