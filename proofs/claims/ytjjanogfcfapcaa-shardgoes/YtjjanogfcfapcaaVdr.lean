/- derricklaw12.do: Insert (written by tools/gen_vdq.py). -/
import Derived.Test.YtjjanogfcfapcaaVdq
namespace Go.Proofs.Ytjjanogfcfapcaa.D
open Go.RowKit
set_option linter.unusedVariables false
set_option linter.unusedSimpArgs false
section
variable {w : World} {h : Nat} {K : Ly} {S : Sd} {B : Nat} {d : Dv} {M : Ms Ev}
theorem ins_le {S : Sd} (ok : S.Ok) (e : En) (now : Nat) : (insS S e now).2.1.length ≤ 1000 := by
  have h1 := adv_le ok now
  unfold insS
  split
  · exact Nat.zero_le _
  · split
    · split <;> exact Nat.zero_le _
    · unfold roomS
      split
      · exact Nat.zero_le _
      · split
        · show (1 : Nat) ≤ 1000
          omega
        · exact h1
set_option maxRecDepth 100000 in
set_option maxHeartbeats 4000000 in
theorem do_0 (b : Bo w h K S B d M) (D : Dd) (hk : D.k = 0) (hD : Re K.X w D.x) : Calls Try.prog 12 #[.pointer (some ⟨h, 0, none⟩), dV d M, .agg (df D).toArray] w fun e w' => ∃ (d' : Dv) (M' : Ms Ev), e = .returned (.tuple #[dV d' M', .bool true]) ∧ Bo w' h K (doS S D) B d' M' ∧ Ch K.X w w' := by
  have h3 := dk_of b D
  obtain ⟨T3, hT3⟩ : ∃ T3 : World, ((w.alloc (Obj.cells #[.slice (some ⟨d.gx, 0, none⟩) M.c.length d.cx, .slice (some ⟨d.gu, 0, none⟩) M.c.length d.cu, .slice (some ⟨d.gt, 0, none⟩) M.c.length d.ct, .int .i64 (M.h : Nat)] 29)).alloc (Obj.cells (df D).toArray 41)).alloc (Obj.cells zD 29) = T3 := ⟨_, rfl⟩
  rw [hT3] at h3
  have HK := Lib.hid h3.1
  have HBo := Lib.hid h3.2
  have HBB := Lib.hid b.le
  have HRD := Lib.hid hD
  have hds : doS S D = (insS S D.x.e D.now).1 := by unfold doS; rw [hk]; rfl
  rw [hds, dV_eq]
  unfold zD at hT3
  have HP := Lib.hid (ins_any h3.2.sh D.x (hD.ch h3.1.ch) D.now)
  unfold evV at HP
  have HGL := Lib.hid (ins_le b.sh.ok D.x.e D.now)
  clear h3 hds
  go_enter Try.func12, Try.ntmps12
  go_upto_region 1 with (fail)
  try rw [hT3]
  clear hT3
  generalize T3 = w1 at *
  obtain ⟨c0, c1, c2, c3, c8, cr⟩ := d_cells HK.out.be
  have HCR := Lib.hid cr
  clear cr
  rw [hk] at c0
  go_upto_region 4 with (first | (refine wpList_load_mid rfl 39 _ rfl (w.heap.size + 1) 1 rfl _ _ HCR.out Try.underlying39 rfl (infoEv _) ?_) | (go_at_call 19; with_reducible (refine (HP.out).mono ?_); rintro e w3 ⟨A3, cap3, rfl, sl3, nw3, s3, hc3⟩; have HS3 := Lib.hid s3; have HC3 := Lib.hid hc3; have HL3 := Lib.hid sl3; clear s3 hc3 sl3 nw3))
  clear c0 c1 c2 c3 c8
  have HK3 := Lib.hid (HK.out.go HC3.out)
  have HD3 := Lib.hid (HBo.out.dwc HC3.out)
  have HR3 := Lib.hid (HBo.out.rec_ HC3.out)
  obtain ⟨c0, c1, c2, c3, c8, cr⟩ := d_cells HK3.out.be
  have HCR3 := Lib.hid cr
  clear cr
  have hle3 : B ≤ w3.heap.size := Nat.le_trans HBo.out.le HC3.out.size
  have HE := Lib.hid (rins_any B D.x d M HBo.out.ok S.l HBo.out.ti D.now w3 HD3.out hle3)
  simp only [dV_eq, (insE_pure HBo.out.pm D.x D.now).2.1, (insE_pure HBo.out.pm D.x D.now).2.2] at HE
  have hgl : (insS S D.x.e D.now).2.1.length ≤ 1000 := HGL.out
  generalize (insS S D.x.e D.now).2.1 = gl at *
  generalize (insS S D.x.e D.now).2.2 = cc at *
  go_upto_region 5 with (first | (refine wpList_load_row rfl 29 _ rfl (w.heap.size) rfl 29 _ _ _ HK3.out.bx Try.underlying29 rfl infoD ?_) | (refine wpList_load_mid rfl 39 _ rfl (w.heap.size + 1) 1 rfl _ _ HCR3.out Try.underlying39 rfl (infoEv _) ?_) | (refine wpList_store_row rfl 29 _ _ rfl (w5.heap.size) _ rfl rfl 29 _ HN5.out.1 infoD rfl (all4 _ _ _ _ _ _ _ _) ?_) | (go_at_call 28; with_reducible (refine (HE.out).mono ?_); rintro e w5 ⟨d', A5, cap5, rfl, hd5, sl5, nw5, hb5⟩; have HD5 := Lib.hid hd5; have HB5 := Lib.hid hb5; have HL5 := Lib.hid sl5; have HN5 := Lib.hid (new_sh w5 #[.slice (some ⟨d'.gx, 0, none⟩) ((insE M S.l D.x D.now).1).c.length d'.cx, .slice (some ⟨d'.gu, 0, none⟩) ((insE M S.l D.x D.now).1).c.length d'.cu, .slice (some ⟨d'.gt, 0, none⟩) ((insE M S.l D.x D.now).1).c.length d'.ct, .int .i64 (((insE M S.l D.x D.now).1).h : Nat)]); unfold zD at HN5; clear hd5 hb5 sl5 nw5))
  obtain ⟨_, k6, b6⟩ := HN5.out
  have HK6 := Lib.hid ((HK3.out.low HB5.out).low b6)
  have HO6 := Lib.hid ((Bo.mk (HS3.out.low HB5.out) (insE_pure HBo.out.pm D.x D.now).1 HD5.out (Al.ins (fun k => (HR3.out k).low HB5.out) HBo.out.ok (Re.zero _ _) S.l D.x ((HRD.out.ch HK3.out.ch).low HB5.out) D.now) HBo.out.xb (Nat.le_trans hle3 HB5.out.size)).low b6)
  have HL6 := Lib.hid (And.intro ((HL3.out.below' HB5.out).below' b6) (HL5.out.below' b6))
  have HK5 := Lib.hid k6
  have HRQ := Lib.hid (show w.heap.size + 2 < w5.heap.size from Nat.lt_of_lt_of_le HK3.out.br.lt HB5.out.size)
  clear k6 b6 HN5 c0 c1 c2 c3 c8
  generalize (w5.alloc (Obj.cells #[Value.slice none 0 0, .slice none 0 0, .slice none 0 0, .int .i64 0] 29)).setRow w5.heap.size #[.slice (some ⟨d'.gx, 0, none⟩) ((insE M S.l D.x D.now).1).c.length d'.cx, .slice (some ⟨d'.gu, 0, none⟩) ((insE M S.l D.x D.now).1).c.length d'.cu, .slice (some ⟨d'.gt, 0, none⟩) ((insE M S.l D.x D.now).1).c.length d'.ct, .int .i64 (((insE M S.l D.x D.now).1).h : Nat)] = w6 at *
  generalize w5.heap.size = r5 at *
  have hd := (Below.refl w6.heap.size w6).drew
  have HK7 := Lib.hid (HK6.out.low hd)
  have HO7 := Lib.hid (HO6.out.low hd)
  have HA := Lib.hid (asks_yes A3 cap3 A5 cap5 gl hgl w6.drew (HL6.out.1.below' hd) (HL6.out.2.below' hd))
  refine wp_region_held_drew (S := fun wq => Blk wq r5 29 #[.slice (some ⟨d'.gx, 0, none⟩) ((insE M S.l D.x D.now).1).c.length d'.cx, .slice (some ⟨d'.gu, 0, none⟩) ((insE M S.l D.x D.now).1).c.length d'.cu, .slice (some ⟨d'.gt, 0, none⟩) ((insE M S.l D.x D.now).1).c.length d'.ct, .int .i64 (((insE M S.l D.x D.now).1).h : Nat)]) (by kernel_rfl) (HK5.out.eq (hd.block _ HK5.out.lt)) (fun _ => ?_)
  have HK57 := Lib.hid (HK5.out.eq (hd.block _ HK5.out.lt))
  clear hd HK6 HO6 HK5
  generalize w6.drew = w7 at *
  refine wpAnyH_take (i := 0) (v := .agg #[.slice (some ⟨d'.gx, 0, none⟩) ((insE M S.l D.x D.now).1).c.length d'.cx, .slice (some ⟨d'.gu, 0, none⟩) ((insE M S.l D.x D.now).1).c.length d'.cu, .slice (some ⟨d'.gt, 0, none⟩) ((insE M S.l D.x D.now).1).c.length d'.ct, .int .i64 (((insE M S.l D.x D.now).1).h : Nat)]) rfl (by kernel_rfl) (by kernel_rfl) (by kernel_rfl) (fun _ _ _ h => h) (Or.inl ⟨by rfl, ?_⟩) (by assumption) ?_
  · (intro wq hSw; obtain ⟨x0, x1, x2, x3⟩ := box_cells hSw; go_simp; try rfl)
  try simp only [Act.put, List.getElem_toArray, List.getElem_cons_zero, List.getElem_cons_succ, List.setIfInBounds_toArray, List.set_cons_zero, List.set_cons_succ]
  refine wpAnyH_take (i := 1) (v := ?_) rfl (by kernel_rfl) (by kernel_rfl) (by kernel_rfl) (fun _ _ _ h => h) (Or.inl ⟨by rfl, ?_⟩) (by assumption) ?_
  rotate_left
  · (intro wq hSw; go_simp; try (with_reducible rfl))
  try simp only [Act.put, List.getElem_toArray, List.getElem_cons_zero, List.getElem_cons_succ, List.setIfInBounds_toArray, List.set_cons_zero, List.set_cons_succ]
  refine wpAnyH_take (i := 2) (v := ?_) rfl (by kernel_rfl) (by kernel_rfl) (by kernel_rfl) (fun _ _ _ h => h) (Or.inl ⟨by rfl, ?_⟩) (by assumption) ?_
  rotate_left
  · (intro wq hSw; go_simp; try (with_reducible rfl))
  try simp only [Act.put, List.getElem_toArray, List.getElem_cons_zero, List.getElem_cons_succ, List.setIfInBounds_toArray, List.set_cons_zero, List.set_cons_succ]
  refine wpAnyH_ready (rs := [3]) (by kernel_rfl) (by simp) ?_
  refine AllReadyH.cons rfl (fun K hK => ?_) AllReadyH.nil
  rw [if_pos (by rfl)]
  go_simp
  go_at_call 13
  with_reducible (refine HA.out.mono ?_)
  rintro e w8 ⟨rfl, hb8⟩
  have HK8 := Lib.hid (HK7.out.low hb8)
  have HO8 := Lib.hid (HO7.out.low hb8)
  have HK58 := Lib.hid (HK57.out.eq (hb8.block _ HK57.out.lt))
  clear hb8
  refine hK.out _ _ HK58.out (fun _ => ?_)
  clear hK K
  try simp only [Act.put, List.getElem_toArray, List.getElem_cons_zero, List.getElem_cons_succ, List.setIfInBounds_toArray, List.set_cons_zero, List.set_cons_succ]
  refine wpAnyH_take (i := 4) (v := ?_) rfl (by kernel_rfl) (by kernel_rfl) (by kernel_rfl) (fun _ _ _ h => h) (Or.inl ⟨by rfl, ?_⟩) (by assumption) ?_
  rotate_left
  · (intro wq hSw; go_simp; try (with_reducible rfl))
  try simp only [Act.put, List.getElem_toArray, List.getElem_cons_zero, List.getElem_cons_succ, List.setIfInBounds_toArray, List.set_cons_zero, List.set_cons_succ]
  refine wpAnyH_take (i := 5) (v := ?_) rfl (by kernel_rfl) (by kernel_rfl) (by kernel_rfl) (fun _ _ _ h => h) (Or.inl ⟨by rfl, ?_⟩) (by assumption) ?_
  rotate_left
  · (intro wq hSw; go_simp; try (with_reducible rfl))
  try simp only [Act.put, List.getElem_toArray, List.getElem_cons_zero, List.getElem_cons_succ, List.setIfInBounds_toArray, List.set_cons_zero, List.set_cons_succ]
  refine wpAnyH_take (i := 6) (v := ?_) rfl (by kernel_rfl) (by kernel_rfl) (by kernel_rfl) (fun _ _ _ h => h) (Or.inl ⟨by rfl, ?_⟩) (by assumption) ?_
  rotate_left
  · (intro wq hSw; go_simp; try (with_reducible rfl))
  try simp only [Act.put, List.getElem_toArray, List.getElem_cons_zero, List.getElem_cons_succ, List.setIfInBounds_toArray, List.set_cons_zero, List.set_cons_succ]
  refine wpAnyH_take (i := 7) (v := .bool true) rfl (by kernel_rfl) (by kernel_rfl) (by kernel_rfl) (fun _ _ _ h => h) (Or.inl ⟨by rfl, ?_⟩) (by assumption) ?_
  · (intro wq hSw; skip; go_simp; try rfl)
  try simp only [Act.put, List.getElem_toArray, List.getElem_cons_zero, List.getElem_cons_succ, List.setIfInBounds_toArray, List.set_cons_zero, List.set_cons_succ]
  refine wpAnyH_take (i := 8) (v := .bool true) rfl (by kernel_rfl) (by kernel_rfl) (by kernel_rfl) (fun _ _ _ h => h) (Or.inl ⟨by rfl, ?_⟩) (by assumption) ?_
  · (intro wq hSw; skip; go_simp; try rfl)
  try simp only [Act.put, List.getElem_toArray, List.getElem_cons_zero, List.getElem_cons_succ, List.setIfInBounds_toArray, List.set_cons_zero, List.set_cons_succ]
  refine wpAnyH_ready (rs := [9]) (by kernel_rfl) (by simp) ?_
  refine AllReadyH.cons rfl (fun K hK => ?_) AllReadyH.nil
  rw [if_pos (by rfl)]
  refine wp_store_row 29 _ _ rfl (w.heap.size + 2) _ rfl rfl 29 zD HK8.out.br infoD rfl (all4 _ _ _ _ _ _ _ _) ?_
  refine hK.out _ _ (HK58.out.eq (setRow_other _ _ _ _ (by have := HRQ.out; omega))) (fun _ => ?_)
  clear hK K
  try simp only [Act.put, List.getElem_toArray, List.getElem_cons_zero, List.getElem_cons_succ, List.setIfInBounds_toArray, List.set_cons_zero, List.set_cons_succ]
  refine wpAnyH_ready (rs := [10]) (by kernel_rfl) (by simp) ?_
  refine AllReadyH.cons rfl (fun K hK => ?_) AllReadyH.nil
  rw [if_pos (by rfl)]
  go_simp
  refine hK.out _ _ (HK58.out.eq (setRow_other _ _ _ _ (by have := HRQ.out; omega))) (fun _ => ?_)
  clear hK K
  try simp only [Act.put, List.getElem_toArray, List.getElem_cons_zero, List.getElem_cons_succ, List.setIfInBounds_toArray, List.set_cons_zero, List.set_cons_succ]
  refine wpAnyH_done (by kernel_rfl) ?_ _
  go_wp2_with fail
  refine ret_d2 rfl rfl rfl rfl (setRow_heap _ _ _ _ _ _ HK8.out.br) ⟨d', (insE M S.l D.x D.now).1, ?_, HO8.out.set HK8.out.br noS_z (by have := HK8.out.hq; omega) _, HK8.out.end_ _⟩
  rw [dV_eq]
  first | rfl | (simp; done)

end
end Go.Proofs.Ytjjanogfcfapcaa.D
