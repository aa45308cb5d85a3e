/- derricklaw12.do: Lookup, and the whole (written by tools/gen_vdq.py). -/
import Derived.Test.YtjjanogfcfapcaaVdr
namespace Go.Proofs.Ytjjanogfcfapcaa.D
open Go.RowKit
set_option linter.unusedVariables false
set_option linter.unusedSimpArgs false
section
variable {w : World} {h : Nat} {K : Ly} {S : Sd} {B : Nat} {d : Dv} {M : Ms Ev}
theorem new_en (w : World) (cs : Array Value) : Blk (w.alloc (Obj.cells #[.string ⟨#[]⟩, .int .u16 0, .int .u16 0, .slice none 0 0, .int .i64 0, .int .i64 0, .int .u64 0] 39)) w.heap.size 39 #[.string ⟨#[]⟩, .int .u16 0, .int .u16 0, .slice none 0 0, .int .i64 0, .int .i64 0, .int .u64 0] ∧ Blk ((w.alloc (Obj.cells #[.string ⟨#[]⟩, .int .u16 0, .int .u16 0, .slice none 0 0, .int .i64 0, .int .i64 0, .int .u64 0] 39)).setRow w.heap.size cs) w.heap.size 39 cs ∧ Below w.heap.size w ((w.alloc (Obj.cells #[.string ⟨#[]⟩, .int .u16 0, .int .u16 0, .slice none 0 0, .int .i64 0, .int .i64 0, .int .u64 0] 39)).setRow w.heap.size cs) := by
  have h := Blk.new w 39 #[.string ⟨#[]⟩, .int .u16 0, .int .u16 0, .slice none 0 0, .int .i64 0, .int .i64 0, .int .u64 0]
  exact ⟨h, setRow_heap _ _ _ _ _ _ h, setRow_below ((Below.refl _ w).alloc (Nat.le_refl _) _) (Nat.le_refl _) cs⟩
theorem new_two (w : World) (cs es : Array Value) : Blk ((w.alloc (Obj.cells zD 29)).alloc (Obj.cells #[.string ⟨#[]⟩, .int .u16 0, .int .u16 0, .slice none 0 0, .int .i64 0, .int .i64 0, .int .u64 0] 39)) w.heap.size 29 zD ∧ Blk (((w.alloc (Obj.cells zD 29)).alloc (Obj.cells #[.string ⟨#[]⟩, .int .u16 0, .int .u16 0, .slice none 0 0, .int .i64 0, .int .i64 0, .int .u64 0] 39)).setRow w.heap.size cs) (w.heap.size + 1) 39 #[.string ⟨#[]⟩, .int .u16 0, .int .u16 0, .slice none 0 0, .int .i64 0, .int .i64 0, .int .u64 0] ∧ Blk ((((w.alloc (Obj.cells zD 29)).alloc (Obj.cells #[.string ⟨#[]⟩, .int .u16 0, .int .u16 0, .slice none 0 0, .int .i64 0, .int .i64 0, .int .u64 0] 39)).setRow w.heap.size cs).setRow (w.heap.size + 1) es) w.heap.size 29 cs ∧ Blk ((((w.alloc (Obj.cells zD 29)).alloc (Obj.cells #[.string ⟨#[]⟩, .int .u16 0, .int .u16 0, .slice none 0 0, .int .i64 0, .int .i64 0, .int .u64 0] 39)).setRow w.heap.size cs).setRow (w.heap.size + 1) es) (w.heap.size + 1) 39 es ∧ Below w.heap.size w ((((w.alloc (Obj.cells zD 29)).alloc (Obj.cells #[.string ⟨#[]⟩, .int .u16 0, .int .u16 0, .slice none 0 0, .int .i64 0, .int .i64 0, .int .u64 0] 39)).setRow w.heap.size cs).setRow (w.heap.size + 1) es) := by
  have b0 := Blk.new w 29 zD
  have l0 := (Below.refl w.heap.size w).alloc (Nat.le_refl _) (Obj.cells zD 29)
  have e0 : (w.alloc (Obj.cells zD 29)).heap.size = w.heap.size + 1 := by simp
  generalize w.alloc (Obj.cells zD 29) = a1 at *
  have b1 := Blk.new a1 39 #[.string ⟨#[]⟩, .int .u16 0, .int .u16 0, .slice none 0 0, .int .i64 0, .int .i64 0, .int .u64 0]
  have l1 := (Below.refl a1.heap.size a1).alloc (Nat.le_refl _) (Obj.cells #[.string ⟨#[]⟩, .int .u16 0, .int .u16 0, .slice none 0 0, .int .i64 0, .int .i64 0, .int .u64 0] 39)
  rw [e0] at b1
  generalize a1.alloc (Obj.cells #[.string ⟨#[]⟩, .int .u16 0, .int .u16 0, .slice none 0 0, .int .i64 0, .int .i64 0, .int .u64 0] 39) = a2 at *
  have c0 := b0.eq (l1.block _ (by omega))
  have c1 : Blk (a2.setRow w.heap.size cs) (w.heap.size + 1) 39 #[.string ⟨#[]⟩, .int .u16 0, .int .u16 0, .slice none 0 0, .int .i64 0, .int .i64 0, .int .u64 0] := b1.eq (setRow_other _ _ _ _ (by omega))
  have c2 : Blk (a2.setRow w.heap.size cs) w.heap.size 29 cs := setRow_heap _ _ _ _ _ _ c0
  exact ⟨c0, c1, c2.eq (setRow_other _ _ _ _ (by omega)), setRow_heap _ _ _ _ _ _ c1, setRow_below (setRow_below (l0.trans (l1.mono (by omega))) (Nat.le_refl _) cs) (by omega) es⟩
set_option maxRecDepth 100000 in
set_option maxHeartbeats 4000000 in
theorem do_1 (b : Bo w h K S B d M) (D : Dd) (hk : D.k = 1) (hD : Re K.X w D.x) : Calls Try.prog 12 #[.pointer (some ⟨h, 0, none⟩), dV d M, .agg (df D).toArray] w fun e w' => ∃ (d' : Dv) (M' : Ms Ev), e = .returned (.tuple #[dV d' M', .bool true]) ∧ Bo w' h K (doS S D) B d' M' ∧ Ch K.X w w' := by
  have h3 := dk_of b D
  obtain ⟨T3, hT3⟩ : ∃ T3 : World, ((w.alloc (Obj.cells #[.slice (some ⟨d.gx, 0, none⟩) M.c.length d.cx, .slice (some ⟨d.gu, 0, none⟩) M.c.length d.cu, .slice (some ⟨d.gt, 0, none⟩) M.c.length d.ct, .int .i64 (M.h : Nat)] 29)).alloc (Obj.cells (df D).toArray 41)).alloc (Obj.cells zD 29) = T3 := ⟨_, rfl⟩
  rw [hT3] at h3
  have HK := Lib.hid h3.1
  have HBo := Lib.hid h3.2
  have HBB := Lib.hid b.le
  have HRD := Lib.hid hD
  have hds : doS S D = (lookS S D.x.e.q D.now).1 := by unfold doS; rw [hk]; rfl
  rw [hds, dV_eq]
  unfold zD at hT3
  have HP := Lib.hid (look_any h3.2.sh D.x.e.q hD.q D.now)
  unfold qV evV at HP
  clear h3 hds
  go_enter Try.func12, Try.ntmps12
  go_upto_region 1 with (fail)
  try rw [hT3]
  clear hT3
  generalize T3 = w1 at *
  obtain ⟨c0, c1, c2, c3, c8, cr⟩ := d_cells HK.out.be
  have HCR := Lib.hid cr
  clear cr
  rw [hk] at c0
  go_upto_region 8 with (first | (refine wpList_store_row rfl 39 _ _ rfl (w3.heap.size) (evL ⟨(lookS S D.x.e.q D.now).2.1, A3, cap3⟩).toArray rfl rfl 39 _ HN3.out.1 (infoEa _) rfl (evL_one _) ?_) | (go_at_call 22; with_reducible (refine (HP.out).mono ?_); rintro e w3 ⟨A3, cap3, rfl, sl3, nw3, s3, hc3⟩; have HS3 := Lib.hid s3; have HC3 := Lib.hid hc3; have HL3 := Lib.hid sl3; have HN3 := Lib.hid (new_en w3 (evL ⟨(lookS S D.x.e.q D.now).2.1, A3, cap3⟩).toArray); have HR3N := Lib.hid (show w.heap.size + 2 < w3.heap.size from Nat.lt_of_lt_of_le HK.out.br.lt hc3.size); clear s3 hc3 sl3 nw3))
  obtain ⟨_, k4, b4⟩ := HN3.out
  have HC4 := Lib.hid (HC3.out.tail (b4.mono HC3.out.size))
  have HS4 := Lib.hid (HS3.out.low b4)
  have HL4 := Lib.hid (HL3.out.below' b4)
  have HK4 := Lib.hid k4
  clear k4 b4 HN3 HL3 HS3 HC3 c0 c1 c2 c3 c8
  generalize (w3.alloc (Obj.cells #[.string ⟨#[]⟩, .int .u16 0, .int .u16 0, .slice none 0 0, .int .i64 0, .int .i64 0, .int .u64 0] 39)).setRow w3.heap.size (evL ⟨(lookS S D.x.e.q D.now).2.1, A3, cap3⟩).toArray = w4 at *
  generalize w3.heap.size = r3 at *
  have HK3 := Lib.hid (HK.out.go HC4.out)
  have HD3 := Lib.hid (HBo.out.dwc HC4.out)
  have HR3 := Lib.hid (HBo.out.rec_ HC4.out)
  obtain ⟨c0, c1, c2, c3, c8, cr⟩ := d_cells HK3.out.be
  clear cr
  have hle3 : B ≤ w4.heap.size := Nat.le_trans HBo.out.le HC4.out.size
  obtain ⟨hp1, hp2, hp3⟩ := lookE_pure HBo.out.pm D.x.e.q D.now
  have HE := Lib.hid (rlook_any B D.x.e.q d M HBo.out.ok D.now w4 HD3.out hle3)
  simp only [dV_eq, hp3] at HE
  have hrx := Al.lookx HR3.out (Re.zero _ _) D.x.e.q D.now
  obtain ⟨⟨ye, yA, yc⟩, hy⟩ : ∃ y, (lookE M D.x.e.q D.now).2.1 = y := ⟨_, rfl⟩
  rw [hy] at hp2 HE hrx
  simp only at hp2
  subst hp2
  have HYL := Lib.hid hrx.sl
  have hsm := hrx.sm
  simp only at hsm
  have HP1 := Lib.hid hp1
  clear hp1 hp3 hy hrx
  generalize (lookS S D.x.e.q D.now).2.2 = bb at *
  generalize (lookS S D.x.e.q D.now).2.1 = ee at *
  go_upto_region 9 with (first | (refine wpList_load_row rfl 29 _ rfl (w.heap.size) rfl 29 _ _ _ HK3.out.bx Try.underlying29 rfl infoD ?_) | (refine wpList_store_row rfl 29 _ _ rfl (w5.heap.size) _ rfl rfl 29 _ HN5.out.1 infoD rfl (all4 _ _ _ _ _ _ _ _) ?_) | (refine wpList_store_row rfl 39 _ _ rfl (w5.heap.size + 1) (evL ⟨ee, yA, yc⟩).toArray rfl rfl 39 _ HN5.out.2.1 (infoEa _) rfl (evL_one _) ?_) | (go_at_call 29; with_reducible (refine (HE.out).mono ?_); rintro e w5 ⟨d', rfl, hd5, hb5⟩; have HD5 := Lib.hid hd5; have HB5 := Lib.hid hb5; have HN5 := Lib.hid (new_two w5 #[.slice (some ⟨d'.gx, 0, none⟩) ((lookE M D.x.e.q D.now).1).c.length d'.cx, .slice (some ⟨d'.gu, 0, none⟩) ((lookE M D.x.e.q D.now).1).c.length d'.cu, .slice (some ⟨d'.gt, 0, none⟩) ((lookE M D.x.e.q D.now).1).c.length d'.ct, .int .i64 (((lookE M D.x.e.q D.now).1).h : Nat)] (evL ⟨ee, yA, yc⟩).toArray); unfold zD at HN5; clear hd5 hb5))
  obtain ⟨_, _, k6, k7, b6⟩ := HN5.out
  have HK6 := Lib.hid ((HK3.out.low HB5.out).low b6)
  have HO6 := Lib.hid ((Bo.mk (HS4.out.low HB5.out) HP1.out HD5.out (Al.look (fun k => (HR3.out k).low HB5.out) D.x.e.q D.now) HBo.out.xb (Nat.le_trans hle3 HB5.out.size)).low b6)
  have HL6 := Lib.hid (And.intro ((HL4.out.below' HB5.out).below' b6) ((HYL.out.below' HB5.out).below' b6))
  have HE6 := Lib.hid (And.intro ((HK4.out.eq (HB5.out.block _ HK4.out.lt)).eq (b6.block _ (Nat.lt_of_lt_of_le HK4.out.lt HB5.out.size))) k7)
  have HK5 := Lib.hid k6
  have HRQ := Lib.hid (show w.heap.size + 2 < w5.heap.size from Nat.lt_of_lt_of_le HK3.out.br.lt HB5.out.size)
  have HR3Q := Lib.hid (show r3 < w5.heap.size from Nat.lt_of_lt_of_le HK4.out.lt HB5.out.size)
  clear k6 k7 b6 HN5 c0 c1 c2 c3 c8
  generalize (((w5.alloc (Obj.cells #[Value.slice none 0 0, .slice none 0 0, .slice none 0 0, .int .i64 0] 29)).alloc (Obj.cells #[.string ⟨#[]⟩, .int .u16 0, .int .u16 0, .slice none 0 0, .int .i64 0, .int .i64 0, .int .u64 0] 39)).setRow w5.heap.size #[.slice (some ⟨d'.gx, 0, none⟩) ((lookE M D.x.e.q D.now).1).c.length d'.cx, .slice (some ⟨d'.gu, 0, none⟩) ((lookE M D.x.e.q D.now).1).c.length d'.cu, .slice (some ⟨d'.gt, 0, none⟩) ((lookE M D.x.e.q D.now).1).c.length d'.ct, .int .i64 (((lookE M D.x.e.q D.now).1).h : Nat)]).setRow (w5.heap.size + 1) (evL ⟨ee, yA, yc⟩).toArray = w6 at *
  generalize w5.heap.size = r5 at *
  have hd := (Below.refl w6.heap.size w6).drew
  have HK7 := Lib.hid (HK6.out.low hd)
  have HO7 := Lib.hid (HO6.out.low hd)
  have HA := Lib.hid (same_yes ee A3 cap3 yA yc hsm w6.drew (HL6.out.1.below' hd) (HL6.out.2.below' hd))
  have HK57 := Lib.hid (And.intro (HK5.out.eq (hd.block _ HK5.out.lt)) (And.intro (HE6.out.1.eq (hd.block _ HE6.out.1.lt)) (HE6.out.2.eq (hd.block _ HE6.out.2.lt))))
  refine wp_region_held_drew (S := fun wq => Blk wq r5 29 #[.slice (some ⟨d'.gx, 0, none⟩) ((lookE M D.x.e.q D.now).1).c.length d'.cx, .slice (some ⟨d'.gu, 0, none⟩) ((lookE M D.x.e.q D.now).1).c.length d'.cu, .slice (some ⟨d'.gt, 0, none⟩) ((lookE M D.x.e.q D.now).1).c.length d'.ct, .int .i64 (((lookE M D.x.e.q D.now).1).h : Nat)] ∧ Blk wq r3 39 (evL ⟨ee, A3, cap3⟩).toArray ∧ Blk wq (r5 + 1) 39 (evL ⟨ee, yA, yc⟩).toArray) (by kernel_rfl) HK57.out (fun _ => ?_)
  clear hd HK6 HO6 HK5 HE6
  generalize w6.drew = w7 at *
  refine wpAnyH_take (i := 0) (v := .agg #[.slice (some ⟨d'.gx, 0, none⟩) ((lookE M D.x.e.q D.now).1).c.length d'.cx, .slice (some ⟨d'.gu, 0, none⟩) ((lookE M D.x.e.q D.now).1).c.length d'.cu, .slice (some ⟨d'.gt, 0, none⟩) ((lookE M D.x.e.q D.now).1).c.length d'.ct, .int .i64 (((lookE M D.x.e.q D.now).1).h : Nat)]) rfl (by kernel_rfl) (by kernel_rfl) (by kernel_rfl) (fun _ _ _ h => h) (Or.inl ⟨by rfl, ?_⟩) (by assumption) ?_
  · (intro wq hSw; obtain ⟨x0, x1, x2, x3⟩ := box_cells hSw.1; go_simp; try rfl)
  try simp only [Act.put, List.getElem_toArray, List.getElem_cons_zero, List.getElem_cons_succ, List.setIfInBounds_toArray, List.set_cons_zero, List.set_cons_succ]
  refine wpAnyH_take (i := 1) rfl (by kernel_rfl) (by kernel_rfl) (by kernel_rfl) (fun _ _ _ h => h) (yieldsIf_load_mid (by rfl) 39 _ rfl (r3) 0 rfl (evL ⟨ee, A3, cap3⟩) _ (fun wq hSw => load_E0 hSw.2.1) Try.underlying39 rfl (infoEv _)) (by assumption) ?_
  try simp only [Act.put, List.getElem_toArray, List.getElem_cons_zero, List.getElem_cons_succ, List.setIfInBounds_toArray, List.set_cons_zero, List.set_cons_succ]
  refine wpAnyH_take (i := 2) rfl (by kernel_rfl) (by kernel_rfl) (by kernel_rfl) (fun _ _ _ h => h) (yieldsIf_load_mid (by rfl) 39 _ rfl (r5 + 1) 0 rfl (evL ⟨ee, yA, yc⟩) _ (fun wq hSw => load_E0 hSw.2.2) Try.underlying39 rfl (infoEv _)) (by assumption) ?_
  try simp only [Act.put, List.getElem_toArray, List.getElem_cons_zero, List.getElem_cons_succ, List.setIfInBounds_toArray, List.set_cons_zero, List.set_cons_succ]
  refine wpAnyH_ready (rs := [3]) (by kernel_rfl) (by simp) ?_
  refine AllReadyH.cons rfl (fun K hK => ?_) AllReadyH.nil
  rw [if_pos (by rfl)]
  go_simp
  go_at_call 23
  with_reducible (refine HA.out.mono ?_)
  rintro e w8 ⟨rfl, hb8⟩
  have HK8 := Lib.hid (HK7.out.low hb8)
  have HO8 := Lib.hid (HO7.out.low hb8)
  have HK58 := Lib.hid (And.intro (HK57.out.1.eq (hb8.block _ HK57.out.1.lt)) (And.intro (HK57.out.2.1.eq (hb8.block _ HK57.out.2.1.lt)) (HK57.out.2.2.eq (hb8.block _ HK57.out.2.2.lt))))
  clear hb8
  refine hK.out _ _ HK58.out (fun _ => ?_)
  clear hK K
  try simp only [Act.put, List.getElem_toArray, List.getElem_cons_zero, List.getElem_cons_succ, List.setIfInBounds_toArray, List.set_cons_zero, List.set_cons_succ]
  refine wpAnyH_take (i := 4) (v := ?_) rfl (by kernel_rfl) (by kernel_rfl) (by kernel_rfl) (fun _ _ _ h => h) (Or.inl ⟨by rfl, ?_⟩) (by assumption) ?_
  rotate_left
  · (intro wq hSw; go_simp; try (with_reducible rfl))
  try simp only [Act.put, List.getElem_toArray, List.getElem_cons_zero, List.getElem_cons_succ, List.setIfInBounds_toArray, List.set_cons_zero, List.set_cons_succ]
  refine wpAnyH_take (i := 5) (v := ?_) rfl (by kernel_rfl) (by kernel_rfl) (by kernel_rfl) (fun _ _ _ h => h) (Or.inl ⟨by rfl, ?_⟩) (by assumption) ?_
  rotate_left
  · (intro wq hSw; go_simp; try (with_reducible rfl))
  try simp only [Act.put, List.getElem_toArray, List.getElem_cons_zero, List.getElem_cons_succ, List.setIfInBounds_toArray, List.set_cons_zero, List.set_cons_succ]
  refine wpAnyH_take (i := 6) (v := ?_) rfl (by kernel_rfl) (by kernel_rfl) (by kernel_rfl) (fun _ _ _ h => h) (Or.inl ⟨by rfl, ?_⟩) (by assumption) ?_
  rotate_left
  · (intro wq hSw; go_simp; try (with_reducible rfl))
  try simp only [Act.put, List.getElem_toArray, List.getElem_cons_zero, List.getElem_cons_succ, List.setIfInBounds_toArray, List.set_cons_zero, List.set_cons_succ]
  refine wpAnyH_take (i := 7) (v := .bool true) rfl (by kernel_rfl) (by kernel_rfl) (by kernel_rfl) (fun _ _ _ h => h) (Or.inl ⟨by rfl, ?_⟩) (by assumption) ?_
  · (intro wq hSw; skip; go_simp; try rfl)
  try simp only [Act.put, List.getElem_toArray, List.getElem_cons_zero, List.getElem_cons_succ, List.setIfInBounds_toArray, List.set_cons_zero, List.set_cons_succ]
  refine wpAnyH_take (i := 8) (v := .bool true) rfl (by kernel_rfl) (by kernel_rfl) (by kernel_rfl) (fun _ _ _ h => h) (Or.inl ⟨by rfl, ?_⟩) (by assumption) ?_
  · (intro wq hSw; skip; go_simp; try rfl)
  try simp only [Act.put, List.getElem_toArray, List.getElem_cons_zero, List.getElem_cons_succ, List.setIfInBounds_toArray, List.set_cons_zero, List.set_cons_succ]
  refine wpAnyH_ready (rs := [9]) (by kernel_rfl) (by simp) ?_
  refine AllReadyH.cons rfl (fun K hK => ?_) AllReadyH.nil
  rw [if_pos (by rfl)]
  refine wp_store_row 29 _ _ rfl (w.heap.size + 2) _ rfl rfl 29 zD HK8.out.br infoD rfl (all4 _ _ _ _ _ _ _ _) ?_
  refine hK.out _ _ ⟨HK58.out.1.eq (setRow_other _ _ _ _ (by have := HRQ.out; omega)), HK58.out.2.1.eq (setRow_other _ _ _ _ (by have := HR3N.out; omega)), HK58.out.2.2.eq (setRow_other _ _ _ _ (by have := HRQ.out; omega))⟩ (fun _ => ?_)
  clear hK K
  try simp only [Act.put, List.getElem_toArray, List.getElem_cons_zero, List.getElem_cons_succ, List.setIfInBounds_toArray, List.set_cons_zero, List.set_cons_succ]
  refine wpAnyH_ready (rs := [10]) (by kernel_rfl) (by simp) ?_
  refine AllReadyH.cons rfl (fun K hK => ?_) AllReadyH.nil
  rw [if_pos (by rfl)]
  go_simp
  refine hK.out _ _ ⟨HK58.out.1.eq (setRow_other _ _ _ _ (by have := HRQ.out; omega)), HK58.out.2.1.eq (setRow_other _ _ _ _ (by have := HR3N.out; omega)), HK58.out.2.2.eq (setRow_other _ _ _ _ (by have := HRQ.out; omega))⟩ (fun _ => ?_)
  clear hK K
  try simp only [Act.put, List.getElem_toArray, List.getElem_cons_zero, List.getElem_cons_succ, List.setIfInBounds_toArray, List.set_cons_zero, List.set_cons_succ]
  refine wpAnyH_done (by kernel_rfl) ?_ _
  go_wp2_with fail
  refine ret_d2 rfl rfl rfl rfl (setRow_heap _ _ _ _ _ _ HK8.out.br) ⟨d', (lookE M D.x.e.q D.now).1, ?_, HO8.out.set HK8.out.br noS_z (by have := HK8.out.hq; omega) _, HK8.out.end_ _⟩
  rw [dV_eq]
  first | rfl | (simp; done)

theorem do_any (b : Bo w h K S B d M) (D : Dd) (hD : Re K.X w D.x) : Calls Try.prog 12 #[.pointer (some ⟨h, 0, none⟩), dV d M, .agg (df D).toArray] w fun e w' => ∃ (d' : Dv) (M' : Ms Ev), e = .returned (.tuple #[dV d' M', .bool true]) ∧ Bo w' h K (doS S D) B d' M' ∧ Ch K.X w w' := by
  by_cases h0 : D.k = 0
  · exact do_0 b D h0 hD
  · by_cases h1 : D.k = 1
    · exact do_1 b D h1 hD
    · by_cases h2 : D.k = 2
      · exact do_2 b D h2 hD
      · exact do_3 b D h0 h1 h2 hD
end
end Go.Proofs.Ytjjanogfcfapcaa.D
