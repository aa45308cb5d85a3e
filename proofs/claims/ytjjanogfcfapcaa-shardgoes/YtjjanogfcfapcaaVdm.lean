/- The contract of derrickref12.Lookup of what is live (written by tools/gen_vdl.py). -/
import Derived.Test.YtjjanogfcfapcaaVdl
namespace Go.Proofs.Ytjjanogfcfapcaa.D
open Go.RowKit
set_option linter.unusedVariables false

set_option linter.unusedSimpArgs false in
set_option maxRecDepth 100000 in
set_option maxHeartbeats 4000000 in
theorem rlook_c (B : Nat) (q : Qu) (d : Dv) (M : Ms Ev) (hok : M.Ok) (now : Nat) (w : World) (h : Dw B w d M.c) (hB : B ≤ w.heap.size) (k : Nat) (hs : slotOf (pc M.c) q = some k) (he : now < (M.c.getD k Z0).x.e.ex) : Calls Try.prog 29 #[dV d M, .agg #[.string q.n, .int .u16 (q.k : Nat), .int .u16 (q.c : Nat)], .int .u64 (now : Nat)] w fun e w' => ∃ d' : Dv, e = .returned (.tuple #[dV d' (lookE M q now).1, .agg (evL (lookE M q now).2.1).toArray, .bool (lookE M q now).2.2]) ∧ Dw B w' d' (lookE M q now).1.c ∧ Below w.heap.size w w' := by
  have h4 := bx_four h #[.string q.n, .int .u16 (q.k : Nat), .int .u16 (q.c : Nat)] 35 #[.string ⟨#[]⟩, .int .u16 0, .int .u16 0, .slice none 0 0, .int .i64 0, .int .i64 0, .int .u64 0]
  obtain ⟨T3, hT3⟩ : ∃ T3 : World, (((w.alloc (Obj.cells #[.slice (some ⟨d.gx, 0, none⟩) M.c.length d.cx, .slice (some ⟨d.gu, 0, none⟩) M.c.length d.cu, .slice (some ⟨d.gt, 0, none⟩) M.c.length d.ct, .int .i64 (M.h : Nat)] 29)).alloc (Obj.cells #[.string q.n, .int .u16 (q.k : Nat), .int .u16 (q.c : Nat)] 35)).alloc (Obj.cells zD 29)).alloc (Obj.cells #[.string ⟨#[]⟩, .int .u16 0, .int .u16 0, .slice none 0 0, .int .i64 0, .int .i64 0, .int .u64 0] 39) = T3 := ⟨_, rfl⟩
  rw [hT3] at h4
  have HT := Lib.hid h4.1
  have HQ := Lib.hid h4.2.1
  have HE := Lib.hid h4.2.2
  have HC := Lib.hid (at_any B q d M hok T3 h4.1.D)
  have HBB := Lib.hid hB
  have H0 := Lib.hid h
  rw [dV_eq] at HC ⊢
  unfold zD at hT3
  obtain ⟨y0, hy0⟩ : ∃ y0, (M.c.getD k Z0).x = y0 := ⟨_, rfl⟩
  have hL : lookE M q now = (⟨M.c.set k ⟨y0, true, true⟩, M.h⟩, y0, true) := by
    unfold lookE
    rw [hs]
    simp only
    rw [if_pos he, hy0]
  rw [hL]
  rw [hy0] at he
  obtain ⟨hk, _⟩ := slot_ltE hs
  rw [hs] at HC
  simp only [atI] at HC
  have he2 : ¬ y0.e.ex ≤ now := by omega
  have g0 : decide ((k : Int) < 0) = false := by simp
  have g1 : (0 : Int) ≤ (k : Nat) := by omega
  have g2 : (k : Int) < (M.c.length : Nat) := by omega
  have HK := Lib.hid hk
  have HY := Lib.hid hy0
  have HW := Lib.hid (fun W hD hBW => with_litN k y0 true true B d M hok hk W hD hBW)
  have HV := Lib.hid (fun d' => dV_of d' (M := M) (N := ⟨M.c.set k ⟨y0, true, true⟩, M.h⟩) List.length_set rfl)
  clear h hok hB h4 hs hL hk hy0
  go_enter Try.func29, Try.ntmps29
  go_upto_region 1 with (fail)
  try rw [hT3]
  clear hT3
  generalize T3 = w1 at *
  have q0 := HQ.out.cell 0
  have q1 := HQ.out.cell 1
  have q2 := HQ.out.cell 2
  simp only [List.getElem?_toArray, List.getElem?_cons_zero, List.getElem?_cons_succ] at q0 q1 q2
  go_upto_region 2 with (first | (refine wpList_load_row rfl 29 _ rfl (w.heap.size) rfl 29 _ _ _ HT.out.bx Try.underlying29 rfl infoD ?_) | (go_at_call 45; with_reducible (refine HC.out.mono ?_); rintro e w3 ⟨rfl, hb3⟩; have HX3 := Lib.hid (HT.out.low hb3); have HE3 := Lib.hid (HE.out.eq (hb3.block _ HE.out.lt)); clear hb3))
  clear q0 q1 q2
  have r := HX3.out.D.e0 HK.out
  rw [HY.out] at r
  have r6 := e_at r
  have x0 := HX3.out.bx.cell 0
  simp only [List.getElem?_toArray, List.getElem?_cons_zero] at x0
  go_upto_region 4 with (fail)
  clear r r6 x0
  have hd := (Below.refl w3.heap.size w3).drew
  have hx4 := HX3.out.low hd
  have HE4 := Lib.hid (HE3.out.eq (hd.block _ HE3.out.lt))
  refine wp_region_held_drew (S := fun wq => Blk wq w.heap.size 29 #[.slice (some ⟨d.gx, 0, none⟩) M.c.length d.cx, .slice (some ⟨d.gu, 0, none⟩) M.c.length d.cu, .slice (some ⟨d.gt, 0, none⟩) M.c.length d.ct, .int .i64 (M.h : Nat)] ∧ Dw B wq d M.c) (by kernel_rfl) ⟨hx4.bx, hx4.D⟩ (fun _ => ?_)
  have HX4 := Lib.hid hx4
  have HE0 := Lib.hid (fun (wq : World) (hSw : Blk wq w.heap.size 29 #[.slice (some ⟨d.gx, 0, none⟩) M.c.length d.cx, .slice (some ⟨d.gu, 0, none⟩) M.c.length d.cu, .slice (some ⟨d.gt, 0, none⟩) M.c.length d.ct, .int .i64 (M.h : Nat)] ∧ Dw B wq d M.c) => (show wq.rangeAt d.gx (k * 7) (evL y0) by have := hSw.2.e0 HK.out; rw [HY.out] at this; exact this))
  clear hd hx4 HX3 HE3
  generalize w3.drew = w4 at *
  refine wpAnyH_take (i := 0) (v := .agg #[.slice (some ⟨d.gx, 0, none⟩) M.c.length d.cx, .slice (some ⟨d.gu, 0, none⟩) M.c.length d.cu, .slice (some ⟨d.gt, 0, none⟩) M.c.length d.ct, .int .i64 (M.h : Nat)]) rfl (by kernel_rfl) (by kernel_rfl) (by kernel_rfl) (fun _ _ _ h => h) (Or.inl ⟨by rfl, ?_⟩) (by assumption) ?_
  · (intro wq hSw; obtain ⟨x0, x1, x2, x3⟩ := box_cells hSw.1; go_simp; try rfl)
  simp only [Act.put, List.getElem_toArray, List.getElem_cons_zero, List.getElem_cons_succ, List.setIfInBounds_toArray, List.set_cons_zero, List.set_cons_succ]
  refine wpAnyH_take (i := 1) (v := ?_) rfl (by kernel_rfl) (by kernel_rfl) (by kernel_rfl) (fun _ _ _ h => h) (Or.inl ⟨by rfl, ?_⟩) (by assumption) ?_
  rotate_left
  · (intro wq hSw; go_simp; try (with_reducible rfl))
  simp only [Act.put, List.getElem_toArray, List.getElem_cons_zero, List.getElem_cons_succ, List.setIfInBounds_toArray, List.set_cons_zero, List.set_cons_succ]
  refine wpAnyH_take (i := 2) (v := ?_) rfl (by kernel_rfl) (by kernel_rfl) (by kernel_rfl) (fun _ _ _ h => h) (Or.inl ⟨by rfl, ?_⟩) (by assumption) ?_
  rotate_left
  · (intro wq hSw; go_simp; try (with_reducible rfl))
  simp only [Act.put, List.getElem_toArray, List.getElem_cons_zero, List.getElem_cons_succ, List.setIfInBounds_toArray, List.set_cons_zero, List.set_cons_succ]
  refine wpAnyH_take (i := 3) (v := .slice (some ⟨d.gx, 0, none⟩) M.c.length d.cx) rfl (by kernel_rfl) (by kernel_rfl) (by kernel_rfl) (fun _ _ _ h => h) (Or.inl ⟨by rfl, ?_⟩) (by assumption) ?_
  · (intro wq hSw; obtain ⟨x0, x1, x2, x3⟩ := box_cells hSw.1; go_simp; try rfl)
  simp only [Act.put, List.getElem_toArray, List.getElem_cons_zero, List.getElem_cons_succ, List.setIfInBounds_toArray, List.set_cons_zero, List.set_cons_succ]
  refine wpAnyH_take (i := 4) (v := ?_) rfl (by kernel_rfl) (by kernel_rfl) (by kernel_rfl) (fun _ _ _ h => h) (Or.inl ⟨by rfl, ?_⟩) (by assumption) ?_
  rotate_left
  · (intro wq hSw; go_simp; try (with_reducible rfl))
  simp only [Act.put, List.getElem_toArray, List.getElem_cons_zero, List.getElem_cons_succ, List.setIfInBounds_toArray, List.set_cons_zero, List.set_cons_succ]
  refine wpAnyH_take (i := 5) (v := ?_) rfl (by kernel_rfl) (by kernel_rfl) (by kernel_rfl) (fun _ _ _ h => h) (Or.inl ⟨by rfl, ?_⟩) (by assumption) ?_
  rotate_left
  · (intro wq hSw; go_simp; try (with_reducible rfl))
  simp only [Act.put, List.getElem_toArray, List.getElem_cons_zero, List.getElem_cons_succ, List.setIfInBounds_toArray, List.set_cons_zero, List.set_cons_succ]
  refine wpAnyH_take (i := 6) rfl (by kernel_rfl) (by kernel_rfl) (by kernel_rfl) (fun _ _ _ h => h) (yieldsIf_load_mid (by rfl) 39 _ rfl d.gx (k * 7) (by go_num) (evL y0) _ (fun wq hSw => HE0.out wq hSw) Try.underlying39 rfl (infoEv _)) (by assumption) ?_
  simp only [Act.put, List.getElem_toArray, List.getElem_cons_zero, List.getElem_cons_succ, List.setIfInBounds_toArray, List.set_cons_zero, List.set_cons_succ]
  refine wpAnyH_take (i := 8) (v := ?_) rfl (by kernel_rfl) (by kernel_rfl) (by kernel_rfl) (fun _ _ _ h => h) (Or.inl ⟨by rfl, ?_⟩) (by assumption) ?_
  rotate_left
  · (intro wq hSw; go_simp; try (with_reducible rfl))
  simp only [Act.put, List.getElem_toArray, List.getElem_cons_zero, List.getElem_cons_succ, List.setIfInBounds_toArray, List.set_cons_zero, List.set_cons_succ]
  refine wpAnyH_take (i := 9) (v := .slice (some ⟨d.gx, 0, none⟩) M.c.length d.cx) rfl (by kernel_rfl) (by kernel_rfl) (by kernel_rfl) (fun _ _ _ h => h) (Or.inl ⟨by rfl, ?_⟩) (by assumption) ?_
  · (intro wq hSw; obtain ⟨x0, x1, x2, x3⟩ := box_cells hSw.1; go_simp; try rfl)
  simp only [Act.put, List.getElem_toArray, List.getElem_cons_zero, List.getElem_cons_succ, List.setIfInBounds_toArray, List.set_cons_zero, List.set_cons_succ]
  refine wpAnyH_take (i := 10) (v := ?_) rfl (by kernel_rfl) (by kernel_rfl) (by kernel_rfl) (fun _ _ _ h => h) (Or.inl ⟨by rfl, ?_⟩) (by assumption) ?_
  rotate_left
  · (intro wq hSw; go_simp; try (with_reducible rfl))
  simp only [Act.put, List.getElem_toArray, List.getElem_cons_zero, List.getElem_cons_succ, List.setIfInBounds_toArray, List.set_cons_zero, List.set_cons_succ]
  refine wpAnyH_take (i := 11) (v := ?_) rfl (by kernel_rfl) (by kernel_rfl) (by kernel_rfl) (fun _ _ _ h => h) (Or.inl ⟨by rfl, ?_⟩) (by assumption) ?_
  rotate_left
  · (intro wq hSw; go_simp; try (with_reducible rfl))
  simp only [Act.put, List.getElem_toArray, List.getElem_cons_zero, List.getElem_cons_succ, List.setIfInBounds_toArray, List.set_cons_zero, List.set_cons_succ]
  refine wpAnyH_take (i := 12) rfl (by kernel_rfl) (by kernel_rfl) (by kernel_rfl) (fun _ _ _ h => h) (yieldsIf_load_mid (by rfl) 39 _ rfl d.gx (k * 7) (by go_num) (evL y0) _ (fun wq hSw => HE0.out wq hSw) Try.underlying39 rfl (infoEv _)) (by assumption) ?_
  simp only [Act.put, List.getElem_toArray, List.getElem_cons_zero, List.getElem_cons_succ, List.setIfInBounds_toArray, List.set_cons_zero, List.set_cons_succ]
  refine wpAnyH_ready (rs := [7]) (by kernel_rfl) (by simp) ?_
  refine AllReadyH.cons rfl (fun K hK => ?_) AllReadyH.nil
  rw [if_pos (by rfl)]
  go_simp
  go_at_call 47
  with_reducible (refine (HW.out _ HX4.out.D (Nat.le_trans HBB.out HX4.out.b.size)).mono ?_)
  rintro e w5 ⟨d', rfl, hd5, hb5⟩
  have HX5 := Lib.hid (HX4.out.low hb5)
  have HL := Lib.hid (look_on HX4.out HE4.out HBB.out hd5 hb5 #[.slice (some ⟨d'.gx, 0, none⟩) M.c.length d'.cx, .slice (some ⟨d'.gu, 0, none⟩) M.c.length d'.cu, .slice (some ⟨d'.gt, 0, none⟩) M.c.length d'.ct, .int .i64 (M.h : Nat)] (evL y0).toArray)
  have HL0 := Lib.hid (look_off H0.out HX5.out (HE4.out.eq (hb5.block _ HE4.out.lt)) #[.slice (some ⟨d'.gx, 0, none⟩) M.c.length d'.cx, .slice (some ⟨d'.gu, 0, none⟩) M.c.length d'.cu, .slice (some ⟨d'.gt, 0, none⟩) M.c.length d'.ct, .int .i64 (M.h : Nat)] (evL y0).toArray)
  clear hd5 hb5
  refine hK.out _ _ ⟨HX5.out.bx, HX5.out.D⟩ (fun _ => ?_)
  clear hK K
  try simp only [Act.put, List.setIfInBounds_toArray, List.set_cons_zero, List.set_cons_succ]
  refine wpAnyH_ready (rs := [13]) (by kernel_rfl) (by simp) ?_
  refine AllReadyH.cons rfl (fun K hK => ?_) AllReadyH.nil
  rw [if_pos (by rfl)]
  refine wp_store_row 29 _ _ rfl (w.heap.size + 2) _ rfl rfl 29 zD HL.out.1 infoD rfl (all4 _ _ _ _ _ _ _ _) ?_
  refine hK.out _ _ ⟨HX5.out.bx.eq (setRow_other _ _ _ _ (by omega)), HX5.out.D.setRow HL.out.1⟩ (fun _ => ?_)
  clear hK K
  try simp only [Act.put, List.setIfInBounds_toArray, List.set_cons_zero, List.set_cons_succ]
  refine wpAnyH_ready (rs := [14]) (by kernel_rfl) (by simp) ?_
  refine AllReadyH.cons rfl (fun K hK => ?_) AllReadyH.nil
  rw [if_pos (by rfl)]
  refine wp_store_row 39 _ _ rfl (w.heap.size + 3) _ rfl rfl 39 _ HL.out.2.1 (infoEa _) rfl (evL_one _) ?_
  refine hK.out _ _ ⟨(HX5.out.bx.eq (setRow_other _ _ _ _ (by omega))).eq (setRow_other _ _ _ _ (by omega)), HL0.out.1⟩ (fun _ => ?_)
  clear hK K
  refine wpAnyH_ready (rs := [15]) (by kernel_rfl) (by simp) ?_
  refine AllReadyH.cons rfl (fun K hK => ?_) AllReadyH.nil
  rw [if_pos (by rfl)]
  go_simp
  refine hK.out _ _ ⟨(HX5.out.bx.eq (setRow_other _ _ _ _ (by omega))).eq (setRow_other _ _ _ _ (by omega)), HL0.out.1⟩ (fun _ => ?_)
  clear hK K
  refine wpAnyH_done (by kernel_rfl) ?_ _
  go_wp2_with fail
  refine ret_look rfl rfl rfl rfl rfl rfl (show Blk _ (w.heap.size + 2) 29 #[.slice (some ⟨d'.gx, 0, none⟩) M.c.length d'.cx, .slice (some ⟨d'.gu, 0, none⟩) M.c.length d'.cu, .slice (some ⟨d'.gt, 0, none⟩) M.c.length d'.ct, .int .i64 (M.h : Nat)] from (setRow_other _ _ _ _ (by omega)).trans (setRow_heap _ _ _ _ _ _ HL.out.1)) (setRow_heap _ _ _ _ _ _ HL.out.2.1) ⟨d', ?_, HL.out.2.2.1, HL.out.2.2.2⟩
  rw [← HV.out]
  rfl

theorem rlook_any (B : Nat) (q : Qu) (d : Dv) (M : Ms Ev) (hok : M.Ok) (now : Nat) (w : World) (h : Dw B w d M.c) (hB : B ≤ w.heap.size) : Calls Try.prog 29 #[dV d M, .agg #[.string q.n, .int .u16 (q.k : Nat), .int .u16 (q.c : Nat)], .int .u64 (now : Nat)] w fun e w' => ∃ d' : Dv, e = .returned (.tuple #[dV d' (lookE M q now).1, .agg (evL (lookE M q now).2.1).toArray, .bool (lookE M q now).2.2]) ∧ Dw B w' d' (lookE M q now).1.c ∧ Below w.heap.size w w' := by
  cases hs : slotOf (pc M.c) q with
  | none => exact rlook_a B q d M hok now w h hB hs
  | some k =>
    by_cases he : now < (M.c.getD k Z0).x.e.ex
    · exact rlook_c B q d M hok now w h hB k hs he
    · exact rlook_b B q d M hok now w h hB k hs (by omega)
end Go.Proofs.Ytjjanogfcfapcaa.D
