/- The walk of derricklaw06.MessageTells: whether any message may be, its bytes, and its answer, are the document's. -/
import Derived.Test.YtnakljbginbenaaGreatDoorNre
import Derived.Test.YtnakljbginbenaaGreatDoorMmp
import Derived.Test.YtnakljbginbenaaGreatDoorMmn
import Derived.Deep.RegionHeld
namespace Go.Proofs.YtnakljbginbenaaGreatDoor
open Go.RowKit
set_option linter.unusedVariables false

set_option maxRecDepth 100000 in
set_option maxHeartbeats 4000000 in
theorem tells_walk6 (m : Ms) (d : Ad) (rc : Int) (hok : m.Ok) (hwf : (Lit.int .i64 rc).wf = true) (w : World) (hI : Mg w m d) (hL : Lay w) :
    Calls Tryz.prog 3 #[.agg (msV m d), .int .i64 rc] w fun e w' => e = .returned (.bool true) ∧ Below w.heap.size w w' := by
  have hbox := World.alloc_heap_new w (Obj.cells (msV m d) 26)
  have hal := (Below.refl w.heap.size w).alloc (Nat.le_refl _) (Obj.cells (msV m d) 26)
  obtain ⟨w1, hw1⟩ : ∃ w1, w1 = w.alloc (Obj.cells (msV m d) 26) := ⟨_, rfl⟩
  rw [← hw1] at hbox hal
  have hblk : ∀ W, Below w1.heap.size w1 W → W.heap[w.heap.size]? = some (.cells (msV m d) 26 (0, 0)) := fun W hW => (hW.block _ (heap_lt hbox)).trans hbox
  have HW := Lib.hid hw1
  have HX := Lib.hid hblk
  have HAl := Lib.hid hal
  have HI := Lib.hid (hI.below hal)
  have HL := Lib.hid (hL.below (lay_lt hL) hal)
  have H0 := Lib.hid (lay_lt (hL.below (lay_lt hL) hal))
  have HOk := Lib.hid hok
  clear hbox hal hw1 hI hL hok hblk
  go_enter Tryz.func3, Tryz.ntmps3
  go_upto_region 1 with (fail)
  rw [← HW.out]
  clear HW
  go_wp2_with fail
  refine (mshown_any _ HL.out).mono ?_
  rintro e w2 ⟨rfl, hb2⟩
  have HB2 := Lib.hid hb2
  have HX2 := Lib.hid (HX.out _ hb2)
  clear hb2
  go_wp2_with (refine wpList_load_row rfl 26 _ rfl w.heap.size rfl 26 _ _ _ HX2.out Tryz.underlying26 rfl (infoM' m d) ?_)
  refine (fewm_any m d _ (HI.out.below HB2.out)).mono ?_
  rintro e w3 ⟨rfl, hb3⟩
  have HB3 := Lib.hid (HB2.out.trans (hb3.mono HB2.out.size))
  have HX3 := Lib.hid (HX.out _ HB3.out)
  clear hb3 HX2 HB2
  cases hf : fewM m with
  | false =>
    clear hf
    go_wp2_with fail
    go_ret
    exact ⟨rfl, HAl.out.trans (HB3.out.mono HAl.out.size)⟩
  | true =>
    have HSm := Lib.hid (fewM_sm hf HOk.out)
    have HFw := Lib.hid (fewM_fw hf)
    clear hf
    clear hwf
    have HPm := Lib.hid (fun w' hI' hL' => putm_any m d HOk.out HSm.out w' hI' hL')
    have HPf := Lib.hid (fun w' hI' => fputm_any m d HOk.out HSm.out HFw.out w' hI')
    have HMa := Lib.hid (fun w' hI' hL' => maym_any m d HSm.out w' hI' hL')
    have HMf := Lib.hid (fun w' hI' => fmaym_any m d HSm.out w' hI')
    obtain ⟨S, hS⟩ : ∃ S, pmS m = S := ⟨_, rfl⟩
    obtain ⟨E, hE⟩ : ∃ E, pmE m = E := ⟨_, rfl⟩
    obtain ⟨bm, hbm⟩ : ∃ b, mayM m = b := ⟨_, rfl⟩
    rw [hS, hE] at HPm HPf
    rw [hbm] at HMa HMf
    clear hS hE hbm
    go_wp2_with (refine wpList_load_row rfl 26 _ rfl w.heap.size rfl 26 _ _ _ HX3.out Tryz.underlying26 rfl (infoM' m d) ?_)
    refine (HPm.out _ (HI.out.below HB3.out) (HL.out.below H0.out HB3.out)).mono ?_
    rintro e w4 ⟨rfl, hb4⟩
    have HB4 := Lib.hid (HB3.out.trans (hb4.mono HB3.out.size))
    have HX4 := Lib.hid (HX.out _ HB4.out)
    clear hb4 HX3 HB3
    go_wp2_with (refine wpList_load_row rfl 26 _ rfl w.heap.size rfl 26 _ _ _ HX4.out Tryz.underlying26 rfl (infoM' m d) ?_)
    refine (HPf.out _ (HI.out.below HB4.out)).mono ?_
    rintro e w5 ⟨rfl, hb5⟩
    have HB5 := Lib.hid (HB4.out.trans (hb5.mono HB4.out.size))
    have HSd := Lib.hid HB5.out.drew
    clear hb5 HX4 HB4
    go_upto_region 6 with (fail)
    refine wp_region_held_drew (S := fun wq => Below w1.heap.size w1 wq) (by kernel_rfl) HSd.out (fun hHeld => ?_)
    refine wpAnyH_take (i := 0) (v := ?_) rfl (by kernel_rfl) (by kernel_rfl) (by kernel_rfl) (fun _ _ _ h => h) (Or.inl ⟨by rfl, ?_⟩) (by assumption) ?_
    rotate_left
    · (intro wq hSw; go_simp; try (with_reducible rfl))
    simp only [Act.put, List.getElem_toArray, List.getElem_cons_zero, List.setIfInBounds_toArray, List.set_cons_zero, List.set_cons_succ]
    refine wpAnyH_take (i := 1) (v := ?_) rfl (by kernel_rfl) (by kernel_rfl) (by kernel_rfl) (fun _ _ _ h => h) (Or.inl ⟨by rfl, ?_⟩) (by assumption) ?_
    rotate_left
    · (intro wq hSw; go_simp; try (with_reducible rfl))
    simp only [Act.put, List.getElem_toArray, List.getElem_cons_zero, List.getElem_cons_succ, List.setIfInBounds_toArray, List.set_cons_zero, List.set_cons_succ]
    refine wpAnyH_take (i := 2) (v := .agg (msV m d)) rfl (by kernel_rfl) (by kernel_rfl) (by kernel_rfl) (fun _ _ _ h => h) (Or.inl ⟨by rfl, ?_⟩) (by assumption) ?_
    · (intro wq hSw; have a0 : wq.cell? ⟨w.heap.size, 0, none⟩ = some (.int .u16 (m.id : Nat)) := blk_cell (HX.out _ hSw) 0; have a1 : wq.cell? ⟨w.heap.size, 1, none⟩ = some (.bool m.qr) := blk_cell (HX.out _ hSw) 1; have a2 : wq.cell? ⟨w.heap.size, 2, none⟩ = some (.bool m.aa) := blk_cell (HX.out _ hSw) 2; have a3 : wq.cell? ⟨w.heap.size, 3, none⟩ = some (.bool m.tc) := blk_cell (HX.out _ hSw) 3; have a4 : wq.cell? ⟨w.heap.size, 4, none⟩ = some (.bool m.rd) := blk_cell (HX.out _ hSw) 4; have a5 : wq.cell? ⟨w.heap.size, 5, none⟩ = some (.bool m.ra) := blk_cell (HX.out _ hSw) 5; have a6 : wq.cell? ⟨w.heap.size, 6, none⟩ = some (.int .i64 m.op) := blk_cell (HX.out _ hSw) 6; have a7 : wq.cell? ⟨w.heap.size, 7, none⟩ = some (.int .i64 m.rc) := blk_cell (HX.out _ hSw) 7; have a8 : wq.cell? ⟨w.heap.size, 8, none⟩ = some (.slice d.aq m.q.length d.cq) := blk_cell (HX.out _ hSw) 8; have a9 : wq.cell? ⟨w.heap.size, 9, none⟩ = some (.slice d.a1 m.an.length d.c1) := blk_cell (HX.out _ hSw) 9; have a10 : wq.cell? ⟨w.heap.size, 10, none⟩ = some (.slice d.a2 m.ns.length d.c2) := blk_cell (HX.out _ hSw) 10; have a11 : wq.cell? ⟨w.heap.size, 11, none⟩ = some (.slice d.a3 m.ar.length d.c3) := blk_cell (HX.out _ hSw) 11; go_simp; try rfl)
    simp only [Act.put, List.getElem_toArray, List.getElem_cons_zero, List.getElem_cons_succ, List.setIfInBounds_toArray, List.set_cons_zero, List.set_cons_succ]
    refine wpAnyH_take (i := 4) (v := .agg (msV m d)) rfl (by kernel_rfl) (by kernel_rfl) (by kernel_rfl) (fun _ _ _ h => h) (Or.inl ⟨by rfl, ?_⟩) (by assumption) ?_
    · (intro wq hSw; have a0 : wq.cell? ⟨w.heap.size, 0, none⟩ = some (.int .u16 (m.id : Nat)) := blk_cell (HX.out _ hSw) 0; have a1 : wq.cell? ⟨w.heap.size, 1, none⟩ = some (.bool m.qr) := blk_cell (HX.out _ hSw) 1; have a2 : wq.cell? ⟨w.heap.size, 2, none⟩ = some (.bool m.aa) := blk_cell (HX.out _ hSw) 2; have a3 : wq.cell? ⟨w.heap.size, 3, none⟩ = some (.bool m.tc) := blk_cell (HX.out _ hSw) 3; have a4 : wq.cell? ⟨w.heap.size, 4, none⟩ = some (.bool m.rd) := blk_cell (HX.out _ hSw) 4; have a5 : wq.cell? ⟨w.heap.size, 5, none⟩ = some (.bool m.ra) := blk_cell (HX.out _ hSw) 5; have a6 : wq.cell? ⟨w.heap.size, 6, none⟩ = some (.int .i64 m.op) := blk_cell (HX.out _ hSw) 6; have a7 : wq.cell? ⟨w.heap.size, 7, none⟩ = some (.int .i64 m.rc) := blk_cell (HX.out _ hSw) 7; have a8 : wq.cell? ⟨w.heap.size, 8, none⟩ = some (.slice d.aq m.q.length d.cq) := blk_cell (HX.out _ hSw) 8; have a9 : wq.cell? ⟨w.heap.size, 9, none⟩ = some (.slice d.a1 m.an.length d.c1) := blk_cell (HX.out _ hSw) 9; have a10 : wq.cell? ⟨w.heap.size, 10, none⟩ = some (.slice d.a2 m.ns.length d.c2) := blk_cell (HX.out _ hSw) 10; have a11 : wq.cell? ⟨w.heap.size, 11, none⟩ = some (.slice d.a3 m.ar.length d.c3) := blk_cell (HX.out _ hSw) 11; go_simp; try rfl)
    simp only [Act.put, List.getElem_toArray, List.getElem_cons_zero, List.getElem_cons_succ, List.setIfInBounds_toArray, List.set_cons_zero, List.set_cons_succ]
    refine wpAnyH_ready (rs := [3]) (by kernel_rfl) (by simp) ?_
    refine AllReadyH.cons rfl (fun K hK => ?_) (AllReadyH.nil)
    go_simp
    go_wp2_with (go_at_call 10; refine Calls.mono (HMa.out _ (HI.out.below HSd.out) (HL.out.below H0.out HSd.out)) ?_; rintro e wk1 ⟨rfl, hb⟩)
    have HS1 := Lib.hid (HSd.out.trans (hb.mono HSd.out.size))
    clear hb
    refine hK.out _ _ HS1.out (fun hHeld => ?_)
    clear hK K
    refine wpAnyH_ready (rs := [5]) (by kernel_rfl) (by simp) ?_
    refine AllReadyH.cons rfl (fun K hK => ?_) (AllReadyH.nil)
    go_simp
    go_wp2_with (go_at_call 11; refine Calls.mono (HMf.out _ (HI.out.below HS1.out)) ?_; rintro e wk2 ⟨rfl, hb⟩)
    have HS2 := Lib.hid (HS1.out.trans (hb.mono HS1.out.size))
    clear hb
    refine hK.out _ _ HS2.out (fun hHeld => ?_)
    clear hK K
    refine wpAnyH_take (i := 6) (v := .bool true) rfl (by kernel_rfl) (by kernel_rfl) (by kernel_rfl) (fun _ _ _ h => h) (Or.inl ⟨by rfl, ?_⟩) (by assumption) ?_
    · (intro wq hSw; have hbm : (bm == bm) = true := (by simp); go_simp)
    simp only [Act.put, List.getElem_toArray, List.getElem_cons_zero, List.getElem_cons_succ, List.setIfInBounds_toArray, List.set_cons_zero, List.set_cons_succ]
    refine wpAnyH_take (i := 7) (v := ?_) rfl (by kernel_rfl) (by kernel_rfl) (by kernel_rfl) (fun _ _ _ h => h) (Or.inl ⟨by rfl, ?_⟩) (by assumption) ?_
    rotate_left
    · (intro wq hSw; go_simp; try (with_reducible rfl))
    simp only [Act.put, List.getElem_toArray, List.getElem_cons_zero, List.getElem_cons_succ, List.setIfInBounds_toArray, List.set_cons_zero, List.set_cons_succ]
    refine wpAnyH_take (i := 8) (v := ?_) rfl (by kernel_rfl) (by kernel_rfl) (by kernel_rfl) (fun _ _ _ h => h) (Or.inl ⟨by rfl, ?_⟩) (by assumption) ?_
    rotate_left
    · (intro wq hSw; go_simp; try (with_reducible rfl))
    simp only [Act.put, List.getElem_toArray, List.getElem_cons_zero, List.getElem_cons_succ, List.setIfInBounds_toArray, List.set_cons_zero, List.set_cons_succ]
    refine wpAnyH_take (i := 9) (v := ?_) rfl (by kernel_rfl) (by kernel_rfl) (by kernel_rfl) (fun _ _ _ h => h) (Or.inl ⟨by rfl, ?_⟩) (by assumption) ?_
    rotate_left
    · (intro wq hSw; go_simp; try (with_reducible rfl))
    simp only [Act.put, List.getElem_toArray, List.getElem_cons_zero, List.getElem_cons_succ, List.setIfInBounds_toArray, List.set_cons_zero, List.set_cons_succ]
    refine wpAnyH_take (i := 10) (v := ?_) rfl (by kernel_rfl) (by kernel_rfl) (by kernel_rfl) (fun _ _ _ h => h) (Or.inl ⟨by rfl, ?_⟩) (by assumption) ?_
    rotate_left
    · (intro wq hSw; go_simp; try (with_reducible rfl))
    simp only [Act.put, List.getElem_toArray, List.getElem_cons_zero, List.getElem_cons_succ, List.setIfInBounds_toArray, List.set_cons_zero, List.set_cons_succ]
    refine wpAnyH_take (i := 11) (v := .bool true) rfl (by kernel_rfl) (by kernel_rfl) (by kernel_rfl) (fun _ _ _ h => h) (Or.inl ⟨by rfl, ?_⟩) (by assumption) ?_
    · (intro wq hSw; have hse : (S.toList == S.toList) = true := (by simp); go_simp)
    simp only [Act.put, List.getElem_toArray, List.getElem_cons_zero, List.getElem_cons_succ, List.setIfInBounds_toArray, List.set_cons_zero, List.set_cons_succ]
    refine wpAnyH_take (i := 12) (v := ?_) rfl (by kernel_rfl) (by kernel_rfl) (by kernel_rfl) (fun _ _ _ h => h) (Or.inl ⟨by rfl, ?_⟩) (by assumption) ?_
    rotate_left
    · (intro wq hSw; go_simp; try (with_reducible rfl))
    simp only [Act.put, List.getElem_toArray, List.getElem_cons_zero, List.getElem_cons_succ, List.setIfInBounds_toArray, List.set_cons_zero, List.set_cons_succ]
    refine wpAnyH_take (i := 13) (v := ?_) rfl (by kernel_rfl) (by kernel_rfl) (by kernel_rfl) (fun _ _ _ h => h) (Or.inl ⟨by rfl, ?_⟩) (by assumption) ?_
    rotate_left
    · (intro wq hSw; go_simp; try (with_reducible rfl))
    simp only [Act.put, List.getElem_toArray, List.getElem_cons_zero, List.getElem_cons_succ, List.setIfInBounds_toArray, List.set_cons_zero, List.set_cons_succ]
    refine wpAnyH_take (i := 14) (v := ?_) rfl (by kernel_rfl) (by kernel_rfl) (by kernel_rfl) (fun _ _ _ h => h) (Or.inl ⟨by rfl, ?_⟩) (by assumption) ?_
    rotate_left
    · (intro wq hSw; go_simp; try (with_reducible rfl))
    simp only [Act.put, List.getElem_toArray, List.getElem_cons_zero, List.getElem_cons_succ, List.setIfInBounds_toArray, List.set_cons_zero, List.set_cons_succ]
    refine wpAnyH_take (i := 15) (v := ?_) rfl (by kernel_rfl) (by kernel_rfl) (by kernel_rfl) (fun _ _ _ h => h) (Or.inl ⟨by rfl, ?_⟩) (by assumption) ?_
    rotate_left
    · (intro wq hSw; go_simp; try (with_reducible rfl))
    simp only [Act.put, List.getElem_toArray, List.getElem_cons_zero, List.getElem_cons_succ, List.setIfInBounds_toArray, List.set_cons_zero, List.set_cons_succ]
    refine wpAnyH_take (i := 16) (v := .bool true) rfl (by kernel_rfl) (by kernel_rfl) (by kernel_rfl) (fun _ _ _ h => h) (Or.inl ⟨by rfl, ?_⟩) (by assumption) ?_
    · (intro wq hSw; have hee : (E == E) = true := (by simp); go_simp)
    simp only [Act.put, List.getElem_toArray, List.getElem_cons_zero, List.getElem_cons_succ, List.setIfInBounds_toArray, List.set_cons_zero, List.set_cons_succ]
    refine wpAnyH_take (i := 17) (v := ?_) rfl (by kernel_rfl) (by kernel_rfl) (by kernel_rfl) (fun _ _ _ h => h) (Or.inl ⟨by rfl, ?_⟩) (by assumption) ?_
    rotate_left
    · (intro wq hSw; go_simp; try (with_reducible rfl))
    simp only [Act.put, List.getElem_toArray, List.getElem_cons_zero, List.getElem_cons_succ, List.setIfInBounds_toArray, List.set_cons_zero, List.set_cons_succ]
    refine wpAnyH_take (i := 18) (v := ?_) rfl (by kernel_rfl) (by kernel_rfl) (by kernel_rfl) (fun _ _ _ h => h) (Or.inl ⟨by rfl, ?_⟩) (by assumption) ?_
    rotate_left
    · (intro wq hSw; go_simp; try (with_reducible rfl))
    simp only [Act.put, List.getElem_toArray, List.getElem_cons_zero, List.getElem_cons_succ, List.setIfInBounds_toArray, List.set_cons_zero, List.set_cons_succ]
    refine wpAnyH_take (i := 19) (v := .agg (msV m d)) rfl (by kernel_rfl) (by kernel_rfl) (by kernel_rfl) (fun _ _ _ h => h) (Or.inl ⟨by rfl, ?_⟩) (by assumption) ?_
    · (intro wq hSw; have a0 : wq.cell? ⟨w.heap.size, 0, none⟩ = some (.int .u16 (m.id : Nat)) := blk_cell (HX.out _ hSw) 0; have a1 : wq.cell? ⟨w.heap.size, 1, none⟩ = some (.bool m.qr) := blk_cell (HX.out _ hSw) 1; have a2 : wq.cell? ⟨w.heap.size, 2, none⟩ = some (.bool m.aa) := blk_cell (HX.out _ hSw) 2; have a3 : wq.cell? ⟨w.heap.size, 3, none⟩ = some (.bool m.tc) := blk_cell (HX.out _ hSw) 3; have a4 : wq.cell? ⟨w.heap.size, 4, none⟩ = some (.bool m.rd) := blk_cell (HX.out _ hSw) 4; have a5 : wq.cell? ⟨w.heap.size, 5, none⟩ = some (.bool m.ra) := blk_cell (HX.out _ hSw) 5; have a6 : wq.cell? ⟨w.heap.size, 6, none⟩ = some (.int .i64 m.op) := blk_cell (HX.out _ hSw) 6; have a7 : wq.cell? ⟨w.heap.size, 7, none⟩ = some (.int .i64 m.rc) := blk_cell (HX.out _ hSw) 7; have a8 : wq.cell? ⟨w.heap.size, 8, none⟩ = some (.slice d.aq m.q.length d.cq) := blk_cell (HX.out _ hSw) 8; have a9 : wq.cell? ⟨w.heap.size, 9, none⟩ = some (.slice d.a1 m.an.length d.c1) := blk_cell (HX.out _ hSw) 9; have a10 : wq.cell? ⟨w.heap.size, 10, none⟩ = some (.slice d.a2 m.ns.length d.c2) := blk_cell (HX.out _ hSw) 10; have a11 : wq.cell? ⟨w.heap.size, 11, none⟩ = some (.slice d.a3 m.ar.length d.c3) := blk_cell (HX.out _ hSw) 11; go_simp; try rfl)
    simp only [Act.put, List.getElem_toArray, List.getElem_cons_zero, List.getElem_cons_succ, List.setIfInBounds_toArray, List.set_cons_zero, List.set_cons_succ]
    refine wpAnyH_take (i := 20) (v := ?_) rfl (by kernel_rfl) (by kernel_rfl) (by kernel_rfl) (fun _ _ _ h => h) (Or.inl ⟨by rfl, ?_⟩) (by assumption) ?_
    rotate_left
    · (intro wq hSw; go_simp; try (with_reducible rfl))
    simp only [Act.put, List.getElem_toArray, List.getElem_cons_zero, List.getElem_cons_succ, List.setIfInBounds_toArray, List.set_cons_zero, List.set_cons_succ]
    refine wpAnyH_take (i := 22) (v := .agg (msV m d)) rfl (by kernel_rfl) (by kernel_rfl) (by kernel_rfl) (fun _ _ _ h => h) (Or.inl ⟨by rfl, ?_⟩) (by assumption) ?_
    · (intro wq hSw; have a0 : wq.cell? ⟨w.heap.size, 0, none⟩ = some (.int .u16 (m.id : Nat)) := blk_cell (HX.out _ hSw) 0; have a1 : wq.cell? ⟨w.heap.size, 1, none⟩ = some (.bool m.qr) := blk_cell (HX.out _ hSw) 1; have a2 : wq.cell? ⟨w.heap.size, 2, none⟩ = some (.bool m.aa) := blk_cell (HX.out _ hSw) 2; have a3 : wq.cell? ⟨w.heap.size, 3, none⟩ = some (.bool m.tc) := blk_cell (HX.out _ hSw) 3; have a4 : wq.cell? ⟨w.heap.size, 4, none⟩ = some (.bool m.rd) := blk_cell (HX.out _ hSw) 4; have a5 : wq.cell? ⟨w.heap.size, 5, none⟩ = some (.bool m.ra) := blk_cell (HX.out _ hSw) 5; have a6 : wq.cell? ⟨w.heap.size, 6, none⟩ = some (.int .i64 m.op) := blk_cell (HX.out _ hSw) 6; have a7 : wq.cell? ⟨w.heap.size, 7, none⟩ = some (.int .i64 m.rc) := blk_cell (HX.out _ hSw) 7; have a8 : wq.cell? ⟨w.heap.size, 8, none⟩ = some (.slice d.aq m.q.length d.cq) := blk_cell (HX.out _ hSw) 8; have a9 : wq.cell? ⟨w.heap.size, 9, none⟩ = some (.slice d.a1 m.an.length d.c1) := blk_cell (HX.out _ hSw) 9; have a10 : wq.cell? ⟨w.heap.size, 10, none⟩ = some (.slice d.a2 m.ns.length d.c2) := blk_cell (HX.out _ hSw) 10; have a11 : wq.cell? ⟨w.heap.size, 11, none⟩ = some (.slice d.a3 m.ar.length d.c3) := blk_cell (HX.out _ hSw) 11; go_simp; try rfl)
    simp only [Act.put, List.getElem_toArray, List.getElem_cons_zero, List.getElem_cons_succ, List.setIfInBounds_toArray, List.set_cons_zero, List.set_cons_succ]
    refine wpAnyH_take (i := 23) (v := ?_) rfl (by kernel_rfl) (by kernel_rfl) (by kernel_rfl) (fun _ _ _ h => h) (Or.inl ⟨by rfl, ?_⟩) (by assumption) ?_
    rotate_left
    · (intro wq hSw; go_simp; try (with_reducible rfl))
    simp only [Act.put, List.getElem_toArray, List.getElem_cons_zero, List.getElem_cons_succ, List.setIfInBounds_toArray, List.set_cons_zero, List.set_cons_succ]
    refine wpAnyH_ready (rs := [21]) (by kernel_rfl) (by simp) ?_
    refine AllReadyH.cons rfl (fun K hK => ?_) (AllReadyH.nil)
    go_simp
    go_wp2_with (go_at_call 13; refine Calls.mono (reply_any m d rc HSm.out _ (HI.out.below HS2.out)) ?_; rintro e wk3 ⟨dr, rfl, hg, hb⟩)
    have HS3 := Lib.hid (HS2.out.trans (hb.mono HS2.out.size))
    have HG3 := Lib.hid (hg)
    clear hb hg
    refine hK.out _ _ HS3.out (fun hHeld => ?_)
    clear hK K
    refine wpAnyH_ready (rs := [24]) (by kernel_rfl) (by simp) ?_
    refine AllReadyH.cons rfl (fun K hK => ?_) (AllReadyH.nil)
    go_simp
    go_wp2_with (go_at_call 14; refine Calls.mono (freply_any m d rc _ (HI.out.below HS3.out)) ?_; rintro e wk4 ⟨dt, rfl, hg2, hb⟩)
    have HS4 := Lib.hid (HS3.out.trans (hb.mono HS3.out.size))
    have HH4 := Lib.hid (hg2)
    have HQ4 := Lib.hid (HG3.out.below hb)
    clear hb hg2
    refine hK.out _ _ HS4.out (fun hHeld => ?_)
    clear hK K
    refine wpAnyH_ready (rs := [25]) (by kernel_rfl) (by simp) ?_
    refine AllReadyH.cons rfl (fun K hK => ?_) (AllReadyH.nil)
    go_simp
    go_wp2_with (go_at_call 12; refine Calls.mono (samem_yes (repM m rc) dr dt (by have := HSm.out.q.len; show m.q.length ≤ _; omega) (by show ([] : List Rc).length ≤ _; simp) (by show ([] : List Rc).length ≤ _; simp) (by show ([] : List Rc).length ≤ _; simp) _ HQ4.out HH4.out) ?_; rintro e wk5 ⟨rfl, hb⟩)
    have HS5 := Lib.hid (HS4.out.trans (hb.mono HS4.out.size))
    have HQ5 := Lib.hid (HQ4.out.below hb)
    clear hb
    refine hK.out _ _ HS5.out (fun hHeld => ?_)
    clear hK K
    refine wpAnyH_take (i := 26) (v := ?_) rfl (by kernel_rfl) (by kernel_rfl) (by kernel_rfl) (fun _ _ _ h => h) (Or.inl ⟨by rfl, ?_⟩) (by assumption) ?_
    rotate_left
    · (intro wq hSw; go_simp; try (with_reducible rfl))
    simp only [Act.put, List.getElem_toArray, List.getElem_cons_zero, List.getElem_cons_succ, List.setIfInBounds_toArray, List.set_cons_zero, List.set_cons_succ]
    refine wpAnyH_take (i := 27) (v := ?_) rfl (by kernel_rfl) (by kernel_rfl) (by kernel_rfl) (fun _ _ _ h => h) (Or.inl ⟨by rfl, ?_⟩) (by assumption) ?_
    rotate_left
    · (intro wq hSw; go_simp; try (with_reducible rfl))
    simp only [Act.put, List.getElem_toArray, List.getElem_cons_zero, List.getElem_cons_succ, List.setIfInBounds_toArray, List.set_cons_zero, List.set_cons_succ]
    refine wpAnyH_done (by kernel_rfl) ?_ _
    clear hHeld
    have HLz := HS5
    go_wp2_with fail
    go_ret
    exact ⟨rfl, HAl.out.trans (HLz.out.mono HAl.out.size)⟩
end Go.Proofs.YtnakljbginbenaaGreatDoor
