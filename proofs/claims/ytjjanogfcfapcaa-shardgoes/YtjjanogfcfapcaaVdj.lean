/- The contract of derrickref12.Insert, one theorem a way (written by tools/gen_vdj.py). -/
import Derived.Test.YtjjanogfcfapcaaVdi
namespace Go.Proofs.Ytjjanogfcfapcaa.D
open Go.RowKit
set_option linter.unusedVariables false

theorem nw_none (n : Nat) : Nw n none := fun b off h => by cases h
theorem put_lit (B : Nat) (x : Ev) (d : Dv) (M : Ms Ev) (hok : M.Ok) (w : World) (h : Dw B w d M.c) (hB : B ≤ w.heap.size) : Calls Try.prog 48 #[.agg #[.slice (some ⟨d.gx, 0, none⟩) M.c.length d.cx, .slice (some ⟨d.gu, 0, none⟩) M.c.length d.cu, .slice (some ⟨d.gt, 0, none⟩) M.c.length d.ct, .int .i64 (M.h : Nat)], .agg (evL x).toArray] w fun e w' => ∃ d' : Dv, e = .returned (.agg #[.slice (some ⟨d'.gx, 0, none⟩) M.c.length d'.cx, .slice (some ⟨d'.gu, 0, none⟩) M.c.length d'.cu, .slice (some ⟨d'.gt, 0, none⟩) M.c.length d'.ct, .int .i64 (M.h : Nat)]) ∧ Dw B w' d' (putM M x).1.c ∧ Below w.heap.size w w' := by
  have hl : (putM M x).1.c.length = M.c.length := putM_len M x
  have hh : (putM M x).1.h = M.h := by unfold putM; split <;> rfl
  refine (rput_any B x d M hok w h hB).mono ?_
  rintro e w' ⟨d', h1, h2, h3⟩
  rw [dV_eq, hl, hh] at h1
  exact ⟨d', h1, h2, h3⟩
theorem new_sh (w : World) (cs : Array Value) : Blk (w.alloc (Obj.cells zD 29)) w.heap.size 29 zD ∧ Blk ((w.alloc (Obj.cells zD 29)).setRow w.heap.size cs) w.heap.size 29 cs ∧ Below w.heap.size w ((w.alloc (Obj.cells zD 29)).setRow w.heap.size cs) := by
  have h := Blk.new w 29 zD
  exact ⟨h, setRow_heap _ _ _ _ _ _ h, setRow_below ((Below.refl _ w).alloc (Nat.le_refl _) _) (Nat.le_refl _) cs⟩
set_option maxRecDepth 100000 in
set_option maxHeartbeats 4000000 in
theorem rins_a (B : Nat) (x : Ev) (d : Dv) (M : Ms Ev) (hok : M.Ok) (now : Nat) (w : World) (h : Dw B w d M.c) (hB : B ≤ w.heap.size) (hx : x.e.ex ≤ now) : Calls Try.prog 28 #[dV d M, .agg (evL x).toArray, .int .u64 (now : Nat)] w fun e w' => ∃ (d' : Dv) (A : Option Addr) (cap : Nat), e = .returned (.tuple #[dV d' (M), .slice A (([] : List Qu)).length cap, .int .i64 (4)]) ∧ Dw B w' d' (M).c ∧ Sl qf w' A cap (([] : List Qu)) ∧ Nw w.heap.size A ∧ Below w.heap.size w w' := by
  have h3 := bx_mid h (evL x).toArray 39
  obtain ⟨T3, hT3⟩ : ∃ T3 : World, ((w.alloc (Obj.cells #[.slice (some ⟨d.gx, 0, none⟩) M.c.length d.cx, .slice (some ⟨d.gu, 0, none⟩) M.c.length d.cu, .slice (some ⟨d.gt, 0, none⟩) M.c.length d.ct, .int .i64 (M.h : Nat)] 29)).alloc (Obj.cells (evL x).toArray 39)).alloc (Obj.cells zD 29) = T3 := ⟨_, rfl⟩
  rw [hT3] at h3
  have HT := Lib.hid h3.1
  have HE := Lib.hid h3.2
  have HC := Lib.hid (at_any B x.e.q d M hok T3 h3.1.D)
  have HBB := Lib.hid hB
  have h64 := hok.n64
  rw [dV_eq] at HC ⊢
  unfold zD at hT3
  have HV := Lib.hid (fun d' => dV_of d' (M := M) (N := M) rfl rfl)
  have HR := Lib.hid (h3.1.done h3.1.D (Below.refl _ _) #[.slice (some ⟨d.gx, 0, none⟩) M.c.length d.cx, .slice (some ⟨d.gu, 0, none⟩) M.c.length d.cu, .slice (some ⟨d.gt, 0, none⟩) M.c.length d.ct, .int .i64 (M.h : Nat)])
  clear h hok hB h3
  go_enter Try.func28, Try.ntmps28
  go_upto_region 1 with (fail)
  try rw [hT3]
  clear hT3
  generalize T3 = w1 at *
  obtain ⟨e0, e1, e2, e3, e4, e5, e6⟩ := e_cells (x := x) HE.out
  go_wp2_with (first | (refine wpList_load_row rfl 29 _ rfl (w.heap.size) rfl 29 _ _ _ HT.out.bx Try.underlying29 rfl infoD ?_) | (refine wpList_store_row rfl 29 _ _ rfl (w.heap.size + 2) _ rfl rfl 29 _ HT.out.br infoD rfl (all4 _ _ _ _ _ _ _ _) ?_))
  refine ret_d3 rfl rfl rfl rfl rfl (setRow_heap _ _ _ _ _ _ HT.out.br) ⟨d, none, 0, ?_, HR.out.2.1, Sl.nil _ _, nw_none _, HR.out.2.2⟩
  rw [← HV.out]
  rfl
set_option maxRecDepth 100000 in
set_option maxHeartbeats 4000000 in
theorem rins_b (B : Nat) (x : Ev) (d : Dv) (M : Ms Ev) (hok : M.Ok) (now : Nat) (w : World) (h : Dw B w d M.c) (hB : B ≤ w.heap.size) (hx : now < x.e.ex) (k : Nat) (hs : slotOf (pc M.c) x.e.q = some k) (hbt : btE (M.c.getD k Z0).x.e x.e now = false) : Calls Try.prog 28 #[dV d M, .agg (evL x).toArray, .int .u64 (now : Nat)] w fun e w' => ∃ (d' : Dv) (A : Option Addr) (cap : Nat), e = .returned (.tuple #[dV d' (M), .slice A (([] : List Qu)).length cap, .int .i64 (7)]) ∧ Dw B w' d' (M).c ∧ Sl qf w' A cap (([] : List Qu)) ∧ Nw w.heap.size A ∧ Below w.heap.size w w' := by
  have h3 := bx_mid h (evL x).toArray 39
  obtain ⟨T3, hT3⟩ : ∃ T3 : World, ((w.alloc (Obj.cells #[.slice (some ⟨d.gx, 0, none⟩) M.c.length d.cx, .slice (some ⟨d.gu, 0, none⟩) M.c.length d.cu, .slice (some ⟨d.gt, 0, none⟩) M.c.length d.ct, .int .i64 (M.h : Nat)] 29)).alloc (Obj.cells (evL x).toArray 39)).alloc (Obj.cells zD 29) = T3 := ⟨_, rfl⟩
  rw [hT3] at h3
  have HT := Lib.hid h3.1
  have HE := Lib.hid h3.2
  have HC := Lib.hid (at_any B x.e.q d M hok T3 h3.1.D)
  have HBB := Lib.hid hB
  have h64 := hok.n64
  rw [dV_eq] at HC ⊢
  unfold zD at hT3
  obtain ⟨hk, _⟩ := slot_ltE hs
  have hx2 : ¬ x.e.ex ≤ now := by omega
  rw [hs] at HC
  simp only [atI] at HC
  have g0 : decide (0 ≤ (k : Int)) = true := by simp
  have g1 : (0 : Int) ≤ (k : Nat) := by omega
  have g2 : (k : Int) < (M.c.length : Nat) := by omega
  have HBT := Lib.hid (fun W => rbeats_any (M.c.getD k Z0).x x now W)
  rw [hbt] at HBT
  have HW := Lib.hid (fun W hD hBW => with_lit B k x true true d M hok hk W hD hBW)
  have HV := Lib.hid (fun d' => dV_of d' (M := M) (N := M) (by first | rfl | exact List.length_set) rfl)
  have HK := Lib.hid hk
  clear h hok hB h3 hs hbt
  obtain ⟨y0, hy0⟩ : ∃ y0, (M.c.getD k Z0).x = y0 := ⟨_, rfl⟩
  rw [hy0] at HBT
  have HY := Lib.hid hy0
  clear hy0
  go_enter Try.func28, Try.ntmps28
  go_upto_region 1 with (fail)
  try rw [hT3]
  clear hT3
  generalize T3 = w1 at *
  obtain ⟨e0, e1, e2, e3, e4, e5, e6⟩ := e_cells (x := x) HE.out
  go_upto_region 5 with (first | (refine wpList_load_row rfl 29 _ rfl (w.heap.size) rfl 29 _ _ _ HT.out.bx Try.underlying29 rfl infoD ?_) | (go_at_call 45; with_reducible (refine HC.out.mono ?_); rintro e w3 ⟨rfl, hb3⟩; have HX3 := Lib.hid (HT.out.low hb3); have HE3 := Lib.hid (HE.out.eq (hb3.block _ HE.out.lt)); clear hb3))
  clear e0 e1 e2 e3 e4 e5 e6
  obtain ⟨e0, e1, e2, e3, e4, e5, e6⟩ := e_cells (x := x) HE3.out
  have x0 := HX3.out.bx.cell 0
  simp only [List.getElem?_toArray, List.getElem?_cons_zero] at x0
  have y := HX3.out.D.e0 HK.out
  rw [HY.out] at y
  obtain ⟨y0_, y1_, y2_, y3_, y4_, y5_, y6_⟩ := ev_cells y
  clear y
  unfold evL at HBT
  go_still_tail 7, (by kernel_rfl)
  change wpList _ _ _ _ _ w3.drew
  have hd := (Below.refl w3.heap.size w3).drew
  have HX4 := Lib.hid (HX3.out.low hd)
  have HE4 := Lib.hid (HE3.out.eq (hd.block _ HE3.out.lt))
  clear hd x0 e0 e1 e2 e3 e4 e5 e6 y0_ y1_ y2_ y3_ y4_ y5_ y6_ HX3 HE3 HT HE HC
  generalize w3.drew = w4 at *
  go_wp2_with (first | (refine wpList_load_row rfl 29 _ rfl (w.heap.size) rfl 29 _ _ _ HX5.out.bx Try.underlying29 rfl infoD ?_) | (refine wpList_store_row rfl 29 _ _ rfl (w.heap.size + 2) _ rfl rfl 29 _ HX5.out.br infoD rfl (all4 _ _ _ _ _ _ _ _) ?_) | (go_at_call 46; with_reducible (refine (HBT.out _).mono ?_); rintro e w5 ⟨rfl, hb5⟩; have HX5 := Lib.hid (HX4.out.low hb5); have HE5 := Lib.hid (HE4.out.eq (hb5.block _ HE4.out.lt)); clear hb5))
  have HR := HX5.out.done HX5.out.D (Below.refl _ _) #[.slice (some ⟨d.gx, 0, none⟩) M.c.length d.cx, .slice (some ⟨d.gu, 0, none⟩) M.c.length d.cu, .slice (some ⟨d.gt, 0, none⟩) M.c.length d.ct, .int .i64 (M.h : Nat)]
  refine ret_d3 rfl rfl rfl rfl rfl (setRow_heap _ _ _ _ _ _ HX5.out.br) ⟨d, none, 0, ?_, HR.2.1, Sl.nil _ _, nw_none _, HR.2.2⟩
  rw [← HV.out]
  rfl
set_option maxRecDepth 100000 in
set_option maxHeartbeats 4000000 in
theorem rins_c (B : Nat) (x : Ev) (d : Dv) (M : Ms Ev) (hok : M.Ok) (now : Nat) (w : World) (h : Dw B w d M.c) (hB : B ≤ w.heap.size) (hx : now < x.e.ex) (k : Nat) (hs : slotOf (pc M.c) x.e.q = some k) (hbt : btE (M.c.getD k Z0).x.e x.e now = true) : Calls Try.prog 28 #[dV d M, .agg (evL x).toArray, .int .u64 (now : Nat)] w fun e w' => ∃ (d' : Dv) (A : Option Addr) (cap : Nat), e = .returned (.tuple #[dV d' ((⟨M.c.set k ⟨x, true, true⟩, M.h⟩ : Ms Ev)), .slice A (([] : List Qu)).length cap, .int .i64 (0)]) ∧ Dw B w' d' ((⟨M.c.set k ⟨x, true, true⟩, M.h⟩ : Ms Ev)).c ∧ Sl qf w' A cap (([] : List Qu)) ∧ Nw w.heap.size A ∧ Below w.heap.size w w' := by
  have h3 := bx_mid h (evL x).toArray 39
  obtain ⟨T3, hT3⟩ : ∃ T3 : World, ((w.alloc (Obj.cells #[.slice (some ⟨d.gx, 0, none⟩) M.c.length d.cx, .slice (some ⟨d.gu, 0, none⟩) M.c.length d.cu, .slice (some ⟨d.gt, 0, none⟩) M.c.length d.ct, .int .i64 (M.h : Nat)] 29)).alloc (Obj.cells (evL x).toArray 39)).alloc (Obj.cells zD 29) = T3 := ⟨_, rfl⟩
  rw [hT3] at h3
  have HT := Lib.hid h3.1
  have HE := Lib.hid h3.2
  have HC := Lib.hid (at_any B x.e.q d M hok T3 h3.1.D)
  have HBB := Lib.hid hB
  have h64 := hok.n64
  rw [dV_eq] at HC ⊢
  unfold zD at hT3
  obtain ⟨hk, _⟩ := slot_ltE hs
  have hx2 : ¬ x.e.ex ≤ now := by omega
  rw [hs] at HC
  simp only [atI] at HC
  have g0 : decide (0 ≤ (k : Int)) = true := by simp
  have g1 : (0 : Int) ≤ (k : Nat) := by omega
  have g2 : (k : Int) < (M.c.length : Nat) := by omega
  have HBT := Lib.hid (fun W => rbeats_any (M.c.getD k Z0).x x now W)
  rw [hbt] at HBT
  have HW := Lib.hid (fun W hD hBW => with_lit B k x true true d M hok hk W hD hBW)
  have HV := Lib.hid (fun d' => dV_of d' (M := M) (N := (⟨M.c.set k ⟨x, true, true⟩, M.h⟩ : Ms Ev)) (by first | rfl | exact List.length_set) rfl)
  have HK := Lib.hid hk
  clear h hok hB h3 hs hbt
  obtain ⟨y0, hy0⟩ : ∃ y0, (M.c.getD k Z0).x = y0 := ⟨_, rfl⟩
  rw [hy0] at HBT
  have HY := Lib.hid hy0
  clear hy0
  go_enter Try.func28, Try.ntmps28
  go_upto_region 1 with (fail)
  try rw [hT3]
  clear hT3
  generalize T3 = w1 at *
  obtain ⟨e0, e1, e2, e3, e4, e5, e6⟩ := e_cells (x := x) HE.out
  go_upto_region 5 with (first | (refine wpList_load_row rfl 29 _ rfl (w.heap.size) rfl 29 _ _ _ HT.out.bx Try.underlying29 rfl infoD ?_) | (go_at_call 45; with_reducible (refine HC.out.mono ?_); rintro e w3 ⟨rfl, hb3⟩; have HX3 := Lib.hid (HT.out.low hb3); have HE3 := Lib.hid (HE.out.eq (hb3.block _ HE.out.lt)); clear hb3))
  clear e0 e1 e2 e3 e4 e5 e6
  obtain ⟨e0, e1, e2, e3, e4, e5, e6⟩ := e_cells (x := x) HE3.out
  have x0 := HX3.out.bx.cell 0
  simp only [List.getElem?_toArray, List.getElem?_cons_zero] at x0
  have y := HX3.out.D.e0 HK.out
  rw [HY.out] at y
  obtain ⟨y0_, y1_, y2_, y3_, y4_, y5_, y6_⟩ := ev_cells y
  clear y
  unfold evL at HBT
  go_still_tail 7, (by kernel_rfl)
  change wpList _ _ _ _ _ w3.drew
  have hd := (Below.refl w3.heap.size w3).drew
  have HX4 := Lib.hid (HX3.out.low hd)
  have HE4 := Lib.hid (HE3.out.eq (hd.block _ HE3.out.lt))
  clear hd x0 e0 e1 e2 e3 e4 e5 e6 y0_ y1_ y2_ y3_ y4_ y5_ y6_ HX3 HE3 HT HE HC
  generalize w3.drew = w4 at *
  go_wp2_with (first | (refine wpList_load_row rfl 29 _ rfl (w.heap.size) rfl 29 _ _ _ HX5.out.bx Try.underlying29 rfl infoD ?_) | (refine wpList_load_row rfl 39 _ rfl (w.heap.size + 1) rfl 39 _ _ _ HE5.out Try.underlying39 rfl (infoEa _) ?_) | (refine wpList_store_row rfl 29 _ _ rfl (w.heap.size + 2) _ rfl rfl 29 _ HR6.out.1 infoD rfl (all4 _ _ _ _ _ _ _ _) ?_) | (go_at_call 46; with_reducible (refine (HBT.out _).mono ?_); rintro e w5 ⟨rfl, hb5⟩; have HX5 := Lib.hid (HX4.out.low hb5); have HE5 := Lib.hid (HE4.out.eq (hb5.block _ HE4.out.lt)); clear hb5) | (go_at_call 47; with_reducible (refine (HW.out _ HX5.out.D (Nat.le_trans HBB.out HX5.out.b.size)).mono ?_); rintro e w6 ⟨d', rfl, hd6, hb6⟩; have HR6 := Lib.hid (HX5.out.done hd6 hb6 #[.slice (some ⟨d'.gx, 0, none⟩) M.c.length d'.cx, .slice (some ⟨d'.gu, 0, none⟩) M.c.length d'.cu, .slice (some ⟨d'.gt, 0, none⟩) M.c.length d'.ct, .int .i64 (M.h : Nat)]); clear hd6 hb6))
  refine ret_d3 rfl rfl rfl rfl rfl (setRow_heap _ _ _ _ _ _ HR6.out.1) ⟨d', none, 0, ?_, HR6.out.2.1, Sl.nil _ _, nw_none _, HR6.out.2.2⟩
  rw [← HV.out]
  rfl
theorem bx_cells {B q r : Nat} {w w1 : World} {d : Dv} {M : Ms Ev} (h : Bx B q r w w1 d M) : w1.cell? ⟨q, 0, none⟩ = some (.slice (some ⟨d.gx, 0, none⟩) M.c.length d.cx) ∧ w1.cell? ⟨q, 1, none⟩ = some (.slice (some ⟨d.gu, 0, none⟩) M.c.length d.cu) ∧ w1.cell? ⟨q, 2, none⟩ = some (.slice (some ⟨d.gt, 0, none⟩) M.c.length d.ct) ∧ w1.cell? ⟨q, 3, none⟩ = some (.int .i64 (M.h : Nat)) := ⟨h.bx.cell 0, h.bx.cell 1, h.bx.cell 2, h.bx.cell 3⟩
set_option maxRecDepth 100000 in
set_option maxHeartbeats 4000000 in
theorem rins_d (B : Nat) (x : Ev) (d : Dv) (M : Ms Ev) (hok : M.Ok) (now : Nat) (w : World) (h : Dw B w d M.c) (hB : B ≤ w.heap.size) (hx : now < x.e.ex) (hs : slotOf (pc M.c) x.e.q = none) (hr : (keysOf (pc M.c)).length < M.c.length) : Calls Try.prog 28 #[dV d M, .agg (evL x).toArray, .int .u64 (now : Nat)] w fun e w' => ∃ (d' : Dv) (A : Option Addr) (cap : Nat), e = .returned (.tuple #[dV d' ((putM M x).1), .slice A (([] : List Qu)).length cap, .int .i64 (0)]) ∧ Dw B w' d' ((putM M x).1).c ∧ Sl qf w' A cap (([] : List Qu)) ∧ Nw w.heap.size A ∧ Below w.heap.size w w' := by
  have h3 := bx_mid h (evL x).toArray 39
  obtain ⟨T3, hT3⟩ : ∃ T3 : World, ((w.alloc (Obj.cells #[.slice (some ⟨d.gx, 0, none⟩) M.c.length d.cx, .slice (some ⟨d.gu, 0, none⟩) M.c.length d.cu, .slice (some ⟨d.gt, 0, none⟩) M.c.length d.ct, .int .i64 (M.h : Nat)] 29)).alloc (Obj.cells (evL x).toArray 39)).alloc (Obj.cells zD 29) = T3 := ⟨_, rfl⟩
  rw [hT3] at h3
  have HT := Lib.hid h3.1
  have HE := Lib.hid h3.2
  have HC := Lib.hid (at_any B x.e.q d M hok T3 h3.1.D)
  have HBB := Lib.hid hB
  have h64 := hok.n64
  rw [dV_eq] at HC ⊢
  unfold zD at hT3
  have hx2 : ¬ x.e.ex ≤ now := by omega
  rw [hs] at HC
  simp only [atI] at HC
  have HK := Lib.hid (fun W hD => rkeys_any B d M hok W hD)
  rw [dV_eq] at HK
  have HP := Lib.hid (fun W hD hBW => put_lit B x d M hok W hD hBW)
  have HV := Lib.hid (fun d' => dV_of d' (M := M) (N := (putM M x).1) (putM_len M x) (by unfold putM; split <;> rfl))
  clear h hok hB h3 hs
  go_enter Try.func28, Try.ntmps28
  go_upto_region 1 with (fail)
  try rw [hT3]
  clear hT3
  generalize T3 = w1 at *
  obtain ⟨e0, e1, e2, e3, e4, e5, e6⟩ := e_cells (x := x) HE.out
  go_upto_region 8 with (first | (refine wpList_load_row rfl 29 _ rfl (w.heap.size) rfl 29 _ _ _ HT.out.bx Try.underlying29 rfl infoD ?_) | (go_at_call 45; with_reducible (refine HC.out.mono ?_); rintro e w3 ⟨rfl, hb3⟩; have HX3 := Lib.hid (HT.out.low hb3); have HE3 := Lib.hid (HE.out.eq (hb3.block _ HE.out.lt)); clear hb3))
  clear e0 e1 e2 e3 e4 e5 e6
  have hd := (Below.refl w3.heap.size w3).drew
  have HX4 := Lib.hid (HX3.out.low hd)
  have HE4 := Lib.hid (HE3.out.eq (hd.block _ HE3.out.lt))
  have HS0 := Lib.hid (bx_cells HX4.out)
  clear hd HX3 HE3 HT HE HC
  go_region_held3 (fun w' => w'.cell? ⟨w.heap.size, 0, none⟩ = some (.slice (some ⟨d.gx, 0, none⟩) M.c.length d.cx) ∧ w'.cell? ⟨w.heap.size, 1, none⟩ = some (.slice (some ⟨d.gu, 0, none⟩) M.c.length d.cu) ∧ w'.cell? ⟨w.heap.size, 2, none⟩ = some (.slice (some ⟨d.gt, 0, none⟩) M.c.length d.ct) ∧ w'.cell? ⟨w.heap.size, 3, none⟩ = some (.int .i64 (M.h : Nat))) (first | exact HS0.out | exact HS1.out) (first
      | (go_at_call 15; (with_reducible (refine (HK.out _ HX4.out.D).mono ?_)); rintro e w5 ⟨A5, c5, rfl, hs5, hb5⟩; have HX5 := Lib.hid (HX4.out.low hb5); have HE5 := Lib.hid (HE4.out.eq (hb5.block _ HE4.out.lt)); have HS1 := Lib.hid (bx_cells HX5.out); clear hs5 hb5))
  clear HS0 HS1 HX4 HE4 HK
  go_wp2_with (first | (refine wpList_load_row rfl 29 _ rfl (w.heap.size) rfl 29 _ _ _ HX5.out.bx Try.underlying29 rfl infoD ?_) | (refine wpList_load_row rfl 39 _ rfl (w.heap.size + 1) rfl 39 _ _ _ HE5.out Try.underlying39 rfl (infoEa _) ?_) | (refine wpList_store_row rfl 29 _ _ rfl (w.heap.size + 2) _ rfl rfl 29 _ HR6.out.1 infoD rfl (all4 _ _ _ _ _ _ _ _) ?_) | (go_at_call 48; with_reducible (refine (HP.out _ HX5.out.D (Nat.le_trans HBB.out HX5.out.b.size)).mono ?_); rintro e w6 ⟨d', rfl, hd6, hb6⟩; have HR6 := Lib.hid (HX5.out.done hd6 hb6 #[.slice (some ⟨d'.gx, 0, none⟩) M.c.length d'.cx, .slice (some ⟨d'.gu, 0, none⟩) M.c.length d'.cu, .slice (some ⟨d'.gt, 0, none⟩) M.c.length d'.ct, .int .i64 (M.h : Nat)]); clear hd6 hb6))
  refine ret_d3 rfl rfl rfl rfl rfl (setRow_heap _ _ _ _ _ _ HR6.out.1) ⟨d', none, 0, ?_, HR6.out.2.1, Sl.nil _ _, nw_none _, HR6.out.2.2⟩
  rw [← HV.out]
  rfl
end Go.Proofs.Ytjjanogfcfapcaa.D
