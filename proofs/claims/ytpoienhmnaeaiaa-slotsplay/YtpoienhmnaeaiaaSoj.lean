/- The contracts of derrickref10.Put, Set, Touch and Free (written by tools/gen_soj.py). -/
import Derived.Test.YtpoienhmnaeaiaaSoi
import Derived.StillTailTactics
namespace Go.Proofs.Ytpoienhmnaeaiaa
open Go.RowKit
set_option linter.unusedVariables false

/-- derrickref10.with, its result written out. -/
theorem with_lit (B i : Nat) (x : ByteArray) (u t : Bool) (d : Dv) (M : Ms) (hok : M.Ok) (hi : i < M.c.length) (w : World) (h : Dw B w d M.c) (hB : B ≤ w.heap.size) : Calls Try.prog 33 #[.agg #[.slice (some ⟨d.gx, 0, none⟩) M.c.length d.cx, .slice (some ⟨d.gu, 0, none⟩) M.c.length d.cu, .slice (some ⟨d.gt, 0, none⟩) M.c.length d.ct, .int .i64 (M.h : Nat)], .int .i64 (i : Nat), .string x, .bool u, .bool t] w fun e w' => ∃ d' : Dv, e = .returned (.agg #[.slice (some ⟨d'.gx, 0, none⟩) M.c.length d'.cx, .slice (some ⟨d'.gu, 0, none⟩) M.c.length d'.cu, .slice (some ⟨d'.gt, 0, none⟩) M.c.length d'.ct, .int .i64 (M.h : Nat)]) ∧ Dw B w' d' (M.c.set i ⟨x, u, t⟩) ∧ Below w.heap.size w w' := by
  have hl : (M.c.set i ⟨x, u, t⟩).length = M.c.length := List.length_set
  refine (with_any B i x u t d M hok hi w h hB).mono ?_
  rintro e w' ⟨d', h1, h2, h3⟩
  rw [dV_eq] at h1
  simp only [hl] at h1
  exact ⟨d', h1, h2, h3⟩
/-- The world behind the parameter's box and the result's. -/
structure Two (B : Nat) (w w1 : World) (d : Dv) (M : Ms) : Prop where
  bx : Blk w1 w.heap.size 30 #[.slice (some ⟨d.gx, 0, none⟩) M.c.length d.cx, .slice (some ⟨d.gu, 0, none⟩) M.c.length d.cu, .slice (some ⟨d.gt, 0, none⟩) M.c.length d.ct, .int .i64 (M.h : Nat)]
  br : Blk w1 (w.heap.size + 1) 30 zD
  b : Below w.heap.size w w1
  D : Dw B w1 d M.c
theorem two_of {B : Nat} {w : World} {d : Dv} {M : Ms} (h : Dw B w d M.c) : Two B w ((w.alloc (Obj.cells #[.slice (some ⟨d.gx, 0, none⟩) M.c.length d.cx, .slice (some ⟨d.gu, 0, none⟩) M.c.length d.cu, .slice (some ⟨d.gt, 0, none⟩) M.c.length d.ct, .int .i64 (M.h : Nat)] 30)).alloc (Obj.cells #[Value.slice none 0 0, .slice none 0 0, .slice none 0 0, .int .i64 0] 30)) d M := by
  have hb1 := (Below.refl w.heap.size w).alloc (Nat.le_refl _) (Obj.cells #[.slice (some ⟨d.gx, 0, none⟩) M.c.length d.cx, .slice (some ⟨d.gu, 0, none⟩) M.c.length d.cu, .slice (some ⟨d.gt, 0, none⟩) M.c.length d.ct, .int .i64 (M.h : Nat)] 30)
  have es : (w.alloc (Obj.cells #[.slice (some ⟨d.gx, 0, none⟩) M.c.length d.cx, .slice (some ⟨d.gu, 0, none⟩) M.c.length d.cu, .slice (some ⟨d.gt, 0, none⟩) M.c.length d.ct, .int .i64 (M.h : Nat)] 30)).heap.size = w.heap.size + 1 := by simp
  have hr := Blk.new (w.alloc (Obj.cells #[.slice (some ⟨d.gx, 0, none⟩) M.c.length d.cx, .slice (some ⟨d.gu, 0, none⟩) M.c.length d.cu, .slice (some ⟨d.gt, 0, none⟩) M.c.length d.ct, .int .i64 (M.h : Nat)] 30)) 30 zD
  rw [es] at hr
  exact ⟨(Blk.new w 30 #[.slice (some ⟨d.gx, 0, none⟩) M.c.length d.cx, .slice (some ⟨d.gu, 0, none⟩) M.c.length d.cu, .slice (some ⟨d.gt, 0, none⟩) M.c.length d.ct, .int .i64 (M.h : Nat)]).eq (Below.heap_alloc (w.alloc (Obj.cells #[.slice (some ⟨d.gx, 0, none⟩) M.c.length d.cx, .slice (some ⟨d.gu, 0, none⟩) M.c.length d.cu, .slice (some ⟨d.gt, 0, none⟩) M.c.length d.ct, .int .i64 (M.h : Nat)] 30)) (Obj.cells zD 30) w.heap.size (by rw [es]; omega)), hr, hb1.alloc hb1.size _, h.below (hb1.alloc hb1.size _)⟩
/-- The result is stored. -/
theorem Two.done {B : Nat} {w w1 w3 : World} {d d' : Dv} {M : Ms} {c : List Ce} (h : Two B w w1 d M) (hD : Dw B w3 d' c) (hb : Below w1.heap.size w1 w3) (cs : Array Value) : Blk w3 (w.heap.size + 1) 30 zD ∧ Dw B (w3.setRow (w.heap.size + 1) cs) d' c ∧ Below w.heap.size w (w3.setRow (w.heap.size + 1) cs) := by
  have hr := h.br.eq (hb.block _ h.br.lt)
  exact ⟨hr, hD.setRow hr, setRow_below (h.b.trans (hb.mono h.b.size)) (by omega) cs⟩
theorem dV_of (d : Dv) {M N : Ms} (h1 : N.c.length = M.c.length) (h2 : N.h = M.h) : Value.agg #[.slice (some ⟨d.gx, 0, none⟩) M.c.length d.cx, .slice (some ⟨d.gu, 0, none⟩) M.c.length d.cu, .slice (some ⟨d.gt, 0, none⟩) M.c.length d.ct, .int .i64 (M.h : Nat)] = dV d N := by rw [dV_eq, h1, h2]

set_option maxRecDepth 100000 in
set_option maxHeartbeats 2000000 in
theorem rtouch_any (B : Nat) (i : Int) (d : Dv) (M : Ms) (hok : M.Ok) (w : World) (h : Dw B w d M.c) (hB : B ≤ w.heap.size) : Calls Try.prog 27 #[dV d M, .int .i64 i] w fun e w' => ∃ d' : Dv, e = .returned (.tuple #[dV d' (touM M i), .bool (hasM M i)]) ∧ Dw B w' d' (touM M i).c ∧ Below w.heap.size w w' := by
  have HT := Lib.hid (two_of h)
  have HC := Lib.hid (there_any B i d M hok _ (two_of h).D)
  rw [dV_eq] at HC ⊢
  cases hi : hasM M i with
  | false =>
    rw [hi] at HC
    rw [show touM M i = M by unfold touM; rw [hi]; rfl]
    have HV := Lib.hid (fun d' => dV_of d' (M := M) (N := M) rfl rfl)
    clear h hok hi
    go_enter Try.func27, Try.ntmps27
    go_upto_region 1 with (fail)
    generalize ((w.alloc (Obj.cells #[.slice (some ⟨d.gx, 0, none⟩) M.c.length d.cx, .slice (some ⟨d.gu, 0, none⟩) M.c.length d.cu, .slice (some ⟨d.gt, 0, none⟩) M.c.length d.ct, .int .i64 (M.h : Nat)] 30)).alloc (Obj.cells #[Value.slice none 0 0, .slice none 0 0, .slice none 0 0, .int .i64 0] 30)) = w1 at *
    go_wp2_with (first | (refine wpList_load_row rfl 30 _ rfl w.heap.size rfl 30 _ _ _ HX3.out Try.underlying30 rfl infoD ?_) | (refine wpList_load_row rfl 30 _ rfl w.heap.size rfl 30 _ _ _ HT.out.bx Try.underlying30 rfl infoD ?_) | (refine wpList_store_row rfl 30 _ _ rfl (w.heap.size + 1) _ rfl rfl 30 _ HR3.out.1 infoD rfl (all4 _ _ _ _ _ _ _ _) ?_) | (go_at_call 34; with_reducible (refine HC.out.mono ?_); rintro e w3 ⟨rfl, hb3⟩; have HX3 := Lib.hid (HT.out.bx.eq (hb3.block _ HT.out.bx.lt)); have HR3 := Lib.hid (HT.out.done (HT.out.D.below hb3) hb3 #[.slice (some ⟨d.gx, 0, none⟩) M.c.length d.cx, .slice (some ⟨d.gu, 0, none⟩) M.c.length d.cu, .slice (some ⟨d.gt, 0, none⟩) M.c.length d.ct, .int .i64 (M.h : Nat)]); clear hb3))
    refine ret_d2 rfl rfl rfl rfl (setRow_heap _ _ _ _ _ _ HR3.out.1) ⟨d, ?_, HR3.out.2.1, HR3.out.2.2⟩
    rw [← HV.out]
    rfl
  | true =>
    rw [hi] at HC
    obtain ⟨k, rfl, hk, hu⟩ := has_of hi
    obtain ⟨y0, hy0⟩ : ∃ y0, (M.c.getD k Z0).x = y0 := ⟨_, rfl⟩
    have HY := Lib.hid hy0
    have hpost : touM M k = ⟨M.c.set k ⟨y0, true, true⟩, M.h⟩ := by rw [← hy0]; unfold touM; rw [hi]; simp [upd, atM]
    rw [hpost]
    have HV := Lib.hid (fun d' => dV_of d' (M := M) (N := ⟨M.c.set k ⟨y0, true, true⟩, M.h⟩) List.length_set rfl)
    have HW := Lib.hid (fun W hD hBW => with_lit B k (y0) true true d M hok hk W hD hBW)
    have HBB := Lib.hid hB
    have HK := Lib.hid hk
    have s0 : (0 : Int) ≤ (k : Nat) := by omega
    have s1 : (k : Int) < M.c.length := by omega
    clear h hok hi hpost hB hu hk hy0
    go_enter Try.func27, Try.ntmps27
    go_upto_region 1 with (fail)
    generalize ((w.alloc (Obj.cells #[.slice (some ⟨d.gx, 0, none⟩) M.c.length d.cx, .slice (some ⟨d.gu, 0, none⟩) M.c.length d.cu, .slice (some ⟨d.gt, 0, none⟩) M.c.length d.ct, .int .i64 (M.h : Nat)] 30)).alloc (Obj.cells #[Value.slice none 0 0, .slice none 0 0, .slice none 0 0, .int .i64 0] 30)) = w1 at *
    go_upto_region 3 with (first | (refine wpList_load_row rfl 30 _ rfl w.heap.size rfl 30 _ _ _ HT.out.bx Try.underlying30 rfl infoD ?_) | (go_at_call 34; with_reducible (refine HC.out.mono ?_); rintro e w3 ⟨rfl, hb3⟩))
    have HX3 := Lib.hid (HT.out.bx.eq (hb3.block _ HT.out.bx.lt))
    have hD3 := HT.out.D.below hb3
    have HB3 := Lib.hid hb3
    have b0 := HX3.out.cell 0
    have b1 := HX3.out.cell 1
    have b2 := HX3.out.cell 2
    have b3 := HX3.out.cell 3
    simp only [List.getElem?_toArray, List.getElem?_cons_zero, List.getElem?_cons_succ] at b0 b1 b2 b3
    have e0 := hD3.e0 HK.out
    rw [HY.out] at e0
    clear hb3 hD3 HC
    go_still_tail 7, (by kernel_rfl)
    change wpList _ _ _ _ _ w3.drew
    have HB4 := Lib.hid HB3.out.drew
    have HW4 := Lib.hid (HW.out w3.drew (HT.out.D.below HB4.out) (Nat.le_trans HBB.out (Nat.le_trans HT.out.b.size HB4.out.size)))
    generalize w3.drew = w4 at *
    clear HW HX3 HB3
    go_wp2_with (first | (refine wpList_store_row rfl 30 _ _ rfl (w.heap.size + 1) _ rfl rfl 30 _ HR5.out.1 infoD rfl (all4 _ _ _ _ _ _ _ _) ?_) | (go_at_call 33; with_reducible (refine HW4.out.mono ?_); rintro e w5 ⟨d', rfl, hd5, hb5⟩; have HR5 := Lib.hid (HT.out.done hd5 (HB4.out.trans (hb5.mono HB4.out.size)) #[.slice (some ⟨d'.gx, 0, none⟩) M.c.length d'.cx, .slice (some ⟨d'.gu, 0, none⟩) M.c.length d'.cu, .slice (some ⟨d'.gt, 0, none⟩) M.c.length d'.ct, .int .i64 (M.h : Nat)]); clear hd5 hb5))
    refine ret_d2 rfl rfl rfl rfl (setRow_heap _ _ _ _ _ _ HR5.out.1) ⟨d', ?_, HR5.out.2.1, HR5.out.2.2⟩
    rw [← HV.out]
    rfl

set_option maxRecDepth 100000 in
set_option maxHeartbeats 2000000 in
theorem rset_any (B : Nat) (i : Int) (x : ByteArray) (d : Dv) (M : Ms) (hok : M.Ok) (w : World) (h : Dw B w d M.c) (hB : B ≤ w.heap.size) : Calls Try.prog 29 #[dV d M, .int .i64 i, .string x] w fun e w' => ∃ d' : Dv, e = .returned (.tuple #[dV d' (setM M i x), .bool (hasM M i)]) ∧ Dw B w' d' (setM M i x).c ∧ Below w.heap.size w w' := by
  have HT := Lib.hid (two_of h)
  have HC := Lib.hid (there_any B i d M hok _ (two_of h).D)
  rw [dV_eq] at HC ⊢
  cases hi : hasM M i with
  | false =>
    rw [hi] at HC
    rw [show setM M i x = M by unfold setM; rw [hi]; rfl]
    have HV := Lib.hid (fun d' => dV_of d' (M := M) (N := M) rfl rfl)
    clear h hok hi
    go_enter Try.func29, Try.ntmps29
    go_upto_region 1 with (fail)
    generalize ((w.alloc (Obj.cells #[.slice (some ⟨d.gx, 0, none⟩) M.c.length d.cx, .slice (some ⟨d.gu, 0, none⟩) M.c.length d.cu, .slice (some ⟨d.gt, 0, none⟩) M.c.length d.ct, .int .i64 (M.h : Nat)] 30)).alloc (Obj.cells #[Value.slice none 0 0, .slice none 0 0, .slice none 0 0, .int .i64 0] 30)) = w1 at *
    go_wp2_with (first | (refine wpList_load_row rfl 30 _ rfl w.heap.size rfl 30 _ _ _ HX3.out Try.underlying30 rfl infoD ?_) | (refine wpList_load_row rfl 30 _ rfl w.heap.size rfl 30 _ _ _ HT.out.bx Try.underlying30 rfl infoD ?_) | (refine wpList_store_row rfl 30 _ _ rfl (w.heap.size + 1) _ rfl rfl 30 _ HR3.out.1 infoD rfl (all4 _ _ _ _ _ _ _ _) ?_) | (go_at_call 34; with_reducible (refine HC.out.mono ?_); rintro e w3 ⟨rfl, hb3⟩; have HX3 := Lib.hid (HT.out.bx.eq (hb3.block _ HT.out.bx.lt)); have HR3 := Lib.hid (HT.out.done (HT.out.D.below hb3) hb3 #[.slice (some ⟨d.gx, 0, none⟩) M.c.length d.cx, .slice (some ⟨d.gu, 0, none⟩) M.c.length d.cu, .slice (some ⟨d.gt, 0, none⟩) M.c.length d.ct, .int .i64 (M.h : Nat)]); clear hb3))
    refine ret_d2 rfl rfl rfl rfl (setRow_heap _ _ _ _ _ _ HR3.out.1) ⟨d, ?_, HR3.out.2.1, HR3.out.2.2⟩
    rw [← HV.out]
    rfl
  | true =>
    rw [hi] at HC
    obtain ⟨k, rfl, hk, hu⟩ := has_of hi
    obtain ⟨y0, hy0⟩ : ∃ y0, ts M.c k = y0 := ⟨_, rfl⟩
    have HY := Lib.hid hy0
    have hpost : setM M k x = ⟨M.c.set k ⟨x, true, y0⟩, M.h⟩ := by rw [← hy0]; unfold setM; rw [hi]; simp [upd, atM, ts]
    rw [hpost]
    have HV := Lib.hid (fun d' => dV_of d' (M := M) (N := ⟨M.c.set k ⟨x, true, y0⟩, M.h⟩) List.length_set rfl)
    have HW := Lib.hid (fun W hD hBW => with_lit B k (x) true y0 d M hok hk W hD hBW)
    have HBB := Lib.hid hB
    have HK := Lib.hid hk
    have s0 : (0 : Int) ≤ (k : Nat) := by omega
    have s1 : (k : Int) < M.c.length := by omega
    clear h hok hi hpost hB hu hk hy0
    go_enter Try.func29, Try.ntmps29
    go_upto_region 1 with (fail)
    generalize ((w.alloc (Obj.cells #[.slice (some ⟨d.gx, 0, none⟩) M.c.length d.cx, .slice (some ⟨d.gu, 0, none⟩) M.c.length d.cu, .slice (some ⟨d.gt, 0, none⟩) M.c.length d.ct, .int .i64 (M.h : Nat)] 30)).alloc (Obj.cells #[Value.slice none 0 0, .slice none 0 0, .slice none 0 0, .int .i64 0] 30)) = w1 at *
    go_upto_region 3 with (first | (refine wpList_load_row rfl 30 _ rfl w.heap.size rfl 30 _ _ _ HT.out.bx Try.underlying30 rfl infoD ?_) | (go_at_call 34; with_reducible (refine HC.out.mono ?_); rintro e w3 ⟨rfl, hb3⟩))
    have HX3 := Lib.hid (HT.out.bx.eq (hb3.block _ HT.out.bx.lt))
    have hD3 := HT.out.D.below hb3
    have HB3 := Lib.hid hb3
    have b0 := HX3.out.cell 0
    have b1 := HX3.out.cell 1
    have b2 := HX3.out.cell 2
    have b3 := HX3.out.cell 3
    simp only [List.getElem?_toArray, List.getElem?_cons_zero, List.getElem?_cons_succ] at b0 b1 b2 b3
    have e2 := hD3.e2 HK.out
    rw [HY.out] at e2
    clear hb3 hD3 HC
    go_still_tail 8, (by kernel_rfl)
    change wpList _ _ _ _ _ w3.drew
    have HB4 := Lib.hid HB3.out.drew
    have HW4 := Lib.hid (HW.out w3.drew (HT.out.D.below HB4.out) (Nat.le_trans HBB.out (Nat.le_trans HT.out.b.size HB4.out.size)))
    generalize w3.drew = w4 at *
    clear HW HX3 HB3
    go_wp2_with (first | (refine wpList_store_row rfl 30 _ _ rfl (w.heap.size + 1) _ rfl rfl 30 _ HR5.out.1 infoD rfl (all4 _ _ _ _ _ _ _ _) ?_) | (go_at_call 33; with_reducible (refine HW4.out.mono ?_); rintro e w5 ⟨d', rfl, hd5, hb5⟩; have HR5 := Lib.hid (HT.out.done hd5 (HB4.out.trans (hb5.mono HB4.out.size)) #[.slice (some ⟨d'.gx, 0, none⟩) M.c.length d'.cx, .slice (some ⟨d'.gu, 0, none⟩) M.c.length d'.cu, .slice (some ⟨d'.gt, 0, none⟩) M.c.length d'.ct, .int .i64 (M.h : Nat)]); clear hd5 hb5))
    refine ret_d2 rfl rfl rfl rfl (setRow_heap _ _ _ _ _ _ HR5.out.1) ⟨d', ?_, HR5.out.2.1, HR5.out.2.2⟩
    rw [← HV.out]
    rfl

set_option maxRecDepth 100000 in
set_option maxHeartbeats 2000000 in
theorem rfree_any (B : Nat) (i : Int) (d : Dv) (M : Ms) (hok : M.Ok) (w : World) (h : Dw B w d M.c) (hB : B ≤ w.heap.size) : Calls Try.prog 28 #[dV d M, .int .i64 i] w fun e w' => ∃ d' : Dv, e = .returned (.tuple #[dV d' (freM M i), .bool (hasM M i)]) ∧ Dw B w' d' (freM M i).c ∧ Below w.heap.size w w' := by
  have HT := Lib.hid (two_of h)
  have HC := Lib.hid (there_any B i d M hok _ (two_of h).D)
  rw [dV_eq] at HC ⊢
  cases hi : hasM M i with
  | false =>
    rw [hi] at HC
    rw [show freM M i = M by unfold freM; rw [hi]; rfl]
    have HV := Lib.hid (fun d' => dV_of d' (M := M) (N := M) rfl rfl)
    clear h hok hi
    go_enter Try.func28, Try.ntmps28
    go_upto_region 1 with (fail)
    generalize ((w.alloc (Obj.cells #[.slice (some ⟨d.gx, 0, none⟩) M.c.length d.cx, .slice (some ⟨d.gu, 0, none⟩) M.c.length d.cu, .slice (some ⟨d.gt, 0, none⟩) M.c.length d.ct, .int .i64 (M.h : Nat)] 30)).alloc (Obj.cells #[Value.slice none 0 0, .slice none 0 0, .slice none 0 0, .int .i64 0] 30)) = w1 at *
    go_wp2_with (first | (refine wpList_load_row rfl 30 _ rfl w.heap.size rfl 30 _ _ _ HX3.out Try.underlying30 rfl infoD ?_) | (refine wpList_load_row rfl 30 _ rfl w.heap.size rfl 30 _ _ _ HT.out.bx Try.underlying30 rfl infoD ?_) | (refine wpList_store_row rfl 30 _ _ rfl (w.heap.size + 1) _ rfl rfl 30 _ HR3.out.1 infoD rfl (all4 _ _ _ _ _ _ _ _) ?_) | (go_at_call 34; with_reducible (refine HC.out.mono ?_); rintro e w3 ⟨rfl, hb3⟩; have HX3 := Lib.hid (HT.out.bx.eq (hb3.block _ HT.out.bx.lt)); have HR3 := Lib.hid (HT.out.done (HT.out.D.below hb3) hb3 #[.slice (some ⟨d.gx, 0, none⟩) M.c.length d.cx, .slice (some ⟨d.gu, 0, none⟩) M.c.length d.cu, .slice (some ⟨d.gt, 0, none⟩) M.c.length d.ct, .int .i64 (M.h : Nat)]); clear hb3))
    refine ret_d2 rfl rfl rfl rfl (setRow_heap _ _ _ _ _ _ HR3.out.1) ⟨d, ?_, HR3.out.2.1, HR3.out.2.2⟩
    rw [← HV.out]
    rfl
  | true =>
    rw [hi] at HC
    obtain ⟨k, rfl, hk, hu⟩ := has_of hi
    have hpost : freM M k = ⟨M.c.set k ⟨⟨#[]⟩, false, false⟩, M.h⟩ := by unfold freM; rw [hi]; simp [upd, Z0]
    rw [hpost]
    have HV := Lib.hid (fun d' => dV_of d' (M := M) (N := ⟨M.c.set k ⟨⟨#[]⟩, false, false⟩, M.h⟩) List.length_set rfl)
    have HW := Lib.hid (fun W hD hBW => with_lit B k (⟨#[]⟩) false false d M hok hk W hD hBW)
    have HBB := Lib.hid hB
    have HK := Lib.hid hk
    have s0 : (0 : Int) ≤ (k : Nat) := by omega
    have s1 : (k : Int) < M.c.length := by omega
    clear h hok hi hpost hB hu hk
    go_enter Try.func28, Try.ntmps28
    go_upto_region 1 with (fail)
    generalize ((w.alloc (Obj.cells #[.slice (some ⟨d.gx, 0, none⟩) M.c.length d.cx, .slice (some ⟨d.gu, 0, none⟩) M.c.length d.cu, .slice (some ⟨d.gt, 0, none⟩) M.c.length d.ct, .int .i64 (M.h : Nat)] 30)).alloc (Obj.cells #[Value.slice none 0 0, .slice none 0 0, .slice none 0 0, .int .i64 0] 30)) = w1 at *
    go_upto_region 3 with (first | (refine wpList_load_row rfl 30 _ rfl w.heap.size rfl 30 _ _ _ HT.out.bx Try.underlying30 rfl infoD ?_) | (go_at_call 34; with_reducible (refine HC.out.mono ?_); rintro e w3 ⟨rfl, hb3⟩))
    have HX3 := Lib.hid (HT.out.bx.eq (hb3.block _ HT.out.bx.lt))
    have hD3 := HT.out.D.below hb3
    have HB3 := Lib.hid hb3
    clear hb3 hD3 HC
    have HB4 := HB3
    have HW4 := Lib.hid (HW.out w3 (HT.out.D.below HB4.out) (Nat.le_trans HBB.out (Nat.le_trans HT.out.b.size HB4.out.size)))
    clear HW HB3
    go_wp2_with (first | (refine wpList_load_row rfl 30 _ rfl w.heap.size rfl 30 _ _ _ HX3.out Try.underlying30 rfl infoD ?_) | (refine wpList_store_row rfl 30 _ _ rfl (w.heap.size + 1) _ rfl rfl 30 _ HR5.out.1 infoD rfl (all4 _ _ _ _ _ _ _ _) ?_) | (go_at_call 33; with_reducible (refine HW4.out.mono ?_); rintro e w5 ⟨d', rfl, hd5, hb5⟩; have HR5 := Lib.hid (HT.out.done hd5 (HB4.out.trans (hb5.mono HB4.out.size)) #[.slice (some ⟨d'.gx, 0, none⟩) M.c.length d'.cx, .slice (some ⟨d'.gu, 0, none⟩) M.c.length d'.cu, .slice (some ⟨d'.gt, 0, none⟩) M.c.length d'.ct, .int .i64 (M.h : Nat)]); clear hd5 hb5))
    refine ret_d2 rfl rfl rfl rfl (setRow_heap _ _ _ _ _ _ HR5.out.1) ⟨d', ?_, HR5.out.2.1, HR5.out.2.2⟩
    rw [← HV.out]
    rfl

set_option maxRecDepth 100000 in
set_option maxHeartbeats 2000000 in
theorem rput_any (B : Nat) (x : ByteArray) (d : Dv) (M : Ms) (hok : M.Ok) (w : World) (h : Dw B w d M.c) (hB : B ≤ w.heap.size) : Calls Try.prog 25 #[dV d M, .string x] w fun e w' => ∃ d' : Dv, e = .returned (.tuple #[dV d' (putM M x).1, .int .i64 (putM M x).2.1, .int .i64 (putM M x).2.2]) ∧ Dw B w' d' (putM M x).1.c ∧ Below w.heap.size w w' := by
  have HT := Lib.hid (two_of h)
  rw [dV_eq]
  have HV := Lib.hid (fun d' => dV_of d' (M := M) (N := (putM M x).1) (putM_len M x) (by unfold putM; split <;> rfl))
  have HW := Lib.hid (fun k hk W hD hBW => with_lit B k x true false d M hok hk W hD hBW)
  have HBB := Lib.hid hB
  have h64 := hok.n64
  clear h hok hB
  go_enter Try.func25, Try.ntmps25
  go_upto_region 1 with (fail)
  generalize ((w.alloc (Obj.cells #[.slice (some ⟨d.gx, 0, none⟩) M.c.length d.cx, .slice (some ⟨d.gu, 0, none⟩) M.c.length d.cu, .slice (some ⟨d.gt, 0, none⟩) M.c.length d.ct, .int .i64 (M.h : Nat)] 30)).alloc (Obj.cells #[Value.slice none 0 0, .slice none 0 0, .slice none 0 0, .int .i64 0] 30)) = w1 at *
  go_wp2_with fail
  go_loopw [7] (fun v wr => ∃ j : Nat, j ≤ M.c.length ∧ v = .int .i64 j ∧ wr = w1 ∧ ∀ q, q < j → us M.c q = true) (fun v _ => M.c.length - (intOf v).toNat)
  case atStart => exact ⟨0, Nat.zero_le _, rfl, rfl, fun q hq => absurd hq (by omega)⟩
  case round =>
    obtain ⟨j, hj, rfl, rfl, hall⟩ := hrel
    have b0 := HT.out.bx.cell 0
    have b1 := HT.out.bx.cell 1
    simp only [List.getElem?_toArray, List.getElem?_cons_zero, List.getElem?_cons_succ] at b0 b1
    by_cases hlt : j < M.c.length
    · have d1 : decide ((j : Int) < M.c.length) = true := by simp; omega
      have e1 := HT.out.D.e1 hlt
      have s0 : (0 : Int) ≤ (j : Nat) := by omega
      have s1 : (j : Int) < (M.c.length : Nat) := by omega
      cases hu : us M.c j with
      | true =>
        rw [hu] at e1
        have HA := Lib.hid (And.intro hall hu)
        clear hall hu
        go_wp2_with fail
        go_roundw
        case rel =>
          refine ⟨j + 1, hlt, by go_num, by trivial, fun q hq => ?_⟩
          rcases Nat.lt_or_ge q j with h1 | h1
          · exact HA.out.1 q h1
          · obtain rfl : q = j := by omega
            exact HA.out.2
        case measure => simp [intOf]; omega
      | false =>
        rw [hu] at e1
        have hp : putM M x = (⟨M.c.set j ⟨x, true, false⟩, M.h⟩, (j : Int), 0) := by unfold putM; rw [first_some hlt hu hall]
        have HP := Lib.hid hp
        rw [hp] at HV
        have HW4 := Lib.hid (HW.out j hlt wr HT.out.D (Nat.le_trans HBB.out HT.out.b.size))
        have HB4 := Lib.hid (Below.refl wr.heap.size wr)
        clear hp hu hall HW
        go_wp2_with (first | (refine wpList_load_row rfl 30 _ rfl w.heap.size rfl 30 _ _ _ HT.out.bx Try.underlying30 rfl infoD ?_) | (refine wpList_store_row rfl 30 _ _ rfl (w.heap.size + 1) _ rfl rfl 30 _ HR5.out.1 infoD rfl (all4 _ _ _ _ _ _ _ _) ?_) | (go_at_call 33; with_reducible (refine HW4.out.mono ?_); rintro e w5 ⟨d', rfl, hd5, hb5⟩; have HR5 := Lib.hid (HT.out.done hd5 (HB4.out.trans (hb5.mono HB4.out.size)) #[.slice (some ⟨d'.gx, 0, none⟩) M.c.length d'.cx, .slice (some ⟨d'.gu, 0, none⟩) M.c.length d'.cu, .slice (some ⟨d'.gt, 0, none⟩) M.c.length d'.ct, .int .i64 (M.h : Nat)]); clear hd5 hb5))
        refine ret_d3 rfl rfl rfl rfl rfl (setRow_heap _ _ _ _ _ _ HR5.out.1) ⟨d', ?_, by rw [HP.out]; exact HR5.out.2.1, HR5.out.2.2⟩
        rw [HP.out, ← HV.out]
        rfl
    · obtain rfl : j = M.c.length := by omega
      have d1 : decide ((M.c.length : Int) < M.c.length) = false := by simp
      have hp : putM M x = (M, 0, 5) := by unfold putM; rw [first_none hall]
      have HP := Lib.hid hp
      rw [hp] at HV
      have HR5 := Lib.hid (HT.out.done HT.out.D (Below.refl wr.heap.size wr) #[.slice (some ⟨d.gx, 0, none⟩) M.c.length d.cx, .slice (some ⟨d.gu, 0, none⟩) M.c.length d.cu, .slice (some ⟨d.gt, 0, none⟩) M.c.length d.ct, .int .i64 (M.h : Nat)])
      clear hp hall HW
      go_wp2_with (first | (refine wpList_load_row rfl 30 _ rfl w.heap.size rfl 30 _ _ _ HT.out.bx Try.underlying30 rfl infoD ?_) | (refine wpList_store_row rfl 30 _ _ rfl (w.heap.size + 1) _ rfl rfl 30 _ HR5.out.1 infoD rfl (all4 _ _ _ _ _ _ _ _) ?_))
      refine ret_d3 rfl rfl rfl rfl rfl (setRow_heap _ _ _ _ _ _ HR5.out.1) ⟨d, ?_, by rw [HP.out]; exact HR5.out.2.1, HR5.out.2.2⟩
      rw [HP.out, ← HV.out]
      rfl
end Go.Proofs.Ytpoienhmnaeaiaa
