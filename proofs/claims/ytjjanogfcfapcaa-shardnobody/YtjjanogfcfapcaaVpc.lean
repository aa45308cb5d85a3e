/- The contract of the program's shard: remove. -/
import Derived.Test.YtjjanogfcfapcaaVpb
namespace Go.Proofs.Ytjjanogfcfapcaa
open Go.RowKit
set_option linter.unusedVariables false
section
variable {w w' : World} {h : Nat} {K : Ly} {M : Ms Ev} {f : Qu → Option Nat} {N : Nat} {l : List W.Ti}
theorem Sv.xlt (v : Sv w h K M f N l) {i : Nat} (hi : K.X i) : i < w.heap.size := by
  rcases hi with e | e | e | ⟨j, hj, e⟩
  · rw [e]; exact v.sp.bg.lt
  · rw [e]; exact v.sp.bb.lt
  · rw [e]; exact v.pm.lt
  · rw [e]; exact (v.wl.mp j hj).lt
theorem Sv.notX (v : Sv w h K M f N l) {i : Nat} (hi : w.heap.size ≤ i) : ¬ K.X i := fun e => by have := v.xlt e; omega
/-- A row that the call has made is stored: no part of the shard's. -/
theorem Sv.row {w0 : World} {M0 : Ms Ev} {f0 : Qu → Option Nat} {N0 : Nat} {l0 : List W.Ti} (v : Sv w h K M f N l) (v0 : Sv w0 h K M0 f0 N0 l0) {r : Nat} (hr : w0.heap.size ≤ r) (cs : Array Value) (hre : ∀ j, Re K.X (w.setRow r cs) (M.c.getD j Z0).x) : Sv (w.setRow r cs) h K M f N l := by
  have hc : Ch (fun i => i = r) w (w.setRow r cs) := ⟨rfl, rfl, rfl, by rw [setRow_size]; exact Nat.le_refl _, fun i _ hi => setRow_other w r i cs hi⟩
  have a1 := v0.bh.lt
  have a2 := v0.sp.bg.lt
  have a3 := v0.sp.bb.lt
  have a4 := v0.pm.lt
  have a5 := cell_size v0.wl.c0
  have a6 := cell_size (v0.wl.e0 0 v0.wl.pos)
  simp only at a5 a6
  refine ⟨v.up, v.bh.eq (hc.block _ v.bh.lt (by omega)), v.sp.keepC hc (by omega) (by omega), v.pm.block (hc.block _ v.pm.lt (by omega)), v.wl.ch hc (by omega) (by omega) (fun j hj => by have := (v0.wl.mp j hj).lt; omega), hre⟩
theorem Blk.ch {X : Nat → Prop} {g : Nat} {t : TypeId} {cs : Array Value} (b : Blk w g t cs) (hc : Ch X w w') (hx : ¬ X g) : Blk w' g t cs := b.eq (hc.block g b.lt hx)
end
set_option maxRecDepth 100000 in
set_option maxHeartbeats 4000000 in
theorem remove_any {w : World} {h : Nat} {K : Ly} {M : Ms Ev} {f : Qu → Option Nat} {N : Nat} {l : List W.Ti} (v : Sv w h K M f N l) {k : Nat} (hk : k < M.c.length) (hu : us M.c k = true) :
    Calls Try.prog 42 #[.pointer (some ⟨h, 0, none⟩), .int .i64 (k : Nat)] w fun e w' => e = .returned (qV (M.c.getD k Z0).x.e.q) ∧
      Sv w' h K ⟨M.c.set k Z0, M.h⟩ (fun x => if x = (M.c.getD k Z0).x.e.q then none else f x) (if (f (M.c.getD k Z0).x.e.q).isSome then N - 1 else N) (W.delL l k) ∧ Ch K.X w w' := by
  have hb := (Below.refl w.heap.size w).alloc (Nat.le_refl _) (Obj.cells zQ 35)
  have v1 := v.low hb
  have HR := Lib.hid (Blk.new w 35 zQ)
  have HX := Lib.hid (fun (i : Nat) (hi : w.heap.size ≤ i) => v.notX hi)
  have HG := Lib.hid (get_k v1.sp hk hu)
  have hq := (v.re k).q
  have c0 := v1.c0
  have HV1 := Lib.hid (And.intro v1 (Ch.bel (X := K.X) hb))
  have h64 := v.sp.ok.n64
  have HZ := Lib.hid (show w.heap.size < (w.alloc (Obj.cells zQ 35)).heap.size by simp)
  have HV0 := Lib.hid v
  obtain ⟨N', HN'⟩ : ∃ N', Hid ((if (f (M.c.getD k Z0).x.e.q).isSome then N - 1 else N) = N') := ⟨_, Lib.hid rfl⟩
  rw [HN'.out]
  clear v v1 hb
  unfold zQ at HR HG c0 HV1 HZ
  obtain ⟨x, HE⟩ : ∃ x, Hid ((M.c.getD k Z0).x = x) := ⟨_, Lib.hid rfl⟩
  rw [HE.out] at HG hq HN' ⊢
  go_enter Try.func42, Try.ntmps42
  go_upto_region 1 with (fail)
  generalize w.alloc (Obj.cells #[.string ⟨#[]⟩, .int .u16 0, .int .u16 0] 35) = w1 at *
  go_upto_region 2 with (first | (refine wpList_store_row rfl 39 _ _ rfl w2.heap.size _ rfl rfl 39 _ HN.out (infoEa x) rfl (evL_one x) ?_) | (go_at_call 33; (with_reducible (refine HG.out.mono ?_)); rintro e w2 ⟨rfl, hb2⟩; have HB2 := Lib.hid hb2; have HN := Lib.hid (Blk.new w2 39 zE); unfold zE at HN; clear hb2))
  obtain ⟨k3, b3⟩ := box_of w2 x
  have b23 := HB2.out.trans (b3.mono HB2.out.size)
  have HQ := Lib.hid k3
  have HV3 := Lib.hid (And.intro (HV1.out.1.low b23) (HV1.out.2.below b23))
  have HR3 := Lib.hid (HR.out.eq (b23.block _ HR.out.lt))
  have HS := Lib.hid (Nat.lt_of_lt_of_le HZ.out HB2.out.size)
  unfold zE at HQ HV3 HR3
  clear k3 b3 b23 c0 HR HG HV1 HN HB2
  generalize (w2.alloc (Obj.cells #[.string ⟨#[]⟩, .int .u16 0, .int .u16 0, .slice none 0 0, .int .i64 0, .int .i64 0, .int .u64 0] 39)).setRow w2.heap.size (evL x).toArray = w3 at *
  generalize w2.heap.size = r at *
  have c0 := HV3.out.1.c0
  have HF := Lib.hid (free_sv HV3.out.1 hk hu)
  go_upto_region 3 with (go_at_call 55; (with_reducible (refine HF.out.mono ?_)); rintro e w4 ⟨rfl, v4, hc4⟩; have HV4 := Lib.hid (And.intro v4 (And.intro (HV3.out.2.trans hc4) hc4)); clear v4 hc4)
  have HQ4 := Lib.hid (And.intro (HQ.out.ch HV4.out.2.2 (HX.out _ (Nat.le_of_lt HS.out))) (HR3.out.ch HV4.out.2.2 (HX.out _ (Nat.le_refl _))))
  clear c0 HF HQ HR3 HV3
  have c2 := HV4.out.1.c2
  have HF := Lib.hid (wdel_sv HV4.out.1 (k := k) (by omega))
  go_upto_region 4 with (go_at_call 56; (with_reducible (refine HF.out.mono ?_)); rintro e w5 ⟨rfl, v5, hc5⟩; have HV5 := Lib.hid (And.intro v5 (And.intro (HV4.out.2.1.trans hc5) hc5)); clear v5 hc5)
  have hd := (Below.refl w5.heap.size w5).drew
  have HQ5 := Lib.hid (And.intro (HQ4.out.1.ch (HV5.out.2.2.below hd) (HX.out _ (Nat.le_of_lt HS.out))) (HQ4.out.2.ch (HV5.out.2.2.below hd) (HX.out _ (Nat.le_refl _))))
  have HV6 := Lib.hid (And.intro (HV5.out.1.low hd) (HV5.out.2.1.below hd))
  clear c2 HF
  have c1 := HV5.out.1.c1
  have hq5 := HQ4.out.1.ch HV5.out.2.2 (HX.out _ (Nat.le_of_lt HS.out))
  have b0 := hq5.cell 0
  have b1 := hq5.cell 1
  have b2 := hq5.cell 2
  unfold evL at b0 b1 b2
  simp only [List.getElem?_toArray, List.getElem?_cons_zero, List.getElem?_cons_succ] at b0 b1 b2
  clear hq5 hd HQ4 HV4
  go_still_tail 6, (by kernel_rfl)
  change wpList _ _ _ _ _ w5.drew
  clear b0 b1 b2 c1 HV5
  generalize w5.drew = w6 at *
  go_upto_region 5 with (refine wpList_pm_del rfl _ _ rfl x.e.q hq rfl HV6.out.1.pm rfl ?_; intro w7 hp7 ht7)
  have hm := HV6.out.1.map hp7 ht7
  have HQ7 := Lib.hid (And.intro (HQ5.out.1.ch hm.2 (HX.out _ (Nat.le_of_lt HS.out))) (HQ5.out.2.ch hm.2 (HX.out _ (Nat.le_refl _))))
  rw [HN'.out] at hm
  have HV7 := Lib.hid (And.intro hm.1 (HV6.out.2.trans hm.2))
  clear hm hp7 ht7 HQ5 HV6
  have b0 := HQ7.out.1.cell 0
  have b1 := HQ7.out.1.cell 1
  have b2 := HQ7.out.1.cell 2
  unfold evL at b0 b1 b2
  simp only [List.getElem?_toArray, List.getElem?_cons_zero, List.getElem?_cons_succ] at b0 b1 b2
  go_wp2_with (refine wpList_store_row rfl 35 _ _ rfl w.heap.size (qf x.e.q).toArray rfl rfl 35 _ HQ7.out.2 elQ3 rfl (qf_one1 _) ?_)
  refine ret_q (qf x.e.q).toArray rfl rfl rfl rfl (setRow_heap _ _ _ _ _ _ HQ7.out.2) ?_
  have hc : Ch K.X w (w7.setRow w.heap.size (qf x.e.q).toArray) := ⟨HV7.out.2.os, HV7.out.2.tape, HV7.out.2.output, by rw [setRow_size]; exact HV7.out.2.size, fun i hi hx => (setRow_other w7 _ i _ (by omega)).trans (HV7.out.2.block i hi hx)⟩
  exact ⟨rfl, HV7.out.1.row HV0.out (Nat.le_refl _) _ (HV0.out.re_set hk hc (Re.zero _ _)), hc⟩
end Go.Proofs.Ytjjanogfcfapcaa
