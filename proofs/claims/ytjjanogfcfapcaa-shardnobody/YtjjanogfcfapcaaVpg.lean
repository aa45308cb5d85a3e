/- The contracts of the program's shard: Evict, replace, add. -/
import Derived.Test.YtjjanogfcfapcaaVpf
namespace Go.Proofs.Ytjjanogfcfapcaa
open Go.RowKit
set_option linter.unusedVariables false
set_option maxRecDepth 100000 in
set_option maxHeartbeats 2000000 in
theorem evict_nil (q : Qu) (w : World) : Calls Try.prog 21 #[.pointer none, qV q] w fun e w' => e = .returned (.bool false) ∧ Below w.heap.size w w' := by
  have HC := Lib.hid (fun W => find_nil q W)
  have HX := Lib.hid (blk_new_eq w 35 (qf q).toArray)
  have HB := Lib.hid ((Below.refl w.heap.size w).alloc (Nat.le_refl _) (Obj.cells (qf q).toArray 35))
  unfold qV at HC ⊢
  unfold qf at HX HB
  go_enter Try.func21, Try.ntmps21
  go_upto_region 1 with (fail)
  generalize w.alloc (Obj.cells #[.string q.n, .int .u16 (q.k : Nat), .int .u16 (q.c : Nat)] 35) = w1 at *
  obtain ⟨b0, b1, b2⟩ := q_cells (q := q) HX.out
  go_upto_region 2 with (first | (refine wpList_store_row rfl 39 _ _ rfl w2.heap.size _ rfl rfl 39 _ HNw.out (infoEa default) rfl (evL_one default) ?_) | (go_at_call 36; (with_reducible (refine (HC.out _).mono ?_)); rintro e w2 ⟨rfl, hb2⟩; have HB2 := Lib.hid hb2; have HNw := Lib.hid (Blk.new w2 39 zE); unfold zE at HNw; clear hb2))
  have HF := Lib.hid (HB.out.trans ((HB2.out.trans ((box_of w2 default).2.mono HB2.out.size)).mono HB.out.size))
  unfold zE at HF
  generalize (w2.alloc (Obj.cells #[.string ⟨#[]⟩, .int .u16 0, .int .u16 0, .slice none 0 0, .int .i64 0, .int .i64 0, .int .u64 0] 39)).setRow w2.heap.size (evL (default : Ev)).toArray = w3 at *
  clear b0 b1 b2 HNw HB2 HX HB HC
  go_wp2_with fail
  go_ret
  exact ⟨rfl, HF.out⟩
set_option maxRecDepth 100000 in
set_option maxHeartbeats 2000000 in
theorem evict_none (q : Qu) (hq : q.Fine) {w : World} {h : Nat} {K : Ly} {M : Ms Ev} {f : Qu → Option Nat} {N : Nat} {l : List W.Ti} (v : Sv w h K M f N l) (hf : f q = none) :
    Calls Try.prog 21 #[.pointer (some ⟨h, 0, none⟩), qV q] w fun e w' => e = .returned (.bool false) ∧ Below w.heap.size w w' := by
  have hb := (Below.refl w.heap.size w).alloc (Nat.le_refl _) (Obj.cells (qf q).toArray 35)
  have HC := Lib.hid (find_none q hq (v.low hb) hf)
  have HX := Lib.hid (blk_new_eq w 35 (qf q).toArray)
  have HB := Lib.hid hb
  unfold qV at HC ⊢
  unfold qf at HX HB HC
  clear v hb
  go_enter Try.func21, Try.ntmps21
  go_upto_region 1 with (fail)
  generalize w.alloc (Obj.cells #[.string q.n, .int .u16 (q.k : Nat), .int .u16 (q.c : Nat)] 35) = w1 at *
  obtain ⟨b0, b1, b2⟩ := q_cells (q := q) HX.out
  go_upto_region 2 with (first | (refine wpList_store_row rfl 39 _ _ rfl w2.heap.size _ rfl rfl 39 _ HNw.out (infoEa default) rfl (evL_one default) ?_) | (go_at_call 36; (with_reducible (refine (HC.out).mono ?_)); rintro e w2 ⟨rfl, hb2⟩; have HB2 := Lib.hid hb2; have HNw := Lib.hid (Blk.new w2 39 zE); unfold zE at HNw; clear hb2))
  have HF := Lib.hid (HB.out.trans ((HB2.out.trans ((box_of w2 default).2.mono HB2.out.size)).mono HB.out.size))
  unfold zE at HF
  generalize (w2.alloc (Obj.cells #[.string ⟨#[]⟩, .int .u16 0, .int .u16 0, .slice none 0 0, .int .i64 0, .int .i64 0, .int .u64 0] 39)).setRow w2.heap.size (evL (default : Ev)).toArray = w3 at *
  clear b0 b1 b2 HNw HB2 HX HB HC
  go_wp2_with fail
  go_ret
  exact ⟨rfl, HF.out⟩
set_option maxRecDepth 100000 in
set_option maxHeartbeats 2000000 in
theorem evict_some (q : Qu) (hq : q.Fine) {w : World} {h : Nat} {K : Ly} {M : Ms Ev} {f : Qu → Option Nat} {N : Nat} {l : List W.Ti} (v : Sv w h K M f N l) {k : Nat} (hf : f q = some k) (hk : k < M.c.length) (hu : us M.c k = true) :
    Calls Try.prog 21 #[.pointer (some ⟨h, 0, none⟩), qV q] w fun e w' => e = .returned (.bool true) ∧
      Sv w' h K ⟨M.c.set k Z0, M.h⟩ (fun x => if x = (M.c.getD k Z0).x.e.q then none else f x) (if (f (M.c.getD k Z0).x.e.q).isSome then N - 1 else N) (W.delL l k) ∧ Ch K.X w w' := by
  have hb := (Below.refl w.heap.size w).alloc (Nat.le_refl _) (Obj.cells (qf q).toArray 35)
  have HC := Lib.hid (find_some q hq (v.low hb) hf hk hu)
  have HX := Lib.hid (blk_new_eq w 35 (qf q).toArray)
  have HB := Lib.hid hb
  have HV := Lib.hid (v.low hb)
  obtain ⟨N', HN'⟩ : ∃ N', Hid ((if (f (M.c.getD k Z0).x.e.q).isSome then N - 1 else N) = N') := ⟨_, Lib.hid rfl⟩
  rw [HN'.out]
  unfold qV at HC ⊢
  unfold qf at HX HB HC HV
  obtain ⟨x, HE⟩ : ∃ x, Hid ((M.c.getD k Z0).x = x) := ⟨_, Lib.hid rfl⟩
  rw [HE.out] at HC HN' ⊢
  clear v hb
  go_enter Try.func21, Try.ntmps21
  go_upto_region 1 with (fail)
  generalize w.alloc (Obj.cells #[.string q.n, .int .u16 (q.k : Nat), .int .u16 (q.c : Nat)] 35) = w1 at *
  obtain ⟨b0, b1, b2⟩ := q_cells (q := q) HX.out
  go_upto_region 2 with (first | (refine wpList_store_row rfl 39 _ _ rfl w2.heap.size _ rfl rfl 39 _ HNw.out (infoEa x) rfl (evL_one x) ?_) | (go_at_call 36; (with_reducible (refine (HC.out).mono ?_)); rintro e w2 ⟨rfl, hb2⟩; have HB2 := Lib.hid hb2; have HNw := Lib.hid (Blk.new w2 39 zE); unfold zE at HNw; clear hb2))
  have b23 := HB2.out.trans ((box_of w2 x).2.mono HB2.out.size)
  have HF := Lib.hid (HB.out.trans (b23.mono HB.out.size))
  have HR := Lib.hid (remove_any (HV.out.low b23) hk hu)
  rw [HE.out, HN'.out] at HR
  unfold zE at HF HR
  generalize (w2.alloc (Obj.cells #[.string ⟨#[]⟩, .int .u16 0, .int .u16 0, .slice none 0 0, .int .i64 0, .int .i64 0, .int .u64 0] 39)).setRow w2.heap.size (evL x).toArray = w3 at *
  clear b0 b1 b2 HNw HB2 HX HB HC b23
  go_wp2_with (go_at_call 42; (with_reducible (refine HR.out.mono ?_)); rintro e w4 ⟨rfl, v4, hc4⟩; have HV4 := Lib.hid (And.intro v4 ((Ch.bel HF.out).trans hc4)); clear v4 hc4)
  go_ret
  exact ⟨rfl, HV4.out⟩

set_option maxRecDepth 100000 in
set_option maxHeartbeats 4000000 in
theorem replace_any (x : Ev) {w : World} {h : Nat} {K : Ly} {M : Ms Ev} {f : Qu → Option Nat} {N : Nat} {l : List W.Ti} (v : Sv w h K M f N l) (hx : Re K.X w x) (hl : l.length < 100000) {k : Nat} (hk : k < M.c.length) (hu : us M.c k = true) :
    Calls Try.prog 39 #[.pointer (some ⟨h, 0, none⟩), .int .i64 (k : Nat), evV x] w fun e w' => e = .returned (.tuple #[]) ∧ Sv w' h K ⟨M.c.set k ⟨x, true, true⟩, M.h⟩ f N (W.setL l k x.e.ex) ∧ Ch K.X w w' := by
  rw [evV_eq]
  have hb := (Below.refl w.heap.size w).alloc (Nat.le_refl _) (Obj.cells (evL x).toArray 39)
  have HX := Lib.hid (fun (i : Nat) (hi : w.heap.size ≤ i) => v.notX hi)
  have HV1 := Lib.hid (And.intro (v.low hb) (And.intro (hx.low hb) (And.intro (Ch.bel (X := K.X) hb) (blk_new_eq w 39 (evL x).toArray))))
  have hex := hx.ex
  have hk64 : k < 1000 := by have := v.sp.ok.n64; omega
  clear v hb hx
  unfold evL at HV1
  go_enter Try.func39, Try.ntmps39
  go_upto_region 1 with (fail)
  generalize w.alloc (Obj.cells #[.string x.e.q.n, .int .u16 (x.e.q.k : Nat), .int .u16 (x.e.q.c : Nat), .slice x.A x.e.l.length x.cap, .int .i64 x.e.rc, .int .i64 x.e.rk, .int .u64 (x.e.ex : Nat)] 39) = w1 at *
  have c0 := HV1.out.1.c0
  obtain ⟨e0, e1, e2, e3, e4, e5, e6⟩ := e_cells (x := x) HV1.out.2.2.2
  go_still_tail 6, (by kernel_rfl)
  change wpList _ _ _ _ _ w1.drew
  have hd := (Below.refl w1.heap.size w1).drew
  have HV2 := Lib.hid (And.intro (HV1.out.1.low hd) (And.intro (HV1.out.2.1.low hd) (And.intro (HV1.out.2.2.1.below hd) (HV1.out.2.2.2.eq (hd.block _ HV1.out.2.2.2.lt)))))
  clear hd e0 e1 e2 e3 e4 e5 e6 c0 HV1
  generalize w1.drew = w2 at *
  have HS := Lib.hid (set_sv HV2.out.1 hk hu HV2.out.2.1)
  rw [evV_eq] at HS
  go_upto_region 2 with (go_at_call 51; (with_reducible (refine HS.out.mono ?_)); rintro e w3 ⟨rfl, v3, hc3⟩; have HV3 := Lib.hid (And.intro v3 (And.intro (HV2.out.2.2.1.trans hc3) (HV2.out.2.2.2.ch hc3 (HX.out _ (Nat.le_refl _))))); clear v3 hc3)
  have c0 := HV3.out.1.c0
  have ht := touch_sv HV3.out.1 (k := k) (by simpa using hk) (by unfold us; rw [getD_set _ _ _ _ hk, if_pos rfl])
  simp only [getD_set _ _ _ _ hk, if_true, List.set_set] at ht
  have HT := Lib.hid ht
  clear ht HS HV2
  go_upto_region 3 with (go_at_call 43; (with_reducible (refine HT.out.mono ?_)); rintro e w4 ⟨rfl, v4, hc4⟩; have HV4 := Lib.hid (And.intro v4 (And.intro (HV3.out.2.1.trans hc4) (HV3.out.2.2.ch hc4 (HX.out _ (Nat.le_refl _))))); clear v4 hc4)
  clear c0 HT HV3
  have c2 := HV4.out.1.c2
  obtain ⟨e0, e1, e2, e3, e4, e5, e6⟩ := e_cells (x := x) HV4.out.2.2
  go_still_tail 7, (by kernel_rfl)
  change wpList _ _ _ _ _ w4.drew
  have hd := (Below.refl w4.heap.size w4).drew
  have HV5 := Lib.hid (And.intro (HV4.out.1.low hd) (HV4.out.2.1.below hd))
  clear hd e0 e1 e2 e3 e4 e5 e6 c2 HV4
  generalize w4.drew = w5 at *
  have HW := Lib.hid (wset_sv HV5.out.1 hk64 hex hl)
  go_wp2_with (go_at_call 52; (with_reducible (refine HW.out.mono ?_)); rintro e w6 ⟨rfl, v6, hc6⟩; have HV6 := Lib.hid (And.intro v6 (HV5.out.2.trans hc6)); clear v6 hc6)
  go_end0
  exact ⟨rfl, HV6.out⟩

/-- The cells that add reads. -/
structure Ad (w : World) (h g r : Nat) (x : Ev) : Prop where
  c0 : w.cell? ⟨h, 0, none⟩ = some (.pointer (some ⟨g, 0, none⟩))
  e : w.cell? ⟨r, 0, none⟩ = some (.string x.e.q.n) ∧ w.cell? ⟨r, 1, none⟩ = some (.int .u16 (x.e.q.k : Nat)) ∧ w.cell? ⟨r, 2, none⟩ = some (.int .u16 (x.e.q.c : Nat)) ∧
    w.cell? ⟨r, 3, none⟩ = some (.slice x.A x.e.l.length x.cap) ∧ w.cell? ⟨r, 4, none⟩ = some (.int .i64 x.e.rc) ∧ w.cell? ⟨r, 5, none⟩ = some (.int .i64 x.e.rk) ∧ w.cell? ⟨r, 6, none⟩ = some (.int .u64 (x.e.ex : Nat))
set_option maxRecDepth 100000 in
set_option maxHeartbeats 4000000 in
theorem add_any (x : Ev) {w : World} {h : Nat} {K : Ly} {M : Ms Ev} {f : Qu → Option Nat} {N : Nat} {l : List W.Ti} (v : Sv w h K M f N l) (hx : Re K.X w x) (hl : l.length < 100000) (hN : N < 1000) {k : Nat} (hk : firstC M.c = some k) :
    Calls Try.prog 41 #[.pointer (some ⟨h, 0, none⟩), evV x] w fun e w' => e = .returned (.tuple #[]) ∧ Sv w' h K ⟨M.c.set k ⟨x, true, false⟩, M.h⟩ (fun y => if y = x.e.q then some k else f y) (if (f x.e.q).isSome then N else N + 1) (W.setL l k x.e.ex) ∧ Ch K.X w w' := by
  rw [evV_eq]
  have hb := (Below.refl w.heap.size w).alloc (Nat.le_refl _) (Obj.cells (evL x).toArray 39)
  have HX := Lib.hid (fun (i : Nat) (hi : w.heap.size ≤ i) => v.notX hi)
  have HV1 := Lib.hid (And.intro (v.low hb) (And.intro (hx.low hb) (And.intro (Ch.bel (X := K.X) hb) (blk_new_eq w 39 (evL x).toArray))))
  have hex := hx.ex
  have hq := hx.q
  have hkl := (first_of hk).1
  have hk64 : k < 1000 := by have := v.sp.ok.n64; omega
  obtain ⟨N', HN'⟩ : ∃ N', Hid ((if (f x.e.q).isSome then N else N + 1) = N') := ⟨_, Lib.hid rfl⟩
  rw [HN'.out]
  clear v hb hx hkl
  unfold evL at HV1
  go_enter Try.func41, Try.ntmps41
  go_upto_region 1 with (fail)
  generalize w.alloc (Obj.cells #[.string x.e.q.n, .int .u16 (x.e.q.k : Nat), .int .u16 (x.e.q.c : Nat), .slice x.A x.e.l.length x.cap, .int .i64 x.e.rc, .int .i64 x.e.rk, .int .u64 (x.e.ex : Nat)] 39) = w1 at *
  have hd := (Below.refl w1.heap.size w1).drew
  have HV2 := Lib.hid (And.intro (HV1.out.1.low hd) (And.intro (HV1.out.2.1.low hd) (And.intro (HV1.out.2.2.1.below hd) (HV1.out.2.2.2.eq (hd.block _ HV1.out.2.2.2.lt)))))
  have HS0 := Lib.hid (Ad.mk HV2.out.1.c0 (e_cells (x := x) HV2.out.2.2.2))
  have hP := put_sv HV2.out.1 hk HV2.out.2.1
  rw [evV_eq] at hP
  have HP := Lib.hid hP
  generalize w.heap.size = r at *
  clear hd hP
  go_region_held3 (fun w' => w'.cell? ⟨h, 0, none⟩ = some (.pointer (some ⟨K.g, 0, none⟩)) ∧ w'.cell? ⟨r, 0, none⟩ = some (.string x.e.q.n) ∧ w'.cell? ⟨r, 1, none⟩ = some (.int .u16 (x.e.q.k : Nat)) ∧ w'.cell? ⟨r, 2, none⟩ = some (.int .u16 (x.e.q.c : Nat)) ∧
    w'.cell? ⟨r, 3, none⟩ = some (.slice x.A x.e.l.length x.cap) ∧ w'.cell? ⟨r, 4, none⟩ = some (.int .i64 x.e.rc) ∧ w'.cell? ⟨r, 5, none⟩ = some (.int .i64 x.e.rk) ∧ w'.cell? ⟨r, 6, none⟩ = some (.int .u64 (x.e.ex : Nat))) (first | exact ⟨HS0.out.c0, HS0.out.e⟩ | exact ⟨HS1.out.c0, HS1.out.e⟩) (first
      | (go_at_call 54; (with_reducible (refine HP.out.mono ?_)); rintro e w3 ⟨rfl, v3, hc3⟩; have HV3 := Lib.hid (And.intro v3 (And.intro (HV2.out.2.2.1.trans hc3) (HV2.out.2.2.2.ch hc3 (HX.out _ (Nat.le_refl _))))); have HS1 := Lib.hid (Ad.mk v3.c0 (e_cells (x := x) HV3.out.2.2)); clear v3 hc3))
  clear HS1 HS0 HP HV2 HV1
  go_upto_region 2 with (fail)
  have c1 := HV3.out.1.c1
  obtain ⟨e0, e1, e2, e3, e4, e5, e6⟩ := e_cells (x := x) HV3.out.2.2
  go_still_tail 7, (by kernel_rfl)
  change wpList _ _ _ _ _ w3.drew
  have hd := (Below.refl w3.heap.size w3).drew
  have HV4 := Lib.hid (And.intro (HV3.out.1.low hd) (And.intro (HV3.out.2.1.below hd) (HV3.out.2.2.eq (hd.block _ HV3.out.2.2.lt))))
  clear hd e0 e1 e2 e3 e4 e5 e6 c1 HV3
  generalize w3.drew = w4 at *
  go_upto_region 3 with (refine wpList_pm_put rfl _ _ _ rfl x.e.q hq k hk64 rfl HV4.out.1.pm hN rfl rfl ?_; intro w5 hp5 ht5)
  rw [HN'.out] at hp5
  have hm := HV4.out.1.map hp5 ht5
  have HV5 := Lib.hid (And.intro hm.1 (And.intro (HV4.out.2.1.trans hm.2) (HV4.out.2.2.ch hm.2 (HX.out _ (Nat.le_refl _)))))
  clear hm hp5 ht5 HV4
  have c2 := HV5.out.1.c2
  obtain ⟨e0, e1, e2, e3, e4, e5, e6⟩ := e_cells (x := x) HV5.out.2.2
  go_still_tail 7, (by kernel_rfl)
  change wpList _ _ _ _ _ w5.drew
  have hd := (Below.refl w5.heap.size w5).drew
  have HV6 := Lib.hid (And.intro (HV5.out.1.low hd) (HV5.out.2.1.below hd))
  clear hd e0 e1 e2 e3 e4 e5 e6 c2 HV5
  generalize w5.drew = w6 at *
  have HW := Lib.hid (wset_sv HV6.out.1 hk64 hex hl)
  go_wp2_with (go_at_call 52; (with_reducible (refine HW.out.mono ?_)); rintro e w7 ⟨rfl, v7, hc7⟩; have HV7 := Lib.hid (And.intro v7 (HV6.out.2.trans hc7)); clear v7 hc7)
  go_end0
  exact ⟨rfl, HV7.out⟩
end Go.Proofs.Ytjjanogfcfapcaa
