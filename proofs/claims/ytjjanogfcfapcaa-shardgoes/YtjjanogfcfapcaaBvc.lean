/- Joined texts: Vpg Vmd Vph Vpi Vpj Vpk Vpl Lsv Lsa. -/
import Derived.Test.YtjjanogfcfapcaaBvb
import Derived.Test.YtjjanogfcfapcaaBwe
import Derived.Carry
import Derived.ProofKit
import Derived.OpenShut
import Derived.ShutString
import Derived.ChangeOld
import Derived.SizedLaws
import Derived.Deep.Slices
import Derived.Deep.SlicePairs

/- The contracts of the program's shard: Evict, replace, add. -/
namespace Go.Proofs.Ytjjanogfcfapcaa
open Go.RowKit
set_option linter.unusedVariables false
set_option maxRecDepth 100000 in
set_option maxHeartbeats 2000000 in
theorem evict_nil (q : Qu) (w : World) : Calls Try.prog 21 #[.pointer none, qV q] w fun e w' => e = .returned (.bool false) ∧ Below w.heap.size w w' := by
  have HC := Lib.hid (fun W => find_nil q W)
  have HX := Lib.hid (blk_new_eq w 35 (qf q).toArray)
  have HB := Lib.hid ((Below.refl w.heap.size w).alloc (Nat.le_refl _) (Obj.cells (qf q).toArray 35))
  unfold qV at HC ⊢
  unfold qf at HX HB
  go_enter Try.func21, Try.ntmps21
  go_upto_region 1 with (fail)
  generalize w.alloc (Obj.cells #[.string q.n, .int .u16 (q.k : Nat), .int .u16 (q.c : Nat)] 35) = w1 at *
  obtain ⟨b0, b1, b2⟩ := q_cells (q := q) HX.out
  go_upto_region 2 with (first | (refine wpList_store_row rfl 39 _ _ rfl w2.heap.size _ rfl rfl 39 _ HNw.out (infoEa default) rfl (evL_one default) ?_) | (go_at_call 36; (with_reducible (refine (HC.out _).mono ?_)); rintro e w2 ⟨rfl, hb2⟩; have HB2 := Lib.hid hb2; have HNw := Lib.hid (Blk.new w2 39 zE); unfold zE at HNw; clear hb2))
  have HF := Lib.hid (HB.out.trans ((HB2.out.trans ((box_of w2 default).2.mono HB2.out.size)).mono HB.out.size))
  unfold zE at HF
  generalize (w2.alloc (Obj.cells #[.string ⟨#[]⟩, .int .u16 0, .int .u16 0, .slice none 0 0, .int .i64 0, .int .i64 0, .int .u64 0] 39)).setRow w2.heap.size (evL (default : Ev)).toArray = w3 at *
  clear b0 b1 b2 HNw HB2 HX HB HC
  go_wp2_with fail
  go_ret
  exact ⟨rfl, HF.out⟩
set_option maxRecDepth 100000 in
set_option maxHeartbeats 2000000 in
theorem evict_none (q : Qu) (hq : q.Fine) {w : World} {h : Nat} {K : Ly} {M : Ms Ev} {f : Qu → Option Nat} {N : Nat} {l : List W.Ti} (v : Sv w h K M f N l) (hf : f q = none) :
    Calls Try.prog 21 #[.pointer (some ⟨h, 0, none⟩), qV q] w fun e w' => e = .returned (.bool false) ∧ Below w.heap.size w w' := by
  have hb := (Below.refl w.heap.size w).alloc (Nat.le_refl _) (Obj.cells (qf q).toArray 35)
  have HC := Lib.hid (find_none q hq (v.low hb) hf)
  have HX := Lib.hid (blk_new_eq w 35 (qf q).toArray)
  have HB := Lib.hid hb
  unfold qV at HC ⊢
  unfold qf at HX HB HC
  clear v hb
  go_enter Try.func21, Try.ntmps21
  go_upto_region 1 with (fail)
  generalize w.alloc (Obj.cells #[.string q.n, .int .u16 (q.k : Nat), .int .u16 (q.c : Nat)] 35) = w1 at *
  obtain ⟨b0, b1, b2⟩ := q_cells (q := q) HX.out
  go_upto_region 2 with (first | (refine wpList_store_row rfl 39 _ _ rfl w2.heap.size _ rfl rfl 39 _ HNw.out (infoEa default) rfl (evL_one default) ?_) | (go_at_call 36; (with_reducible (refine (HC.out).mono ?_)); rintro e w2 ⟨rfl, hb2⟩; have HB2 := Lib.hid hb2; have HNw := Lib.hid (Blk.new w2 39 zE); unfold zE at HNw; clear hb2))
  have HF := Lib.hid (HB.out.trans ((HB2.out.trans ((box_of w2 default).2.mono HB2.out.size)).mono HB.out.size))
  unfold zE at HF
  generalize (w2.alloc (Obj.cells #[.string ⟨#[]⟩, .int .u16 0, .int .u16 0, .slice none 0 0, .int .i64 0, .int .i64 0, .int .u64 0] 39)).setRow w2.heap.size (evL (default : Ev)).toArray = w3 at *
  clear b0 b1 b2 HNw HB2 HX HB HC
  go_wp2_with fail
  go_ret
  exact ⟨rfl, HF.out⟩
set_option maxRecDepth 100000 in
set_option maxHeartbeats 2000000 in
theorem evict_some (q : Qu) (hq : q.Fine) {w : World} {h : Nat} {K : Ly} {M : Ms Ev} {f : Qu → Option Nat} {N : Nat} {l : List W.Ti} (v : Sv w h K M f N l) {k : Nat} (hf : f q = some k) (hk : k < M.c.length) (hu : us M.c k = true) :
    Calls Try.prog 21 #[.pointer (some ⟨h, 0, none⟩), qV q] w fun e w' => e = .returned (.bool true) ∧
      Sv w' h K ⟨M.c.set k Z0, M.h⟩ (fun x => if x = (M.c.getD k Z0).x.e.q then none else f x) (if (f (M.c.getD k Z0).x.e.q).isSome then N - 1 else N) (W.delL l k) ∧ Ch K.X w w' := by
  have hb := (Below.refl w.heap.size w).alloc (Nat.le_refl _) (Obj.cells (qf q).toArray 35)
  have HC := Lib.hid (find_some q hq (v.low hb) hf hk hu)
  have HX := Lib.hid (blk_new_eq w 35 (qf q).toArray)
  have HB := Lib.hid hb
  have HV := Lib.hid (v.low hb)
  obtain ⟨N', HN'⟩ : ∃ N', Hid ((if (f (M.c.getD k Z0).x.e.q).isSome then N - 1 else N) = N') := ⟨_, Lib.hid rfl⟩
  rw [HN'.out]
  unfold qV at HC ⊢
  unfold qf at HX HB HC HV
  obtain ⟨x, HE⟩ : ∃ x, Hid ((M.c.getD k Z0).x = x) := ⟨_, Lib.hid rfl⟩
  rw [HE.out] at HC HN' ⊢
  clear v hb
  go_enter Try.func21, Try.ntmps21
  go_upto_region 1 with (fail)
  generalize w.alloc (Obj.cells #[.string q.n, .int .u16 (q.k : Nat), .int .u16 (q.c : Nat)] 35) = w1 at *
  obtain ⟨b0, b1, b2⟩ := q_cells (q := q) HX.out
  go_upto_region 2 with (first | (refine wpList_store_row rfl 39 _ _ rfl w2.heap.size _ rfl rfl 39 _ HNw.out (infoEa x) rfl (evL_one x) ?_) | (go_at_call 36; (with_reducible (refine (HC.out).mono ?_)); rintro e w2 ⟨rfl, hb2⟩; have HB2 := Lib.hid hb2; have HNw := Lib.hid (Blk.new w2 39 zE); unfold zE at HNw; clear hb2))
  have b23 := HB2.out.trans ((box_of w2 x).2.mono HB2.out.size)
  have HF := Lib.hid (HB.out.trans (b23.mono HB.out.size))
  have HR := Lib.hid (remove_any (HV.out.low b23) hk hu)
  rw [HE.out, HN'.out] at HR
  unfold zE at HF HR
  generalize (w2.alloc (Obj.cells #[.string ⟨#[]⟩, .int .u16 0, .int .u16 0, .slice none 0 0, .int .i64 0, .int .i64 0, .int .u64 0] 39)).setRow w2.heap.size (evL x).toArray = w3 at *
  clear b0 b1 b2 HNw HB2 HX HB HC b23
  go_wp2_with (go_at_call 42; (with_reducible (refine HR.out.mono ?_)); rintro e w4 ⟨rfl, v4, hc4⟩; have HV4 := Lib.hid (And.intro v4 ((Ch.bel HF.out).trans hc4)); clear v4 hc4)
  go_ret
  exact ⟨rfl, HV4.out⟩

set_option maxRecDepth 100000 in
set_option maxHeartbeats 4000000 in
theorem replace_any (x : Ev) {w : World} {h : Nat} {K : Ly} {M : Ms Ev} {f : Qu → Option Nat} {N : Nat} {l : List W.Ti} (v : Sv w h K M f N l) (hx : Re K.X w x) (hl : l.length < 100000) {k : Nat} (hk : k < M.c.length) (hu : us M.c k = true) :
    Calls Try.prog 39 #[.pointer (some ⟨h, 0, none⟩), .int .i64 (k : Nat), evV x] w fun e w' => e = .returned (.tuple #[]) ∧ Sv w' h K ⟨M.c.set k ⟨x, true, true⟩, M.h⟩ f N (W.setL l k x.e.ex) ∧ Ch K.X w w' := by
  rw [evV_eq]
  have hb := (Below.refl w.heap.size w).alloc (Nat.le_refl _) (Obj.cells (evL x).toArray 39)
  have HX := Lib.hid (fun (i : Nat) (hi : w.heap.size ≤ i) => v.notX hi)
  have HV1 := Lib.hid (And.intro (v.low hb) (And.intro (hx.low hb) (And.intro (Ch.bel (X := K.X) hb) (blk_new_eq w 39 (evL x).toArray))))
  have hex := hx.ex
  have hk64 : k < 1000 := by have := v.sp.ok.n64; omega
  clear v hb hx
  unfold evL at HV1
  go_enter Try.func39, Try.ntmps39
  go_upto_region 1 with (fail)
  generalize w.alloc (Obj.cells #[.string x.e.q.n, .int .u16 (x.e.q.k : Nat), .int .u16 (x.e.q.c : Nat), .slice x.A x.e.l.length x.cap, .int .i64 x.e.rc, .int .i64 x.e.rk, .int .u64 (x.e.ex : Nat)] 39) = w1 at *
  have c0 := HV1.out.1.c0
  obtain ⟨e0, e1, e2, e3, e4, e5, e6⟩ := e_cells (x := x) HV1.out.2.2.2
  go_still_tail 6, (by kernel_rfl)
  change wpList _ _ _ _ _ w1.drew
  have hd := (Below.refl w1.heap.size w1).drew
  have HV2 := Lib.hid (And.intro (HV1.out.1.low hd) (And.intro (HV1.out.2.1.low hd) (And.intro (HV1.out.2.2.1.below hd) (HV1.out.2.2.2.eq (hd.block _ HV1.out.2.2.2.lt)))))
  clear hd e0 e1 e2 e3 e4 e5 e6 c0 HV1
  generalize w1.drew = w2 at *
  have HS := Lib.hid (set_sv HV2.out.1 hk hu HV2.out.2.1)
  rw [evV_eq] at HS
  go_upto_region 2 with (go_at_call 51; (with_reducible (refine HS.out.mono ?_)); rintro e w3 ⟨rfl, v3, hc3⟩; have HV3 := Lib.hid (And.intro v3 (And.intro (HV2.out.2.2.1.trans hc3) (HV2.out.2.2.2.ch hc3 (HX.out _ (Nat.le_refl _))))); clear v3 hc3)
  have c0 := HV3.out.1.c0
  have ht := touch_sv HV3.out.1 (k := k) (by simpa using hk) (by unfold us; rw [getD_set _ _ _ _ hk, if_pos rfl])
  simp only [getD_set _ _ _ _ hk, if_true, List.set_set] at ht
  have HT := Lib.hid ht
  clear ht HS HV2
  go_upto_region 3 with (go_at_call 43; (with_reducible (refine HT.out.mono ?_)); rintro e w4 ⟨rfl, v4, hc4⟩; have HV4 := Lib.hid (And.intro v4 (And.intro (HV3.out.2.1.trans hc4) (HV3.out.2.2.ch hc4 (HX.out _ (Nat.le_refl _))))); clear v4 hc4)
  clear c0 HT HV3
  have c2 := HV4.out.1.c2
  obtain ⟨e0, e1, e2, e3, e4, e5, e6⟩ := e_cells (x := x) HV4.out.2.2
  go_still_tail 7, (by kernel_rfl)
  change wpList _ _ _ _ _ w4.drew
  have hd := (Below.refl w4.heap.size w4).drew
  have HV5 := Lib.hid (And.intro (HV4.out.1.low hd) (HV4.out.2.1.below hd))
  clear hd e0 e1 e2 e3 e4 e5 e6 c2 HV4
  generalize w4.drew = w5 at *
  have HW := Lib.hid (wset_sv HV5.out.1 hk64 hex hl)
  go_wp2_with (go_at_call 52; (with_reducible (refine HW.out.mono ?_)); rintro e w6 ⟨rfl, v6, hc6⟩; have HV6 := Lib.hid (And.intro v6 (HV5.out.2.trans hc6)); clear v6 hc6)
  go_end0
  exact ⟨rfl, HV6.out⟩

/-- The cells that add reads. -/
structure Ad (w : World) (h g r : Nat) (x : Ev) : Prop where
  c0 : w.cell? ⟨h, 0, none⟩ = some (.pointer (some ⟨g, 0, none⟩))
  e : w.cell? ⟨r, 0, none⟩ = some (.string x.e.q.n) ∧ w.cell? ⟨r, 1, none⟩ = some (.int .u16 (x.e.q.k : Nat)) ∧ w.cell? ⟨r, 2, none⟩ = some (.int .u16 (x.e.q.c : Nat)) ∧
    w.cell? ⟨r, 3, none⟩ = some (.slice x.A x.e.l.length x.cap) ∧ w.cell? ⟨r, 4, none⟩ = some (.int .i64 x.e.rc) ∧ w.cell? ⟨r, 5, none⟩ = some (.int .i64 x.e.rk) ∧ w.cell? ⟨r, 6, none⟩ = some (.int .u64 (x.e.ex : Nat))
set_option maxRecDepth 100000 in
set_option maxHeartbeats 4000000 in
theorem add_any (x : Ev) {w : World} {h : Nat} {K : Ly} {M : Ms Ev} {f : Qu → Option Nat} {N : Nat} {l : List W.Ti} (v : Sv w h K M f N l) (hx : Re K.X w x) (hl : l.length < 100000) (hN : N < 1000) {k : Nat} (hk : firstC M.c = some k) :
    Calls Try.prog 41 #[.pointer (some ⟨h, 0, none⟩), evV x] w fun e w' => e = .returned (.tuple #[]) ∧ Sv w' h K ⟨M.c.set k ⟨x, true, false⟩, M.h⟩ (fun y => if y = x.e.q then some k else f y) (if (f x.e.q).isSome then N else N + 1) (W.setL l k x.e.ex) ∧ Ch K.X w w' := by
  rw [evV_eq]
  have hb := (Below.refl w.heap.size w).alloc (Nat.le_refl _) (Obj.cells (evL x).toArray 39)
  have HX := Lib.hid (fun (i : Nat) (hi : w.heap.size ≤ i) => v.notX hi)
  have HV1 := Lib.hid (And.intro (v.low hb) (And.intro (hx.low hb) (And.intro (Ch.bel (X := K.X) hb) (blk_new_eq w 39 (evL x).toArray))))
  have hex := hx.ex
  have hq := hx.q
  have hkl := (first_of hk).1
  have hk64 : k < 1000 := by have := v.sp.ok.n64; omega
  obtain ⟨N', HN'⟩ : ∃ N', Hid ((if (f x.e.q).isSome then N else N + 1) = N') := ⟨_, Lib.hid rfl⟩
  rw [HN'.out]
  clear v hb hx hkl
  unfold evL at HV1
  go_enter Try.func41, Try.ntmps41
  go_upto_region 1 with (fail)
  generalize w.alloc (Obj.cells #[.string x.e.q.n, .int .u16 (x.e.q.k : Nat), .int .u16 (x.e.q.c : Nat), .slice x.A x.e.l.length x.cap, .int .i64 x.e.rc, .int .i64 x.e.rk, .int .u64 (x.e.ex : Nat)] 39) = w1 at *
  have hd := (Below.refl w1.heap.size w1).drew
  have HV2 := Lib.hid (And.intro (HV1.out.1.low hd) (And.intro (HV1.out.2.1.low hd) (And.intro (HV1.out.2.2.1.below hd) (HV1.out.2.2.2.eq (hd.block _ HV1.out.2.2.2.lt)))))
  have HS0 := Lib.hid (Ad.mk HV2.out.1.c0 (e_cells (x := x) HV2.out.2.2.2))
  have hP := put_sv HV2.out.1 hk HV2.out.2.1
  rw [evV_eq] at hP
  have HP := Lib.hid hP
  generalize w.heap.size = r at *
  clear hd hP
  go_region_held3 (fun w' => w'.cell? ⟨h, 0, none⟩ = some (.pointer (some ⟨K.g, 0, none⟩)) ∧ w'.cell? ⟨r, 0, none⟩ = some (.string x.e.q.n) ∧ w'.cell? ⟨r, 1, none⟩ = some (.int .u16 (x.e.q.k : Nat)) ∧ w'.cell? ⟨r, 2, none⟩ = some (.int .u16 (x.e.q.c : Nat)) ∧
    w'.cell? ⟨r, 3, none⟩ = some (.slice x.A x.e.l.length x.cap) ∧ w'.cell? ⟨r, 4, none⟩ = some (.int .i64 x.e.rc) ∧ w'.cell? ⟨r, 5, none⟩ = some (.int .i64 x.e.rk) ∧ w'.cell? ⟨r, 6, none⟩ = some (.int .u64 (x.e.ex : Nat))) (first | exact ⟨HS0.out.c0, HS0.out.e⟩ | exact ⟨HS1.out.c0, HS1.out.e⟩) (first
      | (go_at_call 54; (with_reducible (refine HP.out.mono ?_)); rintro e w3 ⟨rfl, v3, hc3⟩; have HV3 := Lib.hid (And.intro v3 (And.intro (HV2.out.2.2.1.trans hc3) (HV2.out.2.2.2.ch hc3 (HX.out _ (Nat.le_refl _))))); have HS1 := Lib.hid (Ad.mk v3.c0 (e_cells (x := x) HV3.out.2.2)); clear v3 hc3))
  clear HS1 HS0 HP HV2 HV1
  go_upto_region 2 with (fail)
  have c1 := HV3.out.1.c1
  obtain ⟨e0, e1, e2, e3, e4, e5, e6⟩ := e_cells (x := x) HV3.out.2.2
  go_still_tail 7, (by kernel_rfl)
  change wpList _ _ _ _ _ w3.drew
  have hd := (Below.refl w3.heap.size w3).drew
  have HV4 := Lib.hid (And.intro (HV3.out.1.low hd) (And.intro (HV3.out.2.1.below hd) (HV3.out.2.2.eq (hd.block _ HV3.out.2.2.lt))))
  clear hd e0 e1 e2 e3 e4 e5 e6 c1 HV3
  generalize w3.drew = w4 at *
  go_upto_region 3 with (refine wpList_pm_put rfl _ _ _ rfl x.e.q hq k hk64 rfl HV4.out.1.pm hN rfl rfl ?_; intro w5 hp5 ht5)
  rw [HN'.out] at hp5
  have hm := HV4.out.1.map hp5 ht5
  have HV5 := Lib.hid (And.intro hm.1 (And.intro (HV4.out.2.1.trans hm.2) (HV4.out.2.2.ch hm.2 (HX.out _ (Nat.le_refl _)))))
  clear hm hp5 ht5 HV4
  have c2 := HV5.out.1.c2
  obtain ⟨e0, e1, e2, e3, e4, e5, e6⟩ := e_cells (x := x) HV5.out.2.2
  go_still_tail 7, (by kernel_rfl)
  change wpList _ _ _ _ _ w5.drew
  have hd := (Below.refl w5.heap.size w5).drew
  have HV6 := Lib.hid (And.intro (HV5.out.1.low hd) (HV5.out.2.1.below hd))
  clear hd e0 e1 e2 e3 e4 e5 e6 c2 HV5
  generalize w5.drew = w6 at *
  have HW := Lib.hid (wset_sv HV6.out.1 hk64 hex hl)
  go_wp2_with (go_at_call 52; (with_reducible (refine HW.out.mono ?_)); rintro e w7 ⟨rfl, v7, hc7⟩; have HV7 := Lib.hid (And.intro v7 (HV6.out.2.trans hc7)); clear v7 hc7)
  go_end0
  exact ⟨rfl, HV7.out⟩
end Go.Proofs.Ytjjanogfcfapcaa

/- A shard's deeds, in plain mathematics: freeing what is due, making room; each keeps what is asked of a shard. -/
namespace Go.Proofs.Ytjjanogfcfapcaa
set_option linter.unusedVariables false

theorem freeAll_nil (c : List (Ce En)) : freeAll c [] = c := rfl
theorem freeAll_snoc (c : List (Ce En)) (is : List W.Ti) (x : W.Ti) : freeAll c (is ++ [x]) = (freeAll c is).set x.id.toNat Z0 := by simp [freeAll]
theorem freeAll_len : ∀ (is : List W.Ti) (c : List (Ce En)), (freeAll c is).length = c.length
  | [], c => rfl
  | x :: is, c => by
    show (freeAll (c.set x.id.toNat Z0) is).length = _
    rw [freeAll_len is, List.length_set]
theorem freeAll_at : ∀ (is : List W.Ti) (c : List (Ce En)) (k : Nat), (∀ x ∈ is, x.id.toNat ≠ k) → (freeAll c is).getD k Z0 = c.getD k Z0
  | [], c, k, _ => rfl
  | x :: is, c, k, h => by
    show (freeAll (c.set x.id.toNat Z0) is).getD k Z0 = _
    rw [freeAll_at is _ k (fun y hy => h y (List.mem_cons_of_mem _ hy))]
    have hx := h x (List.mem_cons_self ..)
    simp only [List.getD_eq_getElem?_getD, List.getElem?_set, if_neg hx]
theorem freeAll_gone : ∀ (is : List W.Ti) (c : List (Ce En)) (k : Nat), (∃ x ∈ is, x.id.toNat = k) → (freeAll c is).getD k Z0 = Z0
  | [], c, k, h => by obtain ⟨x, hx, _⟩ := h; cases hx
  | x :: is, c, k, h => by
    show (freeAll (c.set x.id.toNat Z0) is).getD k Z0 = _
    by_cases h2 : ∃ y ∈ is, y.id.toNat = k
    · exact freeAll_gone is _ k h2
    · obtain ⟨y, hy, he⟩ := h
      rcases List.mem_cons.1 hy with e | e
      · subst e
        rw [freeAll_at is _ k (fun z hz e => h2 ⟨z, hz, e⟩)]
        simp only [List.getD_eq_getElem?_getD, List.getElem?_set]
        rw [if_pos he]
        split <;> rfl
      · exact absurd ⟨y, e, he⟩ h2
theorem freeAll_uq {is : List W.Ti} {c : List (Ce En)} (h : Uq c) : Uq (freeAll c is) := by
  intro i j hi hj ui uj hq
  rw [freeAll_len] at hi hj
  have key : ∀ k, us (freeAll c is) k = true → (freeAll c is).getD k Z0 = c.getD k Z0 := fun k hk => by
    by_cases e : ∃ x ∈ is, x.id.toNat = k
    · have := freeAll_gone is c k e
      unfold us at hk
      rw [this] at hk
      cases hk
    · exact freeAll_at is c k (fun x hx e2 => e ⟨x, hx, e2⟩)
  have ki := key i ui
  have kj := key j uj
  unfold us at ui uj
  unfold qAt at hq
  rw [ki] at ui hq
  rw [kj] at uj hq
  exact h i j hi hj ui uj hq
section
variable {c : List (Ce En)} {l : List W.Ti}
/-- What is in the list of times has its slot. -/
theorem TO.slot (h : TO c l) {x : W.Ti} (hx : x ∈ l) : ∃ k : Nat, x.id = k ∧ k < c.length ∧ us c k = true ∧ (c.getD k Z0).x.ex = x.t := by
  obtain ⟨k, e, h1, h2, h3⟩ := h.mem hx
  have hl := W.cellOf_lt h2
  rw [tiC_len] at hl
  rw [cell_tiC] at h2
  split at h2
  · rename_i hu
    refine ⟨k, h1, hl, hu, ?_⟩
    cases h2
    exact h3
  · cases h2
theorem TO.used (h : TO c l) {k : Nat} (hu : us c k = true) : (⟨k, (c.getD k Z0).x.ex⟩ : W.Ti) ∈ l := by
  refine (W.look_mem h.ord.nd).2 ?_
  show W.look l k = _
  rw [h.at_ k, cell_tiC, if_pos hu]
  rfl
theorem due_sub (l : List W.Ti) (now : Nat) : ∀ x ∈ W.dueL l now, x ∈ l := fun x hx => (List.takeWhile_sublist _).subset hx
theorem due_nodup (h : TO c l) (now : Nat) : ((W.dueL l now).map fun x => x.id.toNat).Nodup := by
  have hs : List.Sublist ((W.dueL l now).map (·.id)) (l.map (·.id)) := (List.takeWhile_sublist _).map _
  have h1 := hs.nodup h.ord.nd
  rw [List.nodup_iff_pairwise_ne, List.pairwise_map] at h1 ⊢
  refine (List.Pairwise.and_mem.1 h1).imp fun {a b} ⟨ha, hb, hne⟩ e => hne ?_
  have := h.nn a (due_sub l now a ha)
  have := h.nn b (due_sub l now b hb)
  omega
/-- The slot of what comes next is still as it was. -/
theorem due_at (h : TO c l) (now j : Nat) (hj : j < (W.dueL l now).length) : (freeAll c ((W.dueL l now).take j)).getD (W.dueL l now)[j].id.toNat Z0 = c.getD (W.dueL l now)[j].id.toNat Z0 := by
  refine freeAll_at _ c _ fun x hx e => ?_
  obtain ⟨i, hi, rfl⟩ := List.getElem_of_mem hx
  rw [List.length_take] at hi
  rw [List.getElem_take] at e
  have hn := due_nodup h now
  have := (List.getElem_inj (h₀ := by rw [List.length_map]; omega) (h₁ := by rw [List.length_map]; omega) hn (i := i) (j := j)).1 (by simpa using e)
  omega
theorem due_slot (h : TO c l) (now j : Nat) (hj : j < (W.dueL l now).length) : ∃ k : Nat, (W.dueL l now)[j].id = k ∧ k < c.length ∧ us c k = true := by
  obtain ⟨k, h1, h2, h3, _⟩ := h.slot (due_sub l now _ (List.getElem_mem hj))
  exact ⟨k, h1, h2, h3⟩
theorem rest_del (h : W.Ord l) (now : Nat) {x : W.Ti} (hx : x ∈ W.dueL l now) : W.delL (W.restL l now) x.id = W.restL l now := by
  unfold W.delL
  rw [List.filter_eq_self]
  intro y hy
  have h1 := (W.mem_due h).1 hx
  have h2 := (W.mem_rest h).1 hy
  have : y.id ≠ x.id := fun e => by
    rw [e, h1.1] at h2
    obtain ⟨a, b⟩ := h2
    obtain ⟨_, b2⟩ := h1
    simp only [Option.some.injEq] at a
    omega
  simpa using this
theorem rest_TO (h : TO c l) (now : Nat) : TO (freeAll c (W.dueL l now)) (W.restL l now) := by
  refine ⟨W.restL_ord h.ord now, fun i => ?_, fun x hx => h.nn x ((List.dropWhile_sublist _).subset hx)⟩
  rw [W.restL_look h.ord, h.at_ i, cell_tiC, cell_tiC]
  by_cases e : ∃ x ∈ W.dueL l now, x.id.toNat = i
  · have h1 := freeAll_gone _ c i e
    have hu : us (freeAll c (W.dueL l now)) i = false := by unfold us; rw [h1]; rfl
    rw [hu]
    obtain ⟨x, hx, rfl⟩ := e
    obtain ⟨k, hk, _, hku, hkx⟩ := h.slot (due_sub l now x hx)
    have hd := ((W.mem_due h.ord).1 hx).2
    have : x.id.toNat = k := by omega
    rw [this, if_pos hku]
    simp only [Option.map_some, Bool.false_eq_true, if_false, Option.map_none]
    rw [if_pos (by rw [hkx]; exact hd)]
  · have h1 := freeAll_at _ c i (fun x hx e2 => e ⟨x, hx, e2⟩)
    have hu : us (freeAll c (W.dueL l now)) i = us c i := by unfold us; rw [h1]
    rw [hu, h1]
    cases hc : us c i with
    | false => rfl
    | true =>
      have hm := h.used hc
      have : ¬ (c.getD i Z0).x.ex ≤ now := fun hle => e ⟨_, (W.mem_due h.ord).2 ⟨(W.look_mem h.ord.nd).1 hm, hle⟩, by simp⟩
      simp only [if_true, Option.map_some]
      rw [if_neg this]
end
theorem advS_ok {d : Sd} (h : d.Ok) (now : Nat) : (advS d now).1.Ok := by
  refine ⟨⟨?_, ?_, ?_⟩, rest_TO h.ti now, freeAll_uq h.uq⟩
  · show 1 ≤ (freeAll d.P.c _).length; rw [freeAll_len]; exact h.ok.n1
  · show (freeAll d.P.c _).length ≤ 64; rw [freeAll_len]; exact h.ok.n64
  · show d.P.h < (freeAll d.P.c _).length; rw [freeAll_len]; exact h.ok.hn
theorem advS_none {d : Sd} {now : Nat} (h : W.dueL d.l now = []) : advS d now = (d, []) := by
  have hr : W.restL d.l now = d.l := by
    have := W.due_rest d.l now
    rw [h] at this
    exact this
  unfold advS
  rw [h, hr]
  rfl
theorem cnt_full {α : Type} [Inhabited α] : ∀ (c : List (Ce α)), firstC c = none ↔ cnt c = c.length
  | [] => by simp [firstC, cnt]
  | a :: c => by
    have ih := cnt_full c
    have hle := cnt_le c
    unfold firstC cnt at *
    rw [List.findIdx?_cons, List.filter_cons]
    cases hu : a.u with
    | false =>
      simp only [Bool.not_false, if_true, Bool.false_eq_true, if_false, List.length_cons]
      constructor
      · intro h; cases h
      · intro h; omega
    | true =>
      simp only [Bool.not_true, Bool.false_eq_true, if_false, if_true, List.length_cons, Option.map_eq_none_iff]
      rw [ih]
      omega
theorem first_cnt {α : Type} [Inhabited α] (c : List (Ce α)) : (firstC c).isSome = decide (cnt c < c.length) := by
  have h := cnt_full c
  have h2 := cnt_le c
  cases hf : firstC c with
  | none =>
    have := h.1 hf
    simp; omega
  | some i =>
    have : ¬ cnt c = c.length := fun e => by rw [h.2 e] at hf; cases hf
    simp; omega
/-- A full row has all slots used. -/
theorem full_us {α : Type} [Inhabited α] {c : List (Ce α)} (h : firstC c = none) {k : Nat} (hk : k < c.length) : us c k = true := by
  unfold firstC at h
  rw [List.findIdx?_eq_none_iff] at h
  have := h c[k] (List.getElem_mem hk)
  rw [us_get hk]
  simpa using this
theorem vicS_slot {d : Sd} (h : d.Ok) (hf : firstC d.P.c = none) : ∃ v, (vicM d.P).2 = some v ∧ v < d.P.c.length ∧ us d.P.c v = true := by
  have hne : allM d.P ≠ [] := by
    intro e
    have h0 : (0 : Nat) ∈ allM d.P := all_mem.2 ⟨h.ok.n1, full_us hf h.ok.n1⟩
    rw [e] at h0
    cases h0
  obtain ⟨v, hv⟩ := vicM_some h.ok hne
  obtain ⟨h1, h2⟩ := all_mem.1 (vicM_mem h.ok hv)
  exact ⟨v, hv, h1, h2⟩
/-- Room is made: a slot is free. -/
theorem roomS_ok {d : Sd} (h : d.Ok) (now : Nat) : (roomS d now).1.Ok ∧ (roomS d now).1.P.c.length = d.P.c.length ∧ (firstC (roomS d now).1.P.c).isSome = true ∧ (∀ q, slotOf d.P.c q = none → slotOf (roomS d now).1.P.c q = none) := by
  unfold roomS
  cases hf : firstC d.P.c with
  | some i => simp [h, hf]
  | none =>
    simp only [Option.isSome_none, Bool.false_eq_true, if_false]
    cases hd : W.dueL d.l now with
    | nil =>
      simp only [List.isEmpty_nil, if_true]
      obtain ⟨v, hv, h1, h2⟩ := vicS_slot h hf
      have hv2 : (vicS d).2 = v := by unfold vicS; rw [hv]; rfl
      have a := vic_alike h.ok
      have hlen : (vicS d).1.P.c.length = d.P.c.length := a.len
      have hvk : v < (vicS d).1.P.c.length := by rw [hlen]; exact h1
      have hu2 : us (vicS d).1.P.c v = true := by rw [show us (vicS d).1.P.c v = us d.P.c v from a.us v]; exact h2
      rw [hv2]
      refine ⟨freeS_ok (vicS_ok h) hvk, ?_, ?_, fun q hq => ?_⟩
      · show ((vicS d).1.P.c.set v Z0).length = _
        rw [List.length_set, hlen]
      · show (firstC ((vicS d).1.P.c.set v Z0)).isSome = true
        rw [first_cnt]
        have hc := cnt_set (Z0 : Ce En) (vicS d).1.P.c v hvk
        have hle := cnt_le (vicS d).1.P.c
        rw [hu2] at hc
        simp only [if_true, show (Z0 : Ce En).u = false from rfl, Bool.false_eq_true, if_false] at hc
        simp
        omega
      · show slotOf ((vicS d).1.P.c.set v Z0) q = none
        rw [slot_free (vicS_ok h).uq hvk hu2 rfl]
        split
        · rfl
        · rw [show slotOf (vicS d).1.P.c q = slotOf d.P.c q from a.slot h.uq q]; exact hq
    | cons x r =>
      simp only [List.isEmpty_cons, Bool.false_eq_true, if_false]
      refine ⟨advS_ok h now, freeAll_len _ _, ?_, fun q hq => ?_⟩
      · obtain ⟨k, hk1, hk2, _⟩ := h.ti.slot (due_sub d.l now x (by rw [hd]; exact List.mem_cons_self ..))
        cases hn : firstC (advS d now).1.P.c with
        | some i => rfl
        | none =>
          have h1 := full_us hn (k := k) (by show k < (freeAll d.P.c _).length; rw [freeAll_len]; exact hk2)
          have h2 := freeAll_gone (W.dueL d.l now) d.P.c k ⟨x, by rw [hd]; exact List.mem_cons_self .., by omega⟩
          unfold us at h1
          rw [show (advS d now).1.P.c = freeAll d.P.c (W.dueL d.l now) from rfl, h2] at h1
          cases h1
      · show slotOf (freeAll d.P.c _) q = none
        rw [slot_none] at hq ⊢
        intro k hk hku hkq
        rw [freeAll_len] at hk
        have h2 : (freeAll d.P.c (W.dueL d.l now)).getD k Z0 = d.P.c.getD k Z0 := by
          by_cases e : ∃ x ∈ W.dueL d.l now, x.id.toNat = k
          · have := freeAll_gone _ d.P.c k e
            unfold us at hku
            rw [this] at hku
            cases hku
          · exact freeAll_at _ d.P.c k (fun x hx e2 => e ⟨x, hx, e2⟩)
        unfold us at hku
        unfold qAt at hkq
        rw [h2] at hku hkq
        exact hq k hk hku hkq
theorem putS_ok {d : Sd} (h : d.Ok) {e : En} (hn : slotOf d.P.c e.q = none) : (putS d e).Ok := by
  unfold putS
  cases hf : firstC d.P.c with
  | none => exact h
  | some i =>
    refine storeS_ok h (first_of hf).1 e false fun j hj uj hq => ?_
    exact absurd hq (slot_none.1 hn j hj uj)
theorem insS_ok {d : Sd} (h : d.Ok) (e : En) (now : Nat) : (insS d e now).1.Ok := by
  unfold insS
  split
  · exact h
  · cases hs : slotOf d.P.c e.q with
    | some k =>
      obtain ⟨h1, h2, h3⟩ := (slot_some h.uq).1 hs
      simp only
      split
      · exact storeS_ok h h1 e true fun j hj uj hq => h.uq j k hj h1 uj h2 (by rw [hq, h3])
      · exact h
    | none =>
      obtain ⟨r1, r2, r3, r4⟩ := roomS_ok h now
      exact putS_ok r1 (r4 _ hs)
theorem lookS_ok {d : Sd} (h : d.Ok) (q : Qu) (now : Nat) : (lookS d q now).1.Ok := by
  unfold lookS
  cases hs : slotOf d.P.c q with
  | none => exact h
  | some k =>
    obtain ⟨h1, h2, h3⟩ := (slot_some h.uq).1 hs
    simp only
    split
    · exact touchS_ok h h1 h2
    · exact h
theorem evS_ok {d : Sd} (h : d.Ok) (q : Qu) : (evS d q).1.Ok := by
  unfold evS
  cases hs : slotOf d.P.c q with
  | none => exact h
  | some k => exact freeS_ok h ((slot_some h.uq).1 hs).1
end Go.Proofs.Ytjjanogfcfapcaa

/- A shard: what its memory and its mathematics say; Advance. -/
namespace Go.Proofs.Ytjjanogfcfapcaa
open Go.RowKit
set_option linter.unusedVariables false

/-- The program's shard h is d. -/
structure Sh (w : World) (h : Nat) (K : Ly) (d : Sd) : Prop where
  ok : d.Ok
  ex : ∃ M : Ms Ev, pure M = d.P ∧ Sv w h K M (slotOf d.P.c) (cnt d.P.c) d.l
theorem Sv.fun {w : World} {h : Nat} {K : Ly} {M : Ms Ev} {f f' : Qu → Option Nat} {N N' : Nat} {l l' : List W.Ti} (v : Sv w h K M f N l) (hf : ∀ q, f q = f' q) (hN : N = N') (hl : l = l') : Sv w h K M f' N' l' := by
  subst hN
  subst hl
  exact ⟨v.up, v.bh, v.sp, v.pm.congr hf, v.wl, v.re⟩
theorem Sh.low {w w' : World} {h : Nat} {K : Ly} {d : Sd} (s : Sh w h K d) (hb : Below w.heap.size w w') : Sh w' h K d := ⟨s.ok, let ⟨M, h1, h2⟩ := s.ex; ⟨M, h1, h2.low hb⟩⟩
theorem pure_len {M : Ms Ev} {P : Ms En} (h : pure M = P) : M.c.length = P.c.length := by rw [← h, pure_c, pc_len]
theorem pure_us {M : Ms Ev} {P : Ms En} (h : pure M = P) (k : Nat) : us M.c k = us P.c k := by rw [← h, pure_c, us_pc]
theorem pure_x {M : Ms Ev} {P : Ms En} (h : pure M = P) (k : Nat) : (M.c.getD k Z0).x.e = (P.c.getD k Z0).x := by rw [← h, pure_c, pc_getD]; rfl
theorem pure_set {M : Ms Ev} {P : Ms En} (h : pure M = P) (k : Nat) (e : Ce Ev) : pure ⟨M.c.set k e, M.h⟩ = ⟨P.c.set k (e.map Ev.e), P.h⟩ := by
  rw [← h]
  show (⟨pc (M.c.set k e), M.h⟩ : Ms En) = ⟨(pc M.c).set k (e.map Ev.e), M.h⟩
  rw [pc_set]
/-- The places behind a slot that was freed. -/
theorem free_places {c : List (Ce En)} (hu : Uq c) {k : Nat} (hk : k < c.length) (huk : us c k = true) (q : Qu) : (if q = (c.getD k Z0).x.q then none else slotOf c q) = slotOf (c.set k Z0) q := (slot_free hu hk huk (e := Z0) rfl q).symm
theorem free_count {c : List (Ce En)} (hu : Uq c) {k : Nat} (hk : k < c.length) (huk : us c k = true) : (if (slotOf c (c.getD k Z0).x.q).isSome then cnt c - 1 else cnt c) = cnt (c.set k Z0) := by
  have h1 : slotOf c (c.getD k Z0).x.q = some k := (slot_some hu).2 ⟨hk, huk, rfl⟩
  have h2 := cnt_set (Z0 : Ce En) c k hk
  rw [huk] at h2
  simp only [if_true, show (Z0 : Ce En).u = false from rfl, Bool.false_eq_true, if_false] at h2
  rw [h1]
  simp only [Option.isSome_some, if_true]
  omega
theorem ownR_ch {X : Nat → Prop} {w w' : World} {B : Nat} {e : TypeId} {k : Nat} {v : Value} {n : Nat} {xs : List Value} (h : w.ownsRow B e k v n xs) (hc : Ch X w w') (hX : ∀ i, X i → i < B) : w'.ownsRow B e k v n xs := by
  refine ⟨h.1, ?_⟩
  rcases h.2 with h1 | ⟨g, cap, cur, h1, h2, h3, h4⟩
  · exact .inl h1
  · exact .inr ⟨g, cap, cur, h1, h2, (hc.block g (heap_lt h3) (fun e => by have := hX g e; omega)).trans h3, h4⟩

set_option maxHeartbeats 1000000 in
theorem adv_nil (now : Nat) (w : World) : Calls Try.prog 24 #[.pointer none, .int .u64 (now : Nat)] w fun e w' => e = .returned (.slice none 0 0) ∧ w' = w := by
  go_enter Try.func24, Try.ntmps24
  go_wp2_with fail
  go_ret
  exact ⟨rfl, rfl⟩
/-- The shard while what is due goes. -/
structure Go1 (w1 wr : World) (h : Nat) (K : Ly) (c0 : List (Ce En)) (hand : Nat) (D : List W.Ti) (lr : List W.Ti) (j : Nat) : Prop where
  ex : ∃ M : Ms Ev, pure M = ⟨freeAll c0 (D.take j), hand⟩ ∧ Sv wr h K M (slotOf (freeAll c0 (D.take j))) (cnt (freeAll c0 (D.take j))) lr ∧ ∀ w', Ch K.X w1 w' → ∀ i, Re K.X w' (M.c.getD i Z0).x
  ch : Ch K.X w1 wr
/-- One more goes. -/
theorem Go1.next {w1 w2 : World} {h : Nat} {K : Ly} {c0 : List (Ce En)} {hand : Nat} {D lr : List W.Ti} {j k : Nat} (hj : j < D.length) (hid : D[j].id = k) (hu0 : Uq c0) (hat : (freeAll c0 (D.take j)).getD k Z0 = c0.getD k Z0) (hk : k < c0.length) (hu : us c0 k = true) (hd : W.delL lr k = lr)
    {M : Ms Ev} (hp : pure M = ⟨freeAll c0 (D.take j), hand⟩) (hre : ∀ w', Ch K.X w1 w' → ∀ i, Re K.X w' (M.c.getD i Z0).x) (v2 : Sv w2 h K ⟨M.c.set k Z0, M.h⟩ (fun x => if x = (M.c.getD k Z0).x.e.q then none else slotOf (freeAll c0 (D.take j)) x) (if (slotOf (freeAll c0 (D.take j)) (M.c.getD k Z0).x.e.q).isSome then cnt (freeAll c0 (D.take j)) - 1 else cnt (freeAll c0 (D.take j))) (W.delL lr k)) (hc : Ch K.X w1 w2) :
    Go1 w1 w2 h K c0 hand D lr (j + 1) := by
  have hx := pure_x hp k
  simp only at hx
  have hs : freeAll c0 (D.take (j + 1)) = (freeAll c0 (D.take j)).set k Z0 := by
    rw [List.take_add_one, List.getElem?_eq_getElem hj]
    show freeAll c0 (D.take j ++ [D[j]]) = _
    rw [freeAll_snoc, hid]
    rfl
  have hk2 : k < (freeAll c0 (D.take j)).length := by rw [freeAll_len]; exact hk
  have hu2 : us (freeAll c0 (D.take j)) k = true := by unfold us at hu ⊢; rw [hat]; exact hu
  refine ⟨⟨⟨M.c.set k Z0, M.h⟩, ?_, ?_, fun w' hw i => ?_⟩, hc⟩
  · rw [hs, pure_set hp k Z0]
    rfl
  · rw [hs]
    refine v2.fun (fun q => ?_) ?_ hd
    · rw [hx]
      exact free_places (freeAll_uq hu0) hk2 hu2 q
    · rw [hx]
      exact free_count (freeAll_uq hu0) hk2 hu2
  · rw [getD_set _ _ _ _ (by rw [pure_len hp]; exact hk2)]
    split
    · exact Re.zero _ _
    · exact hre w' hw i
/-- What the loop makes is no part of the shard's. -/
theorem Go1.junk {w1 wr w2 : World} {h : Nat} {K : Ly} {c0 : List (Ce En)} {hand : Nat} {D lr : List W.Ti} {j : Nat} (g : Go1 w1 wr h K c0 hand D lr j) {M0 : Ms Ev} {f0 : Qu → Option Nat} {N0 : Nat} {l0 : List W.Ti} (v0 : Sv w1 h K M0 f0 N0 l0) (hb : Below w1.heap.size wr w2) : Go1 w1 w2 h K c0 hand D lr j := by
  obtain ⟨M, hp, v, hre⟩ := g.ex
  have hc := g.ch.tail hb
  exact ⟨⟨M, hp, v.junk v0 hb (hre w2 hc), hre⟩, hc⟩
set_option maxRecDepth 100000 in
set_option maxHeartbeats 4000000 in
theorem adv_any {w : World} {h : Nat} {K : Ly} {d : Sd} (H : Sh w h K d) (now : Nat) :
    Calls Try.prog 24 #[.pointer (some ⟨h, 0, none⟩), .int .u64 (now : Nat)] w fun e w' => ∃ A cap, e = .returned (.slice A (advS d now).2.length cap) ∧ Sl qf w' A cap (advS d now).2 ∧ Nw w.heap.size A ∧ Sh w' h K (advS d now).1 ∧ Ch K.X w w' := by
  obtain ⟨i0, hi, hz0, hz1, hz2⟩ := el_of elQ
  obtain ⟨M, hp, v⟩ := H.ex
  have hl64 : d.l.length ≤ 64 := Nat.le_trans (ti_le H.ok.ti) H.ok.ok.n64
  have HC := Lib.hid (W.due_new 200 W.sort200 (by omega) now v.wl (Nat.le_trans (List.takeWhile_sublist _).length_le (by omega)) (by omega))
  have HV := Lib.hid (And.intro v hp)
  have HX := Lib.hid (fun (i : Nat) (hi : K.X i) => v.xlt hi)
  have HO := Lib.hid H.ok
  have c2 := v.c2
  have HD := Lib.hid (fun j hj => And.intro (due_at H.ok.ti now j hj) (due_slot H.ok.ti now j hj))
  have HRD := Lib.hid (fun x hx => rest_del H.ok.ti.ord now (x := x) hx)
  have HA := Lib.hid (advS_ok H.ok now)
  have hD64 : (W.dueL d.l now).length ≤ 64 := Nat.le_trans (List.takeWhile_sublist _).length_le hl64
  have HL := Lib.hid (show (advS d now).2.length = (W.dueL d.l now).length by unfold advS goneQ; rw [List.length_map])
  have HQ := Lib.hid (show ∀ j (hj : j < (W.dueL d.l now).length), (advS d now).2[j]? = some (qAt d.P.c (W.dueL d.l now)[j].id.toNat) from fun j hj => by
    show (goneQ d.P.c (W.dueL d.l now))[j]? = _
    unfold goneQ
    rw [List.getElem?_map, List.getElem?_eq_getElem hj]
    rfl)
  rw [HL.out]
  clear v hp H hl64
  go_enter Try.func24, Try.ntmps24
  go_wp2_with (go_at_call 44; (with_reducible (refine HC.out.mono ?_)); rintro e w1 ⟨A1, k1, rfl, hn1, hnw, hw1, hf1⟩; have HN := Lib.hid (And.intro hn1 hnw); have HV1 := Lib.hid (HV.out.1.wheel hw1 hf1); clear hn1 hnw hw1 hf1)
  go_loopw [5, 7, 17] (fun v _ x wr => ∃ j : Nat, j ≤ (W.dueL d.l now).length ∧ x = .int .i64 j ∧ wr.ownsRow w1.heap.size 35 3 v j (((advS d now).2.take j).flatMap qf) ∧ Go1 w1 wr h K d.P.c d.P.h (W.dueL d.l now) (W.restL d.l now) j) (fun _ _ x _ => (W.dueL d.l now).length - (intOf x).toNat)
  case atStart => exact ⟨0, Nat.zero_le _, rfl, World.ownsRow_nil _ _ _ _, ⟨⟨M, HV.out.2, HV1.out.1, fun w' hw i => (HV1.out.1.re i).ch hw⟩, Ch.refl _ _⟩⟩
  case round =>
    obtain ⟨j, hj, rfl, hown, hgo⟩ := hrel
    obtain ⟨Av, cv, rfl⟩ := ownR_form hown
    by_cases hlt : j < (W.dueL d.l now).length
    · have d1 : decide ((j : Int) < ((W.dueL d.l now).length : Nat)) = true := by simp; omega
      obtain ⟨b, off, hA1, hbs, hcb⟩ := HN.out.1 j (by rw [List.length_map]; exact hlt)
      subst hA1
      have e0 := hgo.ch.cell hcb (fun e => by have := HX.out b e; have := HN.out.2 b off rfl; omega)
      rw [List.getElem_map] at e0
      obtain ⟨hat, k, hid, hk, hu⟩ := HD.out j hlt
      rw [hid] at e0 hat
      rw [Int.toNat_natCast] at hat
      have s0 : (0 : Int) ≤ (j : Nat) := by omega
      have s1 : (j : Int) < ((W.dueL d.l now).length : Nat) := by omega
      obtain ⟨M1, hp1, v1, hre1⟩ := hgo.ex
      have hk1 : k < M1.c.length := by rw [pure_len hp1]; show k < (freeAll _ _).length; rw [freeAll_len]; exact hk
      have hu1 : us M1.c k = true := by rw [pure_us hp1]; show us (freeAll _ _) k = true; unfold us at hu ⊢; rw [hat]; exact hu
      have hq1 : (M1.c.getD k Z0).x.e.q = qAt d.P.c k := by rw [pure_x hp1]; show ((freeAll _ _).getD k Z0).x.q = _; rw [hat]; rfl
      have hdel : W.delL (W.restL d.l now) k = W.restL d.l now := by rw [← hid]; exact HRD.out _ (List.getElem_mem hlt)
      have HG := Lib.hid (fun w2 v2 hc => Go1.next (w1 := w1) (w2 := w2) (h := h) (K := K) (hand := d.P.h) hlt hid HO.out.uq hat hk hu hdel hp1 hre1 v2 hc)
      have hR := remove_any v1 hk1 hu1
      rw [hq1] at hR HG
      have hQ := HQ.out j hlt
      rw [hid, Int.toNat_natCast] at hQ
      have HQ2 := Lib.hid hQ
      unfold qV at hR
      have HR := Lib.hid hR
      have HOC := Lib.hid (And.intro hown hgo.ch)
      clear hR hQ hq1 hu1 hk1 v1 hp1 hown hgo hat hid hk hu hdel hcb hbs hre1
      generalize qAt d.P.c k = q at *
      go_upto_region 7 with (fail)
      go_wp2_with (first
        | (go_at_call 42; (with_reducible (refine HR.out.mono ?_)); rintro e w2 ⟨rfl, v2, hc2⟩; have HG2 := Lib.hid (HG.out w2 v2 (HOC.out.2.trans hc2)); have HO5 := Lib.hid ((ownR_ch HOC.out.1 hc2 (fun i hi => Nat.lt_of_lt_of_le (HX.out i hi) HV1.out.2.size)).alloc (Obj.cells #[.string q.n, .int .u16 (q.k : Nat), .int .u16 (q.c : Nat)] 35)); have HB5 := Lib.hid (HOC.out.2.trans hc2).size; clear v2 hc2)
        | (at_builtin; (refine wpList_append_own _ rfl _ _ 43 rfl w1.heap.size 35 i0 (qV ⟨⟨#[]⟩, 0, 0⟩) 3 24 Try.underlying43 hi hz0 hz1 hz2 rfl (by decide) _ _ _ rfl HO5.out ⟨w2.heap.size, 0, none⟩ 1 1 (qf q) rfl rfl (newQ w2 q) ?q3 ?q4 ?q5 ?q6 ?_)))
      case q3 => intro u hu; simp [qf] at hu; rcases hu with rfl | rfl | rfl <;> rfl
      case q4 => unfold maxLen; omega
      case q5 => omega
      case q6 => have := HB5.out; simp; omega
      intro v' w6 hown2 hgrow hnil
      have ht : (advS d now).2.take (j + 1) = (advS d now).2.take j ++ [q] := by rw [List.take_add_one, HQ2.out]; rfl
      rw [show ((advS d now).2.take j).flatMap qf ++ qf q = ((advS d now).2.take (j + 1)).flatMap qf by rw [ht, List.flatMap_append]; simp] at hown2
      have hb6 := ((Below.refl w1.heap.size w2).alloc HB5.out (Obj.cells #[.string q.n, .int .u16 (q.k : Nat), .int .u16 (q.c : Nat)] 35)).grown hgrow (by have := HB5.out; simp; omega) (fun r hr => (HO5.out.lt r hr).1)
      have HF := Lib.hid (And.intro hown2 (HG2.out.junk HV1.out.1 hb6))
      clear hown2 hgrow hnil hb6 ht
      go_wp2_with fail
      go_roundw
      case rel => exact ⟨j + 1, hlt, by go_num, HF.out.1, HF.out.2⟩
      case measure => simp [intOf]; omega
    · obtain rfl : j = (W.dueL d.l now).length := by omega
      have d1 : decide (((W.dueL d.l now).length : Int) < ((W.dueL d.l now).length : Nat)) = false := by simp
      have hs := hgo.ex
      rw [List.take_length] at hs
      rw [← HL.out, List.take_length] at hown
      have HF := Lib.hid (And.intro (Sl.owned qf_len hown) (And.intro (show Sh wr h K (advS d now).1 from ⟨HA.out, let ⟨M, a, b, _⟩ := hs; ⟨M, a, b⟩⟩) (HV1.out.2.trans hgo.ch)))
      clear hown hgo hs
      go_wp2_with fail
      go_ret
      rw [← HL.out]
      exact ⟨Av, cv, rfl, HF.out.1.1, (fun b off e => Nat.le_trans HV1.out.2.size (HF.out.1.2 b off e)), HF.out.2.1, HF.out.2.2⟩
end Go.Proofs.Ytjjanogfcfapcaa

/- The contracts of the program's shard: makeRoom. -/
namespace Go.Proofs.Ytjjanogfcfapcaa
open Go.RowKit
set_option linter.unusedVariables false

theorem pure_cnt {M : Ms Ev} {P : Ms En} (h : pure M = P) : cnt M.c = cnt P.c := by rw [← h, pure_c, cnt_pc]
theorem pure_first {M : Ms Ev} {P : Ms En} (h : pure M = P) : firstC M.c = firstC P.c := by rw [← h, pure_c, firstC_pc]
theorem pure_vic {M : Ms Ev} {P : Ms En} (h : pure M = P) : pure (vicM M).1 = (vicM P).1 ∧ (vicM M).2 = (vicM P).2 := by
  have := vicM_pure M
  rw [h] at this
  rw [this]
  exact ⟨rfl, rfl⟩
theorem sl_one {w : World} {g : Nat} {q : Qu} (h : Blk w g 35 (qf q).toArray) : Sl qf w (some ⟨g, 0, none⟩) 1 [q] := by
  refine ⟨(fun e => by cases e), Nat.le_refl _, .inr ⟨g, 0, rfl, h.lt, fun j u hj => ?_⟩⟩
  rw [Nat.zero_add, h.cell j]
  simp only [List.flatMap_cons, List.flatMap_nil, List.append_nil] at hj
  rw [List.getElem?_toArray]
  exact hj
set_option maxRecDepth 100000 in
set_option maxHeartbeats 4000000 in
theorem room_free {w : World} {h : Nat} {K : Ly} {d : Sd} (H : Sh w h K d) (now : Nat) (hf : (firstC d.P.c).isSome = true) :
    Calls Try.prog 40 #[.pointer (some ⟨h, 0, none⟩), .int .u64 (now : Nat)] w fun e w' => e = .returned (.slice none 0 0) ∧ Below w.heap.size w w' := by
  obtain ⟨M, hp, v⟩ := H.ex
  have HL := Lib.hid (len_any_s v)
  have HR := Lib.hid (fun W hb => room_any (v.low (w' := W) hb))
  rw [pure_cnt hp] at HL
  rw [pure_len hp] at HR
  rw [first_cnt] at hf
  have hlt : cnt d.P.c < d.P.c.length := by simpa using hf
  have d1 : decide ((cnt d.P.c : Int) < (d.P.c.length : Nat)) = true := by simp; omega
  clear v hp H hf
  generalize cnt d.P.c = a at *
  generalize d.P.c.length = b at *
  go_enter Try.func40, Try.ntmps40
  go_wp2_with (first
    | (go_at_call 16; (with_reducible (refine HL.out.mono ?_)); rintro e w1 ⟨rfl, hb1⟩; have HB := Lib.hid hb1; clear hb1)
    | (go_at_call 17; (with_reducible (refine (HR.out _ HB.out).mono ?_)); rintro e w2 ⟨rfl, rfl⟩))
  go_ret
  exact ⟨rfl, HB.out⟩
set_option maxRecDepth 100000 in
set_option maxHeartbeats 4000000 in
theorem room_due {w : World} {h : Nat} {K : Ly} {d : Sd} (H : Sh w h K d) (now : Nat) (hf : (firstC d.P.c).isSome = false) (hd : (advS d now).2.length ≠ 0) :
    Calls Try.prog 40 #[.pointer (some ⟨h, 0, none⟩), .int .u64 (now : Nat)] w fun e w' => ∃ A cap, e = .returned (.slice A (advS d now).2.length cap) ∧ Sl qf w' A cap (advS d now).2 ∧ Nw w.heap.size A ∧ Sh w' h K (advS d now).1 ∧ Ch K.X w w' := by
  obtain ⟨M, hp, v⟩ := H.ex
  have HL := Lib.hid (len_any_s v)
  have HR := Lib.hid (fun W hb => room_any (v.low (w' := W) hb))
  have HA := Lib.hid (fun W hb => adv_any (H.low (w' := W) hb) now)
  rw [pure_cnt hp] at HL
  rw [pure_len hp] at HR
  rw [first_cnt] at hf
  have hlt : ¬ cnt d.P.c < d.P.c.length := by simpa using hf
  have d1 : decide ((cnt d.P.c : Int) < (d.P.c.length : Nat)) = false := by simp; omega
  clear v hp H hf
  generalize cnt d.P.c = a at *
  generalize d.P.c.length = b at *
  obtain ⟨G, HG⟩ : ∃ G, Hid (advS d now = G) := ⟨_, Lib.hid rfl⟩
  simp only [HG.out] at HA hd ⊢
  obtain ⟨n, hn⟩ : ∃ n, G.2.length = n := ⟨_, rfl⟩
  have HN := Lib.hid hn
  rw [hn] at hd HA ⊢
  have d2 : decide ((0 : Int) < (n : Nat)) = true := by simp; omega
  have d3 : 0 < n := by omega
  clear hn hd
  go_enter Try.func40, Try.ntmps40
  go_wp2_with (first
    | (go_at_call 16; (with_reducible (refine HL.out.mono ?_)); rintro e w1 ⟨rfl, hb1⟩; have HB := Lib.hid hb1; clear hb1)
    | (go_at_call 17; (with_reducible (refine (HR.out _ HB.out).mono ?_)); rintro e w2 ⟨rfl, rfl⟩)
    | (go_at_call 24; (with_reducible (refine (HA.out _ HB.out).mono ?_)); rintro e w3 ⟨A3, c3, rfl, s3, n3, h3, k3⟩; have HF := Lib.hid (And.intro s3 (And.intro n3 (And.intro h3 k3))); clear s3 n3 h3 k3))
  go_ret
  exact ⟨A3, c3, rfl, HF.out.1, (fun b off e => Nat.le_trans HB.out.size (HF.out.2.1 b off e)), HF.out.2.2.1, (Ch.bel HB.out).trans HF.out.2.2.2⟩
set_option maxRecDepth 100000 in
set_option maxHeartbeats 4000000 in
theorem room_vic {w : World} {h : Nat} {K : Ly} {d : Sd} (H : Sh w h K d) (now : Nat) (hf : (firstC d.P.c).isSome = false) (hd : W.dueL d.l now = []) :
    Calls Try.prog 40 #[.pointer (some ⟨h, 0, none⟩), .int .u64 (now : Nat)] w fun e w' => ∃ A cap, e = .returned (.slice A 1 cap) ∧ Sl qf w' A cap [qAt d.P.c (vicS d).2] ∧ Nw w.heap.size A ∧ Sh w' h K (freeS (vicS d).1 (vicS d).2) ∧ Ch K.X w w' := by
  obtain ⟨M, hp, v⟩ := H.ex
  have HL := Lib.hid (len_any_s v)
  have HR := Lib.hid (fun W hb => room_any (v.low (w' := W) hb))
  have HA := Lib.hid (fun W hb => adv_any (H.low (w' := W) hb) now)
  rw [advS_none hd] at HA
  simp only [List.length_nil] at HA
  rw [pure_cnt hp] at HL
  rw [pure_len hp] at HR
  have hfn : firstC d.P.c = none := by cases hq : firstC d.P.c with | none => rfl | some i => rw [hq] at hf; cases hf
  obtain ⟨vi, hv, hvl, hvu⟩ := vicS_slot H.ok hfn
  rw [first_cnt] at hf
  have hlt : ¬ cnt d.P.c < d.P.c.length := by simpa using hf
  have d1 : decide ((cnt d.P.c : Int) < (d.P.c.length : Nat)) = false := by simp; omega
  have al := vic_alike H.ok.ok
  have hv2 : (vicS d).2 = vi := by unfold vicS; rw [hv]; rfl
  rw [hv2]
  obtain ⟨q, HQE⟩ : ∃ q, Hid (qAt d.P.c vi = q) := ⟨_, Lib.hid rfl⟩
  rw [HQE.out]
  have HVO := Lib.hid (vicS_ok H.ok)
  have hlen : (vicS d).1.P.c.length = d.P.c.length := al.len
  have hvk : vi < (vicS d).1.P.c.length := by rw [hlen]; exact hvl
  have hu2 : us (vicS d).1.P.c vi = true := by rw [show us (vicS d).1.P.c vi = us d.P.c vi from al.us vi]; exact hvu
  have HK := Lib.hid (And.intro hvk (And.intro hu2 (And.intro (freeS_ok (vicS_ok H.ok) hvk) (And.intro hv al))))
  have HSl := Lib.hid (fun q => (show slotOf (vicM d.P).1.c q = slotOf d.P.c q from al.slot H.ok.uq q))
  have HCn := Lib.hid (show cnt (vicM d.P).1.c = cnt d.P.c by
    have e1 : ∀ P : Ms En, cnt P.c = (allM P).length := fun P => by
      rw [← keys_len, keys_all, List.length_map]; rfl
    rw [e1, e1, vicM_all H.ok.ok])
  clear v hp H hf hfn hv hvl hvu hvk hu2 hlen al hd hv2
  generalize cnt d.P.c = a at HL d1 hlt
  generalize d.P.c.length = b at HR d1 hlt
  go_enter Try.func40, Try.ntmps40
  go_upto_region 6 with (first
    | (go_at_call 16; (with_reducible (refine HL.out.mono ?_)); rintro e w1 ⟨rfl, hb1⟩; have HB := Lib.hid hb1; clear hb1)
    | (go_at_call 17; (with_reducible (refine (HR.out _ HB.out).mono ?_)); rintro e w2 ⟨rfl, rfl⟩)
    | (go_at_call 24; (with_reducible (refine (HA.out _ HB.out).mono ?_)); rintro e w3 ⟨A3, c3, rfl, s3, n3, h3, k3⟩; have HF := Lib.hid (And.intro h3 ((Ch.bel HB.out).trans k3)); clear s3 n3 h3 k3))
  obtain ⟨M3, hp3, v3⟩ := HF.out.1.ex
  have hpv := pure_vic hp3
  have hvi : vicI M3 = vi := by unfold vicI; rw [hpv.2, HK.out.2.2.2.1]
  have hvc := vic_sv v3
  rw [hvi] at hvc
  have HVC := Lib.hid hvc
  have HP := Lib.hid hpv.1
  have c0 := v3.c0
  clear hvc hpv hvi hp3 v3
  generalize (vicB M3) = bb at *
  go_upto_region 7 with (go_at_call 53; (with_reducible (refine HVC.out.mono ?_)); rintro e w4 ⟨rfl, v4, k4⟩; have HV4 := Lib.hid (And.intro (v4.fun (fun q => (HSl.out q).symm) HCn.out.symm rfl) (HF.out.2.trans k4)); clear v4 k4)
  have hk4 : vi < (vicM M3).1.c.length := by rw [pure_len HP.out]; exact HK.out.1
  have hu4 : us (vicM M3).1.c vi = true := by rw [pure_us HP.out]; exact HK.out.2.1
  have hR := remove_any HV4.out.1 hk4 hu4
  have hq4 : ((vicM M3).1.c.getD vi Z0).x.e.q = qAt d.P.c vi := by
    rw [pure_x HP.out]
    have := HK.out.2.2.2.2.qAt vi
    exact this
  rw [hq4] at hR
  have hqq : ((vicM d.P).1.c.getD vi Z0).x.q = qAt d.P.c vi := HK.out.2.2.2.2.qAt vi
  have HSH := Lib.hid (fun (w5 : World) (v5 : Sv w5 h K ⟨(vicM M3).1.c.set vi Z0, (vicM M3).1.h⟩ (fun x => if x = qAt d.P.c vi then none else slotOf (vicM d.P).1.c x) (if (slotOf (vicM d.P).1.c (qAt d.P.c vi)).isSome then cnt (vicM d.P).1.c - 1 else cnt (vicM d.P).1.c) (W.delL d.l vi)) => (show Sh w5 h K (freeS (vicS d).1 vi) from ⟨HK.out.2.2.1, _, pure_set HP.out vi Z0, v5.fun (fun q => by rw [← hqq]; exact free_places HVO.out.uq HK.out.1 HK.out.2.1 q) (by rw [← hqq]; exact free_count HVO.out.uq HK.out.1 HK.out.2.1) rfl⟩))
  unfold qV at hR
  have HR5 := Lib.hid hR
  have HX := Lib.hid (fun (i : Nat) (hi : w4.heap.size ≤ i) => HV4.out.1.notX hi)
  clear hR hqq hq4 hu4 hk4 c0
  simp only [HQE.out] at HR5 HSH
  go_wp2_with (go_at_call 42; (with_reducible (refine HR5.out.mono ?_)); rintro e w5 ⟨rfl, v5, k5⟩; have HV5 := Lib.hid (And.intro v5 (And.intro (HV4.out.2.trans k5) k5)); clear v5 k5)
  go_ret
  have hb6 := (Below.refl w5.heap.size w5).alloc (Nat.le_refl _) (Obj.cells (qf q).toArray 35)
  exact ⟨_, 1, rfl, sl_one (blk_new_eq w5 35 (qf q).toArray), (fun b off e => by cases e; exact HV5.out.2.1.size), (HSH.out w5 HV5.out.1).low hb6, HV5.out.2.1.below hb6⟩
end Go.Proofs.Ytjjanogfcfapcaa

/- The contract of the program's shard: Insert. -/
namespace Go.Proofs.Ytjjanogfcfapcaa
open Go.RowKit
set_option linter.unusedVariables false

theorem room_all {w : World} {h : Nat} {K : Ly} {d : Sd} (H : Sh w h K d) (now : Nat) :
    Calls Try.prog 40 #[.pointer (some ⟨h, 0, none⟩), .int .u64 (now : Nat)] w fun e w' => ∃ A cap, e = .returned (.slice A (roomS d now).2.length cap) ∧ Sl qf w' A cap (roomS d now).2 ∧ Nw w.heap.size A ∧ Sh w' h K (roomS d now).1 ∧ Ch K.X w w' := by
  unfold roomS
  cases hf : (firstC d.P.c).isSome with
  | true =>
    simp only [if_true]
    exact (room_free H now hf).mono fun e w' ⟨he, hb⟩ => ⟨none, 0, he, Sl.nil _ _, (fun b off h => by cases h), H.low hb, Ch.bel hb⟩
  | false =>
    simp only [Bool.false_eq_true, if_false]
    have hL : (advS d now).2.length = (W.dueL d.l now).length := by unfold advS goneQ; rw [List.length_map]
    cases hd : W.dueL d.l now with
    | nil =>
      simp only [List.isEmpty_nil, if_true]
      exact room_vic H now hf hd
    | cons y r =>
      simp only [List.isEmpty_cons, Bool.false_eq_true, if_false]
      exact room_due H now hf (by rw [hL, hd]; simp)
theorem store_count {c : List (Ce En)} (hu : Uq c) {k : Nat} (hk : k < c.length) (e : En) (t : Bool) (h : us c k = true ∧ qAt c k = e.q ∨ us c k = false ∧ slotOf c e.q = none) : (if (slotOf c e.q).isSome then cnt c else cnt c + 1) = cnt (c.set k ⟨e, true, t⟩) := by
  have h2 := cnt_set (⟨e, true, t⟩ : Ce En) c k hk
  simp only [if_true] at h2
  rcases h with ⟨h1, h3⟩ | ⟨h1, h3⟩
  · rw [(slot_some hu).2 ⟨hk, h1, h3⟩]
    rw [h1] at h2
    simp only [Option.isSome_some, if_true] at h2 ⊢
    omega
  · rw [h3]
    rw [h1] at h2
    simp only [Option.isSome_none, Bool.false_eq_true, if_false] at h2 ⊢
    omega
theorem Sh.find {w : World} {h : Nat} {K : Ly} {d : Sd} (H : Sh w h K d) {q : Qu} {k : Nat} (hs : slotOf d.P.c q = some k) : k < d.P.c.length ∧ us d.P.c k = true ∧ qAt d.P.c k = q := (slot_some H.ok.uq).1 hs

set_option maxRecDepth 100000 in
set_option maxHeartbeats 2000000 in
theorem ins_nil (x : Ev) (now : Nat) (w : World) : Calls Try.prog 19 #[.pointer none, evV x, .int .u64 (now : Nat)] w fun e w' => e = .returned (.tuple #[.slice none 0 0, .int .i64 1]) ∧ Below w.heap.size w w' := by
  rw [evV_eq]
  have HB := Lib.hid ((Below.refl w.heap.size w).alloc (Nat.le_refl _) (Obj.cells (evL x).toArray 39))
  have HRo := Lib.hid (fun W => room_nil W)
  unfold evL at HB
  go_enter Try.func19, Try.ntmps19
  go_upto_region 1 with (fail)
  generalize w.alloc (Obj.cells #[.string x.e.q.n, .int .u16 (x.e.q.k : Nat), .int .u16 (x.e.q.c : Nat), .slice x.A x.e.l.length x.cap, .int .i64 x.e.rc, .int .i64 x.e.rk, .int .u64 (x.e.ex : Nat)] 39) = w1 at *
  go_wp2_with (go_at_call 17; (with_reducible (refine (HRo.out _).mono ?_)); rintro e w3 ⟨rfl, rfl⟩)
  go_ret2
  exact ⟨rfl, HB.out⟩
set_option maxRecDepth 100000 in
set_option maxHeartbeats 2000000 in
theorem ins_dead (x : Ev) (now : Nat) {w : World} {h : Nat} {K : Ly} {d : Sd} (H : Sh w h K d) (hd : x.e.ex ≤ now) :
    Calls Try.prog 19 #[.pointer (some ⟨h, 0, none⟩), evV x, .int .u64 (now : Nat)] w fun e w' => e = .returned (.tuple #[.slice none 0 0, .int .i64 4]) ∧ Below w.heap.size w w' := by
  rw [evV_eq]
  obtain ⟨M, hp, v⟩ := H.ex
  have hb := (Below.refl w.heap.size w).alloc (Nat.le_refl _) (Obj.cells (evL x).toArray 39)
  have HRo := Lib.hid (room_any (v.low hb))
  rw [pure_len hp] at HRo
  have n0 : ((d.P.c.length : Int) == 0) = false := by have := H.ok.ok.n1; rw [beq_eq_false_iff_ne]; omega
  have n1 : d.P.c.length ≠ 0 := by have := H.ok.ok.n1; omega
  have HL := Lib.hid (fun W => live_any x.e.ex now W)
  have HB := Lib.hid hb
  have HX := Lib.hid (blk_new_eq w 39 (evL x).toArray)
  have hl : decide (now < x.e.ex) = false := by simp; omega
  have hl2 : ¬ now < x.e.ex := by omega
  clear v hp H hb hd
  generalize d.P.c.length = n at *
  go_enter Try.func19, Try.ntmps19
  go_upto_region 1 with (fail)
  unfold evL at HB HX HRo
  generalize w.alloc (Obj.cells #[.string x.e.q.n, .int .u16 (x.e.q.k : Nat), .int .u16 (x.e.q.c : Nat), .slice x.A x.e.l.length x.cap, .int .i64 x.e.rc, .int .i64 x.e.rk, .int .u64 (x.e.ex : Nat)] 39) = w1 at *
  obtain ⟨e0, e1, e2, e3, e4, e5, e6⟩ := e_cells (x := x) HX.out
  clear e0 e1 e2 e3 e4 e5
  go_wp2_with (first | (go_at_call 17; (with_reducible (refine HRo.out.mono ?_)); rintro e w3 ⟨rfl, rfl⟩) | (go_at_call 35; (with_reducible (refine (HL.out _).mono ?_)); rintro e w4 ⟨rfl, rfl⟩))
  go_ret2
  exact ⟨rfl, HB.out⟩
set_option maxRecDepth 100000 in
set_option maxHeartbeats 4000000 in
theorem ins_low (x : Ev) (hq : x.e.q.Fine) (now : Nat) {w : World} {h : Nat} {K : Ly} {d : Sd} (H : Sh w h K d) (hd : ¬ x.e.ex ≤ now) {k : Nat} (hs : slotOf d.P.c x.e.q = some k) (hbt : btE (d.P.c.getD k Z0).x x.e now = false) :
    Calls Try.prog 19 #[.pointer (some ⟨h, 0, none⟩), evV x, .int .u64 (now : Nat)] w fun e w' => e = .returned (.tuple #[.slice none 0 0, .int .i64 7]) ∧ Below w.heap.size w w' := by
  rw [evV_eq]
  obtain ⟨M, hp, v⟩ := H.ex
  have hb := (Below.refl w.heap.size w).alloc (Nat.le_refl _) (Obj.cells (evL x).toArray 39)
  have HRo := Lib.hid (room_any (v.low hb))
  rw [pure_len hp] at HRo
  have n0 : ((d.P.c.length : Int) == 0) = false := by have := H.ok.ok.n1; rw [beq_eq_false_iff_ne]; omega
  have n1 : d.P.c.length ≠ 0 := by have := H.ok.ok.n1; omega
  have HL := Lib.hid (fun W => live_any x.e.ex now W)
  have HB := Lib.hid hb
  have HX := Lib.hid (blk_new_eq w 39 (evL x).toArray)
  have hl : decide (now < x.e.ex) = true := by simp; omega
  have hl2 : now < x.e.ex := by omega
  obtain ⟨hk, hu, hqk⟩ := H.find hs
  have HC := Lib.hid (find_some x.e.q hq (v.low hb) hs (by rw [pure_len hp]; exact hk) (by rw [pure_us hp]; exact hu))
  have hye := pure_x hp k
  obtain ⟨y, hy⟩ : ∃ y, (M.c.getD k Z0).x = y := ⟨_, rfl⟩
  rw [hy] at HC hye
  rw [← hye] at hbt
  have HBt := Lib.hid (fun W => beats_any y x now W)
  rw [hbt] at HBt
  rw [evV_eq, evV_eq] at HBt
  unfold qV at HC
  clear v hp H hb hd hk hu hqk hy hye hbt hs
  generalize d.P.c.length = n at *
  go_enter Try.func19, Try.ntmps19
  go_upto_region 1 with (fail)
  unfold evL at HB HX HRo HC
  generalize w.alloc (Obj.cells #[.string x.e.q.n, .int .u16 (x.e.q.k : Nat), .int .u16 (x.e.q.c : Nat), .slice x.A x.e.l.length x.cap, .int .i64 x.e.rc, .int .i64 x.e.rk, .int .u64 (x.e.ex : Nat)] 39) = w1 at *
  obtain ⟨e0, e1, e2, e3, e4, e5, e6⟩ := e_cells (x := x) HX.out
  go_upto_region 6 with (first | (refine wpList_store_row rfl 39 _ _ rfl w2.heap.size _ rfl rfl 39 _ HNw.out (infoEa y) rfl (evL_one y) ?_) | (go_at_call 17; (with_reducible (refine HRo.out.mono ?_)); rintro e w3 ⟨rfl, rfl⟩) | (go_at_call 35; (with_reducible (refine (HL.out _).mono ?_)); rintro e w4 ⟨rfl, rfl⟩) | (go_at_call 36; (with_reducible (refine HC.out.mono ?_)); rintro e w2 ⟨rfl, hb2⟩; have HB2 := Lib.hid hb2; have HNw := Lib.hid (Blk.new w2 39 zE); unfold zE at HNw; clear hb2))
  obtain ⟨k3, b3⟩ := box_of w2 y
  have b23 := HB2.out.trans (b3.mono HB2.out.size)
  have HF := Lib.hid (And.intro (HB.out.trans (b23.mono HB.out.size)) (And.intro k3 (HX.out.eq (b23.block _ HX.out.lt))))
  unfold zE at HF
  clear k3 b3 b23 HNw HB2 HC HX HB e0 e1 e2 e3 e4 e5 e6
  generalize (w2.alloc (Obj.cells #[.string ⟨#[]⟩, .int .u16 0, .int .u16 0, .slice none 0 0, .int .i64 0, .int .i64 0, .int .u64 0] 39)).setRow w2.heap.size (evL y).toArray = w5 at *
  generalize w2.heap.size = r at *
  obtain ⟨e0, e1, e2, e3, e4, e5, e6⟩ := e_cells (x := x) HF.out.2.2
  obtain ⟨g0, g1, g2, g3, g4, g5, g6⟩ := e_cells (x := y) HF.out.2.1
  go_wp2_with (go_at_call 37; (with_reducible (refine (HBt.out _).mono ?_)); rintro e w6 ⟨rfl, hb6⟩; have HF6 := Lib.hid (HF.out.1.trans (hb6.mono HF.out.1.size)); clear hb6)
  go_ret2
  exact ⟨rfl, HF6.out⟩
end Go.Proofs.Ytjjanogfcfapcaa

/- The contract of the program's shard: Insert, where the entry is taken. -/
namespace Go.Proofs.Ytjjanogfcfapcaa
open Go.RowKit
set_option linter.unusedVariables false

set_option maxRecDepth 100000 in
set_option maxHeartbeats 4000000 in
theorem ins_rep (x : Ev) (now : Nat) {w : World} {h : Nat} {K : Ly} {d : Sd} (H : Sh w h K d) (hx : Re K.X w x) (hd : ¬ x.e.ex ≤ now) {k : Nat} (hs : slotOf d.P.c x.e.q = some k) (hbt : btE (d.P.c.getD k Z0).x x.e now = true) :
    Calls Try.prog 19 #[.pointer (some ⟨h, 0, none⟩), evV x, .int .u64 (now : Nat)] w fun e w' => e = .returned (.tuple #[.slice none 0 0, .int .i64 0]) ∧ Sh w' h K (storeS d k x.e true) ∧ Ch K.X w w' := by
  rw [evV_eq]
  obtain ⟨M, hp, v⟩ := H.ex
  have hb := (Below.refl w.heap.size w).alloc (Nat.le_refl _) (Obj.cells (evL x).toArray 39)
  have HRo := Lib.hid (room_any (v.low hb))
  rw [pure_len hp] at HRo
  have n0 : ((d.P.c.length : Int) == 0) = false := by have := H.ok.ok.n1; rw [beq_eq_false_iff_ne]; omega
  have n1 : d.P.c.length ≠ 0 := by have := H.ok.ok.n1; omega
  have HL := Lib.hid (fun W => live_any x.e.ex now W)
  have HB := Lib.hid hb
  have HX := Lib.hid (blk_new_eq w 39 (evL x).toArray)
  have hl : decide (now < x.e.ex) = true := by simp; omega
  have hl2 : now < x.e.ex := by omega
  obtain ⟨hk, hu, hqk⟩ := H.find hs
  have hkM : k < M.c.length := by rw [pure_len hp]; exact hk
  have huM : us M.c k = true := by rw [pure_us hp]; exact hu
  have HC := Lib.hid (find_some x.e.q hx.q (v.low hb) hs hkM huM)
  have hye := pure_x hp k
  obtain ⟨y, hy⟩ : ∃ y, (M.c.getD k Z0).x = y := ⟨_, rfl⟩
  rw [hy] at HC hye
  rw [← hye] at hbt
  have HBt := Lib.hid (fun W => beats_any y x now W)
  rw [hbt] at HBt
  rw [evV_eq, evV_eq] at HBt
  unfold qV at HC
  have HNX := Lib.hid (fun (i : Nat) (hi : w.heap.size ≤ i) => v.notX hi)
  have HRe := Lib.hid hx
  have hl64 : d.l.length < 100000 := by have := ti_le H.ok.ti; have := H.ok.ok.n64; omega
  have HRp := Lib.hid (fun (w8 : World) (hb8 : Below w.heap.size w w8) (x' : Ev) (hx' : x'.e = x.e) (r8 : Re K.X w8 x') => (replace_any x' (v.low hb8) r8 hl64 hkM huM).mono (R' := fun e w9 => e = .returned (.tuple #[]) ∧ Sh w9 h K (storeS d k x.e true) ∧ Ch K.X w w9) (by
    rintro e w9 ⟨he, v9, hc9⟩
    have hn : ∀ j, j < d.P.c.length → us d.P.c j = true → qAt d.P.c j = x.e.q → j = k := fun j hj uj hq => H.ok.uq j k hj hk uj hu (by rw [hq, hqk])
    have hps := pure_set hp k ⟨x', true, true⟩
    rw [show (Ce.map Ev.e ⟨x', true, true⟩ : Ce En) = ⟨x.e, true, true⟩ by show (⟨x'.e, true, true⟩ : Ce En) = _; rw [hx']] at hps
    refine ⟨he, ⟨storeS_ok H.ok hk x.e true hn, _, hps, v9.fun (fun q => ?_) ?_ ?_⟩, (Ch.bel hb8).trans hc9⟩
    · show slotOf d.P.c q = slotOf (d.P.c.set k ⟨x.e, true, true⟩) q
      rw [slot_put H.ok.uq hk (e := ⟨x.e, true, true⟩) rfl hn (fun _ => hqk)]
      split
      · rename_i e; rw [e, hs]
      · rfl
    · show cnt d.P.c = cnt (d.P.c.set k ⟨x.e, true, true⟩)
      rw [← store_count H.ok.uq hk x.e true (.inl ⟨hu, hqk⟩), hs]
      rfl
    · show W.setL d.l k x'.e.ex = W.setL d.l k x.e.ex
      rw [hx']))
  clear v hp H hb hd hk hu hqk hy hye hbt hs hx hkM huM
  generalize d.P.c.length = n at *
  go_enter Try.func19, Try.ntmps19
  go_upto_region 1 with (fail)
  unfold evL at HB HX HRo HC
  generalize w.alloc (Obj.cells #[.string x.e.q.n, .int .u16 (x.e.q.k : Nat), .int .u16 (x.e.q.c : Nat), .slice x.A x.e.l.length x.cap, .int .i64 x.e.rc, .int .i64 x.e.rk, .int .u64 (x.e.ex : Nat)] 39) = w1 at *
  obtain ⟨e0, e1, e2, e3, e4, e5, e6⟩ := e_cells (x := x) HX.out
  go_upto_region 6 with (first | (refine wpList_store_row rfl 39 _ _ rfl w2.heap.size _ rfl rfl 39 _ HNw.out (infoEa y) rfl (evL_one y) ?_) | (go_at_call 17; (with_reducible (refine HRo.out.mono ?_)); rintro e w3 ⟨rfl, rfl⟩) | (go_at_call 35; (with_reducible (refine (HL.out _).mono ?_)); rintro e w4 ⟨rfl, rfl⟩) | (go_at_call 36; (with_reducible (refine HC.out.mono ?_)); rintro e w2 ⟨rfl, hb2⟩; have HB2 := Lib.hid hb2; have HNw := Lib.hid (Blk.new w2 39 zE); unfold zE at HNw; clear hb2))
  obtain ⟨k3, b3⟩ := box_of w2 y
  have b23 := HB2.out.trans (b3.mono HB2.out.size)
  have HF := Lib.hid (And.intro (HB.out.trans (b23.mono HB.out.size)) (And.intro k3 (HX.out.eq (b23.block _ HX.out.lt))))
  unfold zE at HF
  clear k3 b3 b23 HNw HB2 HC HX HB e0 e1 e2 e3 e4 e5 e6
  generalize (w2.alloc (Obj.cells #[.string ⟨#[]⟩, .int .u16 0, .int .u16 0, .slice none 0 0, .int .i64 0, .int .i64 0, .int .u64 0] 39)).setRow w2.heap.size (evL y).toArray = w5 at *
  generalize w2.heap.size = r at *
  obtain ⟨e0, e1, e2, e3, e4, e5, e6⟩ := e_cells (x := x) HF.out.2.2
  obtain ⟨g0, g1, g2, g3, g4, g5, g6⟩ := e_cells (x := y) HF.out.2.1
  go_upto_region 8 with (go_at_call 37; (with_reducible (refine (HBt.out _).mono ?_)); rintro e w6 ⟨rfl, hb6⟩; have HF6 := Lib.hid (And.intro (HF.out.1.trans (hb6.mono HF.out.1.size)) (HF.out.2.2.eq (hb6.block _ HF.out.2.2.lt))); clear hb6)
  clear e0 e1 e2 e3 e4 e5 e6 g0 g1 g2 g3 g4 g5 g6 HF
  have HE3 := Lib.hid ((e_cells (x := x) HF6.out.2).2.2.2.1)
  have HCl := Lib.hid (clone_any x.A x.cap x.e.l HRe.out.sm w6 (HRe.out.low HF6.out.1).sl)
  have e3 := HE3.out
  go_upto_region 9 with (go_at_call 38; (with_reducible (refine HCl.out.mono ?_)); rintro e w7 ⟨A', cap', rfl, sl7, nw7, hb7⟩; have HS7 := Lib.hid (And.intro sl7 (And.intro nw7 hb7)); have g3 := (HF6.out.2.eq (hb7.block _ HF6.out.2.lt)).frozen 3; have d3 := (hb7.cell (p := ⟨w.heap.size, 3, none⟩) HF6.out.2.lt).trans HE3.out; clear sl7 nw7 hb7)
  clear e3 g3 d3 HE3
  have hb7 := HS7.out.2.2
  have k8 : Blk (w7.setCell ⟨w.heap.size, 3, none⟩ (.slice A' x.e.l.length cap')) w.heap.size 39 (evL ⟨x.e, A', cap'⟩).toArray := (HF6.out.2.eq (hb7.block _ HF6.out.2.lt)).set_ 3 (.slice A' x.e.l.length cap')
  have b8 : Below w.heap.size w (w7.setCell ⟨w.heap.size, 3, none⟩ (.slice A' x.e.l.length cap')) := (HF6.out.1.trans (hb7.mono HF6.out.1.size)).setCell (p := ⟨w.heap.size, 3, none⟩) (Nat.le_refl _) _
  have s8 : Sl rf (w7.setCell ⟨w.heap.size, 3, none⟩ (.slice A' x.e.l.length cap')) A' cap' x.e.l := by
    refine HS7.out.1.ch (X := fun i => i = w.heap.size) ⟨rfl, rfl, rfl, by simp, fun i _ hi => Below.heap_setCell w7 ⟨w.heap.size, 3, none⟩ _ i hi⟩ (fun b off hb _ e => ?_)
    have h1 := HS7.out.2.1 b off hb
    have h2 := HF6.out.2.lt
    omega
  have r8 : Re K.X (w7.setCell ⟨w.heap.size, 3, none⟩ (.slice A' x.e.l.length cap')) ⟨x.e, A', cap'⟩ := ⟨s8, (fun b off e _ => HNX.out b (by have h1 := HS7.out.2.1 b off e; have h2 := HF6.out.2.lt; omega)), HRe.out.q, HRe.out.ex, HRe.out.sm⟩
  have HK8 := Lib.hid (And.intro k8 (And.intro b8 r8))
  clear hb7 k8 b8 s8 r8 HS7 HCl HF6
  generalize w7.setCell ⟨w.heap.size, 3, none⟩ (.slice A' x.e.l.length cap') = w8 at *
  have hR := HRp.out w8 HK8.out.2.1 ⟨x.e, A', cap'⟩ rfl HK8.out.2.2
  unfold evV at hR
  have HR := Lib.hid hR
  clear hR HRp
  go_wp2_with (first | (refine wpList_load_row rfl 39 _ rfl w.heap.size rfl 39 _ _ _ HK8.out.1 Try.underlying39 rfl infoE ?_) | (go_at_call 39; (with_reducible (refine HR.out.mono ?_)); rintro e w9 ⟨rfl, h9, k9⟩; have HF9 := Lib.hid (And.intro h9 k9); clear h9 k9))
  go_ret2
  exact ⟨rfl, HF9.out⟩
set_option maxRecDepth 100000 in
set_option maxHeartbeats 4000000 in
theorem ins_new (x : Ev) (now : Nat) {w : World} {h : Nat} {K : Ly} {d : Sd} (H : Sh w h K d) (hx : Re K.X w x) (hd : ¬ x.e.ex ≤ now) (hs : slotOf d.P.c x.e.q = none) :
    Calls Try.prog 19 #[.pointer (some ⟨h, 0, none⟩), evV x, .int .u64 (now : Nat)] w fun e w' => ∃ A cap, e = .returned (.tuple #[.slice A (roomS d now).2.length cap, .int .i64 0]) ∧ Sl qf w' A cap (roomS d now).2 ∧ Nw w.heap.size A ∧ Sh w' h K (putS (roomS d now).1 x.e) ∧ Ch K.X w w' := by
  rw [evV_eq]
  obtain ⟨M, hp, v⟩ := H.ex
  have hb := (Below.refl w.heap.size w).alloc (Nat.le_refl _) (Obj.cells (evL x).toArray 39)
  have HRo := Lib.hid (room_any (v.low hb))
  rw [pure_len hp] at HRo
  have n0 : ((d.P.c.length : Int) == 0) = false := by have := H.ok.ok.n1; rw [beq_eq_false_iff_ne]; omega
  have n1 : d.P.c.length ≠ 0 := by have := H.ok.ok.n1; omega
  have HL := Lib.hid (fun W => live_any x.e.ex now W)
  have HB := Lib.hid hb
  have HX := Lib.hid (blk_new_eq w 39 (evL x).toArray)
  have hl : decide (now < x.e.ex) = true := by simp; omega
  have hl2 : now < x.e.ex := by omega
  have HC := Lib.hid (find_none x.e.q hx.q (v.low hb) hs)
  unfold qV at HC
  have HNX := Lib.hid (fun (i : Nat) (hi : w.heap.size ≤ i) => v.notX hi)
  have HRe := Lib.hid hx
  have HRm := Lib.hid (fun W hb => room_all (H.low (w' := W) hb) now)
  obtain ⟨r1, r2, r3, r4⟩ := roomS_ok H.ok now
  obtain ⟨G, HG⟩ : ∃ G, Hid (roomS d now = G) := ⟨_, Lib.hid rfl⟩
  have r5 := r4 _ hs
  simp only [HG.out] at HRm r1 r2 r3 r5 ⊢
  have HAd := Lib.hid (fun (w8 : World) (H8 : Sh w8 h K G.1) (x' : Ev) (hx' : x'.e = x.e) (r8 : Re K.X w8 x') => (show Calls Try.prog 41 #[.pointer (some ⟨h, 0, none⟩), evV x'] w8 (fun e w9 => e = .returned (.tuple #[]) ∧ Sh w9 h K (putS G.1 x.e) ∧ Ch K.X w8 w9) from by
    obtain ⟨M8, p8, v8⟩ := H8.ex
    obtain ⟨i, hi⟩ := Option.isSome_iff_exists.1 r3
    have hiM : firstC M8.c = some i := by rw [pure_first p8]; exact hi
    obtain ⟨i1, i2, i3⟩ := first_of hi
    have hl64 : G.1.l.length < 100000 := by have := ti_le H8.ok.ti; have := H8.ok.ok.n64; omega
    have hN64 : cnt G.1.P.c < 1000 := by have := cnt_le G.1.P.c; have := H8.ok.ok.n64; omega
    refine (add_any x' v8 r8 hl64 hN64 hiM).mono ?_
    rintro e w9 ⟨he, v9, hc9⟩
    have hn : ∀ j, j < G.1.P.c.length → us G.1.P.c j = true → qAt G.1.P.c j = x.e.q → j = i := fun j hj uj hq => absurd hq (slot_none.1 r5 j hj uj)
    have hps := pure_set p8 i ⟨x', true, false⟩
    rw [show (Ce.map Ev.e ⟨x', true, false⟩ : Ce En) = ⟨x.e, true, false⟩ by show (⟨x'.e, true, false⟩ : Ce En) = _; rw [hx']] at hps
    have hput : putS G.1 x.e = storeS G.1 i x.e false := by unfold putS; rw [hi]
    rw [hput]
    refine ⟨he, ⟨storeS_ok H8.ok i1 x.e false hn, _, hps, v9.fun (fun q => ?_) ?_ ?_⟩, hc9⟩
    · show (if q = x'.e.q then some i else slotOf G.1.P.c q) = slotOf (G.1.P.c.set i ⟨x.e, true, false⟩) q
      rw [slot_put H8.ok.uq i1 (e := ⟨x.e, true, false⟩) rfl hn (fun e => by rw [i2] at e; cases e), hx']
    · show (if (slotOf G.1.P.c x'.e.q).isSome then cnt G.1.P.c else cnt G.1.P.c + 1) = cnt (G.1.P.c.set i ⟨x.e, true, false⟩)
      rw [hx']
      exact store_count H8.ok.uq i1 x.e false (.inr ⟨i2, r5⟩)
    · show W.setL G.1.l i x'.e.ex = W.setL G.1.l i x.e.ex
      rw [hx']))
  clear v hp H hb hd hs hx r1 r2 r3 r4 r5
  generalize d.P.c.length = n at *
  go_enter Try.func19, Try.ntmps19
  go_upto_region 1 with (fail)
  unfold evL at HB HX HRo HC
  generalize w.alloc (Obj.cells #[.string x.e.q.n, .int .u16 (x.e.q.k : Nat), .int .u16 (x.e.q.c : Nat), .slice x.A x.e.l.length x.cap, .int .i64 x.e.rc, .int .i64 x.e.rk, .int .u64 (x.e.ex : Nat)] 39) = w1 at *
  obtain ⟨e0, e1, e2, e3, e4, e5, e6⟩ := e_cells (x := x) HX.out
  go_upto_region 6 with (first | (refine wpList_store_row rfl 39 _ _ rfl w2.heap.size _ rfl rfl 39 _ HNw.out (infoEa (default : Ev)) rfl (evL_one (default : Ev)) ?_) | (go_at_call 17; (with_reducible (refine HRo.out.mono ?_)); rintro e w3 ⟨rfl, rfl⟩) | (go_at_call 35; (with_reducible (refine (HL.out _).mono ?_)); rintro e w4 ⟨rfl, rfl⟩) | (go_at_call 36; (with_reducible (refine HC.out.mono ?_)); rintro e w2 ⟨rfl, hb2⟩; have HB2 := Lib.hid hb2; have HNw := Lib.hid (Blk.new w2 39 zE); unfold zE at HNw; clear hb2))
  obtain ⟨k3, b3⟩ := box_of w2 (default : Ev)
  have b23 := HB2.out.trans (b3.mono HB2.out.size)
  have HF := Lib.hid (And.intro (HB.out.trans (b23.mono HB.out.size)) (And.intro k3 (HX.out.eq (b23.block _ HX.out.lt))))
  unfold zE at HF
  clear k3 b3 b23 HNw HB2 HC HX HB e0 e1 e2 e3 e4 e5 e6
  generalize (w2.alloc (Obj.cells #[.string ⟨#[]⟩, .int .u16 0, .int .u16 0, .slice none 0 0, .int .i64 0, .int .i64 0, .int .u64 0] 39)).setRow w2.heap.size (evL (default : Ev)).toArray = w5 at *
  generalize w2.heap.size = r at *
  obtain ⟨e0, e1, e2, e3, e4, e5, e6⟩ := e_cells (x := x) HF.out.2.2
  go_upto_region 8 with (fail)
  have HF6 := Lib.hid (And.intro HF.out.1 HF.out.2.2)
  obtain ⟨w6, hw6⟩ : ∃ w6 : World, w6 = w5 := ⟨_, rfl⟩
  rw [← hw6] at HF6 ⊢
  clear e0 e1 e2 e3 e4 e5 e6 HF hw6
  have HE3 := Lib.hid ((e_cells (x := x) HF6.out.2).2.2.2.1)
  have HCl := Lib.hid (clone_any x.A x.cap x.e.l HRe.out.sm w6 (HRe.out.low HF6.out.1).sl)
  have e3 := HE3.out
  go_upto_region 9 with (go_at_call 38; (with_reducible (refine HCl.out.mono ?_)); rintro e w7 ⟨A', cap', rfl, sl7, nw7, hb7⟩; have HS7 := Lib.hid (And.intro sl7 (And.intro nw7 hb7)); have g3 := (HF6.out.2.eq (hb7.block _ HF6.out.2.lt)).frozen 3; have d3 := (hb7.cell (p := ⟨w.heap.size, 3, none⟩) HF6.out.2.lt).trans HE3.out; clear sl7 nw7 hb7)
  clear e3 g3 d3 HE3
  have hb7 := HS7.out.2.2
  have k8 : Blk (w7.setCell ⟨w.heap.size, 3, none⟩ (.slice A' x.e.l.length cap')) w.heap.size 39 (evL ⟨x.e, A', cap'⟩).toArray := (HF6.out.2.eq (hb7.block _ HF6.out.2.lt)).set_ 3 (.slice A' x.e.l.length cap')
  have b8 : Below w.heap.size w (w7.setCell ⟨w.heap.size, 3, none⟩ (.slice A' x.e.l.length cap')) := (HF6.out.1.trans (hb7.mono HF6.out.1.size)).setCell (p := ⟨w.heap.size, 3, none⟩) (Nat.le_refl _) _
  have s8 : Sl rf (w7.setCell ⟨w.heap.size, 3, none⟩ (.slice A' x.e.l.length cap')) A' cap' x.e.l := by
    refine HS7.out.1.ch (X := fun i => i = w.heap.size) ⟨rfl, rfl, rfl, by simp, fun i _ hi => Below.heap_setCell w7 ⟨w.heap.size, 3, none⟩ _ i hi⟩ (fun b off hb _ e => ?_)
    have h1 := HS7.out.2.1 b off hb
    have h2 := HF6.out.2.lt
    omega
  have r8 : Re K.X (w7.setCell ⟨w.heap.size, 3, none⟩ (.slice A' x.e.l.length cap')) ⟨x.e, A', cap'⟩ := ⟨s8, (fun b off e _ => HNX.out b (by have h1 := HS7.out.2.1 b off e; have h2 := HF6.out.2.lt; omega)), HRe.out.q, HRe.out.ex, HRe.out.sm⟩
  have HK8 := Lib.hid (And.intro k8 (And.intro b8 r8))
  clear hb7 k8 b8 s8 r8 HS7 HCl HF6
  generalize w7.setCell ⟨w.heap.size, 3, none⟩ (.slice A' x.e.l.length cap') = w8 at *
  go_upto_region 13 with (go_at_call 40; (with_reducible (refine (HRm.out _ HK8.out.2.1).mono ?_)); rintro e w9 ⟨A9, c9, rfl, s9, n9, h9, k9⟩; have HF9 := Lib.hid (And.intro s9 (And.intro n9 (And.intro h9 k9))); clear s9 n9 h9 k9)
  have k9 := HF9.out.2.2.2
  have hk9 := HK8.out.1.ch k9 (HNX.out _ (Nat.le_refl _))
  have hR := HAd.out w9 HF9.out.2.2.1 ⟨x.e, A', cap'⟩ rfl (HK8.out.2.2.ch k9)
  unfold evV at hR
  have HR := Lib.hid hR
  have HK9 := Lib.hid hk9
  clear hR HAd k9 hk9
  go_wp2_with (first | (refine wpList_load_row rfl 39 _ rfl w.heap.size rfl 39 _ _ _ HK9.out Try.underlying39 rfl infoE ?_) | (go_at_call 41; (with_reducible (refine HR.out.mono ?_)); rintro e w10 ⟨rfl, h10, k10⟩; have HF10 := Lib.hid (And.intro h10 k10); clear h10 k10))
  have hnw : Nw w.heap.size A9 := fun b off e => Nat.le_trans HK8.out.2.1.size (HF9.out.2.1 b off e)
  have HFin := Lib.hid (And.intro (HF9.out.1.ch HF10.out.2 (fun b off e _ => HNX.out b (hnw b off e))) (And.intro hnw (And.intro HF10.out.1 ((Ch.bel HK8.out.2.1).trans (HF9.out.2.2.2.trans HF10.out.2)))))
  clear hnw
  go_ret2
  exact ⟨A9, c9, rfl, HFin.out⟩
end Go.Proofs.Ytjjanogfcfapcaa

/- The contracts of the program's shard, each deed in one form; New. -/
namespace Go.Proofs.Ytjjanogfcfapcaa
open Go.RowKit
set_option linter.unusedVariables false
section
variable {w : World} {h : Nat} {K : Ly} {d : Sd}
theorem ins_any (H : Sh w h K d) (x : Ev) (hx : Re K.X w x) (now : Nat) :
    Calls Try.prog 19 #[.pointer (some ⟨h, 0, none⟩), evV x, .int .u64 (now : Nat)] w fun e w' => ∃ A cap, e = .returned (.tuple #[.slice A (insS d x.e now).2.1.length cap, .int .i64 (insS d x.e now).2.2]) ∧
      Sl qf w' A cap (insS d x.e now).2.1 ∧ Nw w.heap.size A ∧ Sh w' h K (insS d x.e now).1 ∧ Ch K.X w w' := by
  have nonew : ∀ {w' : World}, Nw w'.heap.size none := fun b off e => by cases e
  unfold insS
  by_cases hd : x.e.ex ≤ now
  · rw [if_pos hd]
    exact (ins_dead x now H hd).mono fun e w' ⟨he, hb⟩ => ⟨none, 0, he, Sl.nil _ _, nonew, H.low hb, Ch.bel hb⟩
  · rw [if_neg hd]
    cases hs : slotOf d.P.c x.e.q with
    | none => exact ins_new x now H hx hd hs
    | some k =>
      simp only
      cases hb : btE (d.P.c.getD k Z0).x x.e now with
      | false =>
        simp only [Bool.false_eq_true, if_false]
        exact (ins_low x hx.q now H hd hs hb).mono fun e w' ⟨he, hb⟩ => ⟨none, 0, he, Sl.nil _ _, nonew, H.low hb, Ch.bel hb⟩
      | true =>
        simp only [if_true]
        exact (ins_rep x now H hx hd hs hb).mono fun e w' ⟨he, hh, hc⟩ => ⟨none, 0, he, Sl.nil _ _, nonew, hh, hc⟩
theorem look_any (H : Sh w h K d) (q : Qu) (hq : q.Fine) (now : Nat) :
    Calls Try.prog 22 #[.pointer (some ⟨h, 0, none⟩), qV q, .int .u64 (now : Nat)] w fun e w' => ∃ A cap, e = .returned (.tuple #[evV ⟨(lookS d q now).2.1, A, cap⟩, .bool (lookS d q now).2.2]) ∧
      Sl rf w' A cap (lookS d q now).2.1.l ∧ Nw w.heap.size A ∧ Sh w' h K (lookS d q now).1 ∧ Ch K.X w w' := by
  have nonew : ∀ {w' : World}, Nw w'.heap.size none := fun b off e => by cases e
  obtain ⟨M, hp, v⟩ := H.ex
  unfold lookS
  cases hs : slotOf d.P.c q with
  | none => exact (look_none q hq now v hs).mono fun e w' ⟨he, hb⟩ => ⟨none, 0, he, Sl.nil _ _, nonew, H.low hb, Ch.bel hb⟩
  | some k =>
    obtain ⟨hk, hu, hqk⟩ := H.find hs
    have hkM : k < M.c.length := by rw [pure_len hp]; exact hk
    have huM : us M.c k = true := by rw [pure_us hp]; exact hu
    have hx := pure_x hp k
    simp only
    by_cases hl : now < (d.P.c.getD k Z0).x.ex
    · rw [if_pos hl]
      refine (look_live q hq now v hs hkM huM (by rw [hx]; exact hl)).mono ?_
      rintro e w' ⟨A, cap, he, sl, nw, v', hc⟩
      rw [hx] at he sl
      refine ⟨A, cap, he, sl, nw, ⟨touchS_ok H.ok hk hu, _, ?_, v'.fun (fun q' => ?_) ?_ rfl⟩, hc⟩
      · rw [pure_set hp k]
        show (⟨d.P.c.set k ⟨(M.c.getD k Z0).x.e, true, true⟩, d.P.h⟩ : Ms En) = _
        rw [hx]
        rfl
      · exact ((touch_alike d.P.c hk hu).slot H.ok.uq q').symm
      · have := cnt_set (⟨(d.P.c.getD k Z0).x, true, true⟩ : Ce En) d.P.c k hk
        rw [hu] at this
        simp only [if_true] at this
        show cnt d.P.c = cnt (d.P.c.set k ⟨(d.P.c.getD k Z0).x, true, true⟩)
        omega
    · rw [if_neg hl]
      exact (look_late q hq now v hs hkM huM (by rw [hx]; exact hl)).mono fun e w' ⟨he, hb⟩ => ⟨none, 0, he, Sl.nil _ _, nonew, H.low hb, Ch.bel hb⟩
theorem ev_any (H : Sh w h K d) (q : Qu) (hq : q.Fine) :
    Calls Try.prog 21 #[.pointer (some ⟨h, 0, none⟩), qV q] w fun e w' => e = .returned (.bool (evS d q).2) ∧ Sh w' h K (evS d q).1 ∧ Ch K.X w w' := by
  obtain ⟨M, hp, v⟩ := H.ex
  unfold evS
  cases hs : slotOf d.P.c q with
  | none => exact (evict_none q hq v hs).mono fun e w' ⟨he, hb⟩ => ⟨he, H.low hb, Ch.bel hb⟩
  | some k =>
    obtain ⟨hk, hu, hqk⟩ := H.find hs
    have hkM : k < M.c.length := by rw [pure_len hp]; exact hk
    have huM : us M.c k = true := by rw [pure_us hp]; exact hu
    have hx := pure_x hp k
    refine (evict_some q hq v hs hkM huM).mono ?_
    rintro e w' ⟨he, v', hc⟩
    rw [hx] at v'
    exact ⟨he, ⟨freeS_ok H.ok hk, _, pure_set hp k Z0, v'.fun (fun q => free_places H.ok.uq hk hu q) (free_count H.ok.uq hk hu) rfl⟩, hc⟩
theorem keys_s (H : Sh w h K d) :
    Calls Try.prog 14 #[.pointer (some ⟨h, 0, none⟩)] w fun e w' => ∃ A cap, e = .returned (.slice A (keysOf d.P.c).length cap) ∧ Sl qf w' A cap (keysOf d.P.c) ∧ Nw w.heap.size A ∧ Below w.heap.size w w' := by
  obtain ⟨M, hp, v⟩ := H.ex
  have := keys_any v
  rw [show pc M.c = d.P.c by rw [← hp]; rfl] at this
  exact this
theorem len_s (H : Sh w h K d) :
    Calls Try.prog 16 #[.pointer (some ⟨h, 0, none⟩)] w fun e w' => e = .returned (.int .i64 ((keysOf d.P.c).length : Nat)) ∧ Below w.heap.size w w' := by
  obtain ⟨M, hp, v⟩ := H.ex
  have := len_any_s v
  rw [pure_cnt hp, ← keys_len] at this
  exact this
theorem room_s (H : Sh w h K d) :
    Calls Try.prog 17 #[.pointer (some ⟨h, 0, none⟩)] w fun e w' => e = .returned (.int .i64 (d.P.c.length : Nat)) ∧ w' = w := by
  obtain ⟨M, hp, v⟩ := H.ex
  have := room_any v
  rw [pure_len hp] at this
  exact this
end
/-- Where there may not be such slots. -/
theorem new_bad (r : Int) (hr : r < 1 ∨ 64 < r) (s : Int) (w : World) :
    Calls Try.prog 10 #[.int .i64 r, .int .i64 s] w fun e w' => e = .returned (.pointer none) ∧ Below w.heap.size w w' := by
  have HC := Lib.hid (fun V => new_no r hr V)
  have HW := Lib.hid (fun V => (show Calls Try.prog 27 #[.int .i64 s] V (fun e w' => (∃ p, e = .returned (.pointer p)) ∧ Below V.heap.size V w') from by
    by_cases hs : s < 1 ∨ 256 < s
    · exact (W.new_none s hs V).mono fun e w' ⟨he, hw⟩ => ⟨⟨_, he⟩, by rw [hw]; exact Below.refl _ _⟩
    · obtain ⟨n, rfl⟩ : ∃ n : Nat, s = n := ⟨s.toNat, by omega⟩
      exact (W.new_any n (by omega) (by omega) V).mono fun e w' ⟨g, sb, bm, he, _, hb, _⟩ => ⟨⟨_, he⟩, hb⟩))
  go_enter Try.func10, Try.ntmps10
  go_wp2_with (first
    | (go_at_call 26; (with_reducible (refine (HC.out _).mono ?_)); rintro e w1 ⟨rfl, rfl⟩)
    | (go_at_call 27; (with_reducible (refine (HW.out _).mono ?_)); rintro e w2 ⟨⟨p, rfl⟩, hb2⟩; have HB := Lib.hid hb2; clear hb2))
  go_ret
  exact ⟨rfl, HB.out⟩
theorem new_bad2 (r : Nat) (h1 : 1 ≤ r) (h2 : r ≤ 64) (s : Int) (hs : s < 1 ∨ 256 < s) (w : World) :
    Calls Try.prog 10 #[.int .i64 (r : Nat), .int .i64 s] w fun e w' => e = .returned (.pointer none) ∧ Below w.heap.size w w' := by
  have HC := Lib.hid (fun V => new_any r h1 h2 V)
  have HW := Lib.hid (fun V => W.new_none s hs V)
  go_enter Try.func10, Try.ntmps10
  go_wp2_with (first
    | (go_at_call 26; (with_reducible (refine (HC.out _).mono ?_)); rintro e w1 ⟨rfl, _, hb1, _⟩; have HB := Lib.hid hb1; clear hb1)
    | (go_at_call 27; (with_reducible (refine (HW.out _).mono ?_)); rintro e w2 ⟨rfl, rfl⟩))
  go_ret
  exact ⟨rfl, HB.out⟩
theorem newS_cnt (n : Nat) : cnt (newM n : Ms En).c = 0 := by
  show ((List.replicate n (Z0 : Ce En)).filter (·.u)).length = 0
  rw [List.filter_replicate]
  rfl
theorem newS_slot (n : Nat) (q : Qu) : slotOf (newM n : Ms En).c q = none := by
  rw [slot_none]
  intro k hk hu
  have : us (newM n : Ms En).c k = false := by
    unfold us newM
    simp only [List.getD_eq_getElem?_getD, List.getElem?_replicate]
    split <;> rfl
  rw [this] at hu
  cases hu
set_option maxHeartbeats 2000000 in
theorem new_s (r s : Nat) (h1 : 1 ≤ r) (h2 : r ≤ 64) (s1 : 1 ≤ s) (s2 : s ≤ 256) (w : World) :
    Calls Try.prog 10 #[.int .i64 (r : Nat), .int .i64 (s : Nat)] w fun e w' => ∃ h K, e = .returned (.pointer (some ⟨h, 0, none⟩)) ∧ Sh w' h K (newS r) ∧ Below w.heap.size w w' ∧ (∀ i, K.X i → w.heap.size ≤ i) := by
  have HC := Lib.hid (fun V => new_any r h1 h2 V)
  have HW := Lib.hid (fun V => W.new_any s s1 s2 V)
  have hmm := @run_makeMap Try.prog 69
  go_enter Try.func10, Try.ntmps10
  go_wp2_with (first
    | (go_at_call 26; (with_reducible (refine (HC.out _).mono ?_)); rintro e w1 ⟨rfl, sp1, hb1, z1⟩; have HS := Lib.hid (And.intro sp1 (And.intro hb1 z1)); clear sp1 hb1 z1)
    | (go_at_call 27; (with_reducible (refine (HW.out _).mono ?_)); rintro e w2 ⟨g, sb, bm, rfl, wl2, hb2, q1, q2, q3⟩; have HS2 := Lib.hid (And.intro wl2 (And.intro hb2 (And.intro q1 (And.intro q2 q3)))); clear wl2 hb2 q1 q2 q3))
  go_ret
  have a1 := HS.out.2.2
  have a2 := cell_size HS2.out.1.c0
  have a3 := cell_size (HS2.out.1.e0 0 HS2.out.1.pos)
  have a4 := HS2.out.2.2.1
  have a5 := HS2.out.2.2.2.1
  have a6 := HS2.out.2.1.size
  simp only at a2 a3
  have hbm := (Below.refl w2.heap.size w2).alloc (Nat.le_refl _) (Obj.map #[] 0)
  have pm3 := pm_made w2
  have z3 : (w2.alloc (Obj.map #[] 0)).heap.size = w2.heap.size + 1 := by simp
  have hp2 : w2.heap.size < (w2.alloc (Obj.map #[] 0)).heap.size := by omega
  generalize w2.alloc (Obj.map #[] 0) = w3 at *
  have hb4 := (Below.refl w3.heap.size w3).alloc (Nat.le_refl _) (Obj.cells #[.pointer (some ⟨w.heap.size + 1, 0, none⟩), .map (some w2.heap.size), .pointer (some ⟨g, 0, none⟩)] 71)
  have bh4 := blk_new_eq w3 71 #[.pointer (some ⟨w.heap.size + 1, 0, none⟩), .map (some w2.heap.size), .pointer (some ⟨g, 0, none⟩)]
  rw [z3] at bh4
  have b24 := hbm.trans (hb4.mono hbm.size)
  have b14 := HS2.out.2.1.trans (b24.mono HS2.out.2.1.size)
  have b04 := HS.out.2.1.trans (b14.mono HS.out.2.1.size)
  refine ⟨w2.heap.size + 1, ⟨w.heap.size + 1, w.heap.size, w2.heap.size, g, sb, s, bm⟩, rfl, ⟨newS_ok h1 h2, newM r, newM_pure r, ?_⟩, b04, ?_⟩
  · refine ⟨⟨by simp, by simp only; omega, by simp only; omega, fun j hj => by have := HS2.out.2.2.2.2 j hj; simp only; omega, a2, a3, fun j hj => (HS2.out.1.mp j hj).lt, by simp⟩, bh4, HS.out.1.keep b14, ?_, ?_, fun k => ?_⟩
    · have e1 : cnt (newS r).P.c = 0 := newS_cnt r
      rw [e1]
      exact (pm3.block (hb4.block _ (by omega))).congr (fun q => (newS_slot r q).symm)
    · exact HS2.out.1.ch (X := fun _ => False) (Ch.bel b24) (fun e => e) (fun e => e) (fun _ _ e => e)
    · have : ((newM r : Ms Ev).c.getD k Z0).x = default := by
        unfold newM
        simp only [List.getD_eq_getElem?_getD, List.getElem?_replicate]
        split <;> rfl
      rw [this]
      exact Re.zero _ _
  · rintro i (e | e | e | ⟨j, hj, e⟩)
    · rw [e]; simp only; omega
    · rw [e]; exact Nat.le_refl _
    · rw [e]; simp only; omega
    · rw [e]; have := HS2.out.2.2.2.2 j hj; simp only; omega
end Go.Proofs.Ytjjanogfcfapcaa

/- Entries, deeds of shards, slices of deeds and questions as arguments are read. -/
namespace Go.Proofs.Ytjjanogfcfapcaa
open Go.ChangeShapes Go.WideShapes Go.ChangeAt Go.RowKit Go.Deep
set_option linter.unusedVariables false
theorem laidOut : laidOutB Try.prog = true := by kernel_rfl
theorem readE : Try.prog.readableRec 39 = true := by kernel_rfl
theorem sizeE : 39 < Try.prog.types.size := by decide +kernel
theorem readD : Try.prog.readableRec 41 = true := by kernel_rfl
theorem sizeD : 41 < Try.prog.types.size := by decide +kernel
theorem readZ : Try.prog.readableRec 22 = true := by kernel_rfl
theorem sizeZ : 22 < Try.prog.types.size := by decide +kernel
theorem readq : Try.prog.readableRec 35 = true := by kernel_rfl
theorem sizeq : 35 < Try.prog.types.size := by decide +kernel
theorem cell_E : Try.prog.cellsOf 39 = 7 := by kernel_rfl
theorem cell_D : Try.prog.cellsOf 41 = 9 := by kernel_rfl
theorem cell_R : Try.prog.cellsOf 89 = 5 := by kernel_rfl
theorem cell_Rs : Try.prog.cellsOf 36 = 1 := by kernel_rfl
theorem cell_u16 : Try.prog.cellsOf 33 = 1 := by kernel_rfl
theorem cell_u32 : Try.prog.cellsOf 87 = 1 := by kernel_rfl
theorem cell_u64 : Try.prog.cellsOf 37 = 1 := by kernel_rfl
theorem cell_int : Try.prog.cellsOf 3 = 1 := by kernel_rfl
theorem cell_s : Try.prog.cellsOf 9 = 1 := by kernel_rfl
theorem byteR : Try.prog.bytesOf 89 = 40 := by kernel_rfl
theorem nat_u16 {n : Int} (h : (Lit.int .u16 n).wf = true) : ∃ k : Nat, n = k ∧ k < 65536 := by
  simp [Lit.wf, IntKind.min, IntKind.max, IntKind.signed, IntKind.bits] at h
  exact ⟨n.toNat, by omega, by omega⟩
theorem nat_u8 {n : Int} (h : (Lit.int .u8 n).wf = true) : ∃ k : Nat, n = k ∧ k < 256 := by
  simp [Lit.wf, IntKind.min, IntKind.max, IntKind.signed, IntKind.bits] at h
  exact ⟨n.toNat, by omega, by omega⟩
theorem nat_u32 {n : Int} (h : (Lit.int .u32 n).wf = true) : ∃ k : Nat, n = k ∧ k < 4294967296 := by
  simp [Lit.wf, IntKind.min, IntKind.max, IntKind.signed, IntKind.bits] at h
  exact ⟨n.toNat, by omega, by omega⟩
theorem nat_u64 {n : Int} (h : (Lit.int .u64 n).wf = true) : ∃ k : Nat, n = k ∧ k < 18446744073709551616 := by
  simp [Lit.wf, IntKind.min, IntKind.max, IntKind.signed, IntKind.bits] at h
  exact ⟨n.toNat, by omega, by omega⟩
theorem cell_lt {w : World} {p : Addr} {v : Value} (h : w.cell? p = some v) : p.block < w.heap.size := cell_size h
/-- An entry that came in. -/
structure Arg (w : World) (x : Ev) : Prop where
  sl : Sl rf w x.A x.cap x.e.l
  q : x.e.q.Fine
  ex : x.e.ex < 18446744073709551616
  sm : x.e.l.length ≤ 3518437208883
theorem Arg.low {w w' : World} {x : Ev} (h : Arg w x) (hb : Below w.heap.size w w') : Arg w' x := ⟨h.sl.below' hb, h.q, h.ex, h.sm⟩
/-- A deed. -/
structure Dd where
  k : Int
  x : Ev
  now : Nat
instance : Inhabited Dd := ⟨⟨0, default, 0⟩⟩
instance : Inhabited Rc := ⟨Rc.zero⟩
def df (d : Dd) : List Value := .int .i64 d.k :: (evL d.x ++ [.int .u64 (d.now : Nat)])
theorem df_len (d : Dd) : (df d).length = 9 := rfl
/-- A deed that came in. -/
structure ArgD (w : World) (d : Dd) : Prop where
  x : Arg w d.x
  now : d.now < 18446744073709551616
section
variable {H : Type} {enc : TypeId × Value → H} {w : World} {base : Nat} {sp : Nat → Bool} {held : Bool}
set_option maxRecDepth 100000 in
theorem rr_cells {fuel : Nat} {cs : List Value} {x : DataW H × List MemPlace} (h : DataW.trod enc Try.prog w base sp held fuel 89 cs = some x) :
    ∃ r : Rc, cs = rf r ∧ r.Ok := by
  obtain ⟨xs, n, _, _, hlen, hxl, hf⟩ := DataW.trod_struct Try.underlying89 h
  rw [cell_R] at hlen
  have hxl' : xs.length = 5 := hxl
  have h0 : DataW.trod enc Try.prog w base sp held n 9 ((cs.drop 0).take (Try.prog.cellsOf 9)) = xs[0]? := hf 0 _ rfl
  have h1 : DataW.trod enc Try.prog w base sp held n 33 ((cs.drop 1).take (Try.prog.cellsOf 33)) = xs[1]? := hf 1 _ rfl
  have h2 : DataW.trod enc Try.prog w base sp held n 33 ((cs.drop 2).take (Try.prog.cellsOf 33)) = xs[2]? := hf 2 _ rfl
  have h3 : DataW.trod enc Try.prog w base sp held n 87 ((cs.drop 3).take (Try.prog.cellsOf 87)) = xs[3]? := hf 3 _ rfl
  have h4 : DataW.trod enc Try.prog w base sp held n 9 ((cs.drop 4).take (Try.prog.cellsOf 9)) = xs[4]? := hf 4 _ rfl
  rw [List.getElem?_eq_getElem (by omega), cell_s] at h0 h4
  rw [List.getElem?_eq_getElem (by omega), cell_u16] at h1 h2
  rw [List.getElem?_eq_getElem (by omega), cell_u32] at h3
  match cs, hlen with
  | [v0, v1, v2, v3, v4], _ =>
    obtain ⟨a0, e0, _, s0⟩ := DataW.trod_string Try.underlying9 h0
    obtain ⟨a1, e1, _, s1⟩ := DataW.trod_int Try.underlying33 h1
    obtain ⟨a2, e2, _, s2⟩ := DataW.trod_int Try.underlying33 h2
    obtain ⟨a3, e3, _, s3⟩ := DataW.trod_int Try.underlying87 h3
    obtain ⟨a4, e4, _, s4⟩ := DataW.trod_string Try.underlying9 h4
    obtain ⟨k, rfl, hk⟩ := nat_u16 s1
    obtain ⟨c, rfl, hc⟩ := nat_u16 s2
    obtain ⟨t, rfl, ht⟩ := nat_u32 s3
    simp at e0 e1 e2 e3 e4
    exact ⟨⟨a0, k, c, t, a4⟩, by rw [e0, e1, e2, e3, e4]; rfl, ⟨hk, hc, ht⟩⟩
set_option maxRecDepth 100000 in
theorem q_read {fuel : Nat} {cs : List Value} {x : DataW H × List MemPlace} (h : DataW.trod enc Try.prog w base sp held fuel 35 cs = some x) :
    ∃ q : Qu, cs = qf q ∧ q.Fine := by
  obtain ⟨ys, m, _, _, hlen, hyl, hq⟩ := DataW.trod_struct Try.underlying35 h
  rw [cellsQ] at hlen
  have hyl' : ys.length = 3 := hyl
  have q0 : DataW.trod enc Try.prog w base sp held m 9 ((cs.drop 0).take (Try.prog.cellsOf 9)) = ys[0]? := hq 0 _ rfl
  have q1 : DataW.trod enc Try.prog w base sp held m 33 ((cs.drop 1).take (Try.prog.cellsOf 33)) = ys[1]? := hq 1 _ rfl
  have q2 : DataW.trod enc Try.prog w base sp held m 33 ((cs.drop 2).take (Try.prog.cellsOf 33)) = ys[2]? := hq 2 _ rfl
  rw [List.getElem?_eq_getElem (by omega), cell_s] at q0
  rw [List.getElem?_eq_getElem (by omega), cell_u16] at q1 q2
  match cs, hlen with
  | [v0, v1, v2], _ =>
    obtain ⟨a0, e0, _, s0⟩ := DataW.trod_string Try.underlying9 q0
    obtain ⟨a1, e1, _, s1⟩ := DataW.trod_int Try.underlying33 q1
    obtain ⟨a2, e2, _, s2⟩ := DataW.trod_int Try.underlying33 q2
    obtain ⟨t, rfl, ht⟩ := nat_u16 s1
    obtain ⟨c, rfl, hc⟩ := nat_u16 s2
    simp at e0 e1 e2
    exact ⟨⟨a0, t, c⟩, by rw [e0, e1, e2]; rfl, ⟨s0, ht, hc⟩⟩
end
/-- Elements that lie one behind the other. -/
theorem sl_of {α : Type} [Inhabited α] {f : α → List Value} {k : Nat} (hk : ∀ r, (f r).length = k) (hk0 : 0 < k) {G : α → Prop} {W : World} {a : Addr} {len cap : Nat} (hl : len ≤ cap) (each : ∀ i, i < len → ∃ r : α, G r ∧ W.cells? 0 (a.add (i * k)) k = some (f r)) :
    ∃ l : List α, l.length = len ∧ Sl f W (some a) cap l ∧ ∀ r ∈ l, G r := by
  obtain ⟨Q, hQ⟩ := choose_lt each
  refine ⟨(List.range len).map Q, by simp, ⟨(fun h => by cases h), by simpa using hl, ?_⟩, fun r hr => ?_⟩
  · rcases Nat.eq_zero_or_pos len with h0 | h0
    · left
      rw [h0]
      rfl
    · right
      obtain ⟨_, _, hatz⟩ := World.cells?_some (hQ 0 h0).2
      have qz := hatz 0 hk0
      rw [List.getElem?_eq_getElem (by rw [hk]; exact hk0)] at qz
      obtain ⟨sb, so, spot⟩ := a
      have hspot : spot = none := by simpa [Addr.add] using World.cell?_spot qz
      subst hspot
      have hlt : sb < W.heap.size := by simpa [Addr.add] using cell_lt qz
      refine ⟨sb, so, rfl, hlt, fun j u hj => ?_⟩
      have hjl : j < len * k := by
        have := (List.getElem?_eq_some_iff.1 hj).1
        rw [flat_len hk] at this
        simpa using this
      have hi : j / k < len := Nat.div_lt_of_lt_mul (by rw [Nat.mul_comm]; exact hjl)
      have hm : j % k < k := Nat.mod_lt _ hk0
      have hjj : j / k * k + j % k = j := by rw [Nat.mul_comm]; exact Nat.div_add_mod j k
      have hfa := flat_at hk ((List.range len).map Q) (j / k) (j % k) (by simpa using hi) hm
      rw [hjj, hj] at hfa
      simp only [List.getElem_map, List.getElem_range] at hfa
      obtain ⟨_, _, hat⟩ := World.cells?_some (hQ (j / k) hi).2
      have hc := hat (j % k) hm
      rw [add_plain, add_plain, Nat.add_assoc, hjj] at hc
      rw [hc]
      exact hfa.symm
  · obtain ⟨i, hi', rfl⟩ := List.mem_map.1 hr
    exact (hQ i (List.mem_range.1 hi')).1
section
variable {H : Type} {enc : TypeId × Value → H} {W : World}
theorem rrs_cell {fuel : Nat} {c : Value} {x : DataW H × List MemPlace} (hf : DataW.trod enc Try.prog W 0 (fun _ => true) true fuel 36 [c] = some x) (hw : ∀ n ∈ x.1.weights Try.prog 36, n ≤ reachBytes) : ∃ A cap l, c = .slice A l.length cap ∧ Sl rf W A cap l ∧ l.length ≤ 3518437208883 := by
  rcases open_slice Try.underlying36 hf with ⟨hcs, hx⟩ | ⟨a, len, cap, m, n, D, Pl, hcs, _, hl, hm, hmm, hx, hi⟩
  · simp at hcs
    subst hcs
    exact ⟨none, 0, [], rfl, Sl.nil _ _, by simp⟩
  · simp at hcs
    subst hcs
    simp only [if_true] at hmm
    rw [cell_R] at hi
    obtain ⟨l, h1, h2, h3⟩ := sl_of (f := rf) (G := Rc.Ok) rf_len (by decide) hl (fun i hil => by
      obtain ⟨cs', g1, g2⟩ := hi i (by omega)
      obtain ⟨r, rfl, g4⟩ := rr_cells g2
      exact ⟨r, g4, g1⟩)
    refine ⟨some a, cap, l, by rw [h1], h2, ?_⟩
    have := hw ((((List.range len).map D).length + ((List.range (m - len)).map fun j => D (len + j)).length) * Try.prog.bytesOf 89) (by rw [hx]; simp only [DataW.weights, Try.underlying36]; exact List.mem_cons_self ..)
    rw [byteR] at this
    simp only [List.length_map, List.length_range] at this
    have := reachBytes_lt
    omega
set_option maxRecDepth 100000 in
theorem entry_read {fuel : Nat} {cs : List Value} {x : DataW H × List MemPlace} (h : DataW.trod enc Try.prog W 0 (fun _ => true) true fuel 39 cs = some x) (hw : ∀ n ∈ x.1.weights Try.prog 39, n ≤ reachBytes) : ∃ e : Ev, cs = evL e ∧ Arg W e := by
  obtain ⟨xs, n, _, hxe, hlen, hxl, hfs⟩ := DataW.trod_struct Try.underlying39 h
  rw [cell_E] at hlen
  have hxl' : xs.length = 5 := hxl
  have h0 : DataW.trod enc Try.prog W 0 (fun _ => true) true n 35 ((cs.drop 0).take (Try.prog.cellsOf 35)) = xs[0]? := hfs 0 _ rfl
  have h1 : DataW.trod enc Try.prog W 0 (fun _ => true) true n 36 ((cs.drop 3).take (Try.prog.cellsOf 36)) = xs[1]? := hfs 1 _ rfl
  have h2 : DataW.trod enc Try.prog W 0 (fun _ => true) true n 3 ((cs.drop 4).take (Try.prog.cellsOf 3)) = xs[2]? := hfs 2 _ rfl
  have h3 : DataW.trod enc Try.prog W 0 (fun _ => true) true n 3 ((cs.drop 5).take (Try.prog.cellsOf 3)) = xs[3]? := hfs 3 _ rfl
  have h4 : DataW.trod enc Try.prog W 0 (fun _ => true) true n 37 ((cs.drop 6).take (Try.prog.cellsOf 37)) = xs[4]? := hfs 4 _ rfl
  rw [List.getElem?_eq_getElem (by omega), cellsQ] at h0
  rw [List.getElem?_eq_getElem (by omega), cell_Rs] at h1
  rw [List.getElem?_eq_getElem (by omega), cell_int] at h2 h3
  rw [List.getElem?_eq_getElem (by omega), cell_u64] at h4
  match cs, hlen with
  | [v0, v1, v2, v3, v4, v5, v6], _ =>
    obtain ⟨q, hq, hqf⟩ := q_read h0
    simp only [List.drop_zero, List.take_succ_cons, List.take_zero, qf, List.cons.injEq, and_true] at hq
    obtain ⟨rfl, rfl, rfl⟩ := hq
    obtain ⟨A, cap, l, e1, hsl, hll⟩ := rrs_cell h1 (fun n hn => hw n (by
      rw [hxe]
      simp only [DataW.weights, Try.underlying39]
      exact DataW.weights_mem_each (j := 1) (t := 36) rfl (by rw [List.getElem?_map, List.getElem?_eq_getElem (by omega)]; rfl) n hn))
    obtain ⟨a4, e4, _, s4⟩ := DataW.trod_int Try.underlying3 h2
    obtain ⟨a5, e5, _, s5⟩ := DataW.trod_int Try.underlying3 h3
    obtain ⟨a6, e6, _, s6⟩ := DataW.trod_int Try.underlying37 h4
    obtain ⟨ex, rfl, hex⟩ := nat_u64 s6
    simp at e4 e5 e6
    exact ⟨⟨⟨q, l, a4, a5, ex⟩, A, cap⟩, by rw [e1, e4, e5, e6]; rfl, ⟨hsl, hqf, hex, hll⟩⟩
set_option maxRecDepth 100000 in
theorem deed_read {fuel : Nat} {cs : List Value} {x : DataW H × List MemPlace} (h : DataW.trod enc Try.prog W 0 (fun _ => true) true fuel 41 cs = some x) (hw : ∀ n ∈ x.1.weights Try.prog 41, n ≤ reachBytes) : ∃ d : Dd, cs = df d ∧ ArgD W d := by
  obtain ⟨xs, n, _, hxe, hlen, hxl, hfs⟩ := DataW.trod_struct Try.underlying41 h
  rw [cell_D] at hlen
  have hxl' : xs.length = 3 := hxl
  have h0 : DataW.trod enc Try.prog W 0 (fun _ => true) true n 3 ((cs.drop 0).take (Try.prog.cellsOf 3)) = xs[0]? := hfs 0 _ rfl
  have h1 : DataW.trod enc Try.prog W 0 (fun _ => true) true n 39 ((cs.drop 1).take (Try.prog.cellsOf 39)) = xs[1]? := hfs 1 _ rfl
  have h2 : DataW.trod enc Try.prog W 0 (fun _ => true) true n 37 ((cs.drop 8).take (Try.prog.cellsOf 37)) = xs[2]? := hfs 2 _ rfl
  rw [List.getElem?_eq_getElem (by omega), cell_int] at h0
  rw [List.getElem?_eq_getElem (by omega), cell_E] at h1
  rw [List.getElem?_eq_getElem (by omega), cell_u64] at h2
  match cs, hlen with
  | [v0, v1, v2, v3, v4, v5, v6, v7, v8], _ =>
    obtain ⟨a0, e0, _, s0⟩ := DataW.trod_int Try.underlying3 h0
    obtain ⟨e, he, ha⟩ := entry_read h1 (fun n hn => hw n (by
      rw [hxe]
      simp only [DataW.weights, Try.underlying41]
      exact DataW.weights_mem_each (j := 1) (t := 39) rfl (by rw [List.getElem?_map, List.getElem?_eq_getElem (by omega)]; rfl) n hn))
    obtain ⟨a8, e8, _, s8⟩ := DataW.trod_int Try.underlying37 h2
    obtain ⟨now, rfl, hnow⟩ := nat_u64 s8
    simp only [List.drop_succ_cons, List.drop_zero, List.take_succ_cons, List.take_zero] at he
    simp at e0 e8
    refine ⟨⟨a0, e, now⟩, ?_, ⟨ha, hnow⟩⟩
    unfold df
    simp only
    rw [← he, e0, e8]
    rfl
theorem deeds_cell {fuel : Nat} {c : Value} {x : DataW H × List MemPlace} (hf : DataW.trod enc Try.prog W 0 (fun _ => true) true fuel 22 [c] = some x) (hw : ∀ n ∈ x.1.weights Try.prog 22, n ≤ reachBytes) : ∃ A cap l, c = .slice A l.length cap ∧ Sl df W A cap l ∧ ∀ d ∈ l, ArgD W d := by
  rcases open_slice Try.underlying22 hf with ⟨hcs, hx⟩ | ⟨a, len, cap, m, n, D, Pl, hcs, _, hl, hm, hmm, hx, hi⟩
  · simp at hcs
    subst hcs
    exact ⟨none, 0, [], rfl, Sl.nil _ _, fun d hd => by cases hd⟩
  · simp at hcs
    subst hcs
    simp only [if_true] at hmm
    rw [cell_D] at hi
    have hall : ∀ (ds : List (DataW H)) (d : DataW H), d ∈ ds → ∀ n ∈ d.weights Try.prog 41, n ∈ DataW.weightsAll Try.prog 41 ds := by
      intro ds
      induction ds with
      | nil => intro d hd; cases hd
      | cons a ds ih =>
        intro d hd n hn
        simp only [DataW.weightsAll, List.mem_append]
        rcases List.mem_cons.1 hd with rfl | hd
        · exact .inl hn
        · exact .inr (ih d hd n hn)
    obtain ⟨l, h1, h2, h3⟩ := sl_of (f := df) (G := ArgD W) df_len (by decide) hl (fun i hil => by
      obtain ⟨cs', g1, g2⟩ := hi i (by omega)
      obtain ⟨d, rfl, g4⟩ := deed_read g2 (fun n hn => hw n (by
        rw [hx]
        simp only [DataW.weights, Try.underlying22]
        refine List.mem_cons_of_mem _ (List.mem_append.2 (.inl (hall _ (D i) (List.mem_map.2 ⟨i, List.mem_range.2 hil, rfl⟩) n hn)))))
      exact ⟨d, g4, g1⟩)
    exact ⟨some a, cap, l, by rw [h1], h2, h3⟩
end
section
variable {H : Type} {enc : TypeId × Value → H} {W : World} {base : Nat} {v : Value} {d : DataW H} {ps : List MemPlace}
set_option maxRecDepth 100000 in
theorem open_ent (hok : Value.okWide Try.prog W .any base 39 v) (h : DataW.Trod enc Try.prog W 0 (fun _ => true) true 39 v d ps) (hw : ∀ n ∈ d.weights Try.prog 39, n ≤ reachBytes) : ∃ x : Ev, v = evV x ∧ Arg W x := by
  obtain ⟨cs, rfl, hsz⟩ := okWide_struct Try.underlying39 hok
  obtain ⟨fuel, hf⟩ := h
  obtain ⟨e, he, ha⟩ := entry_read hf hw
  refine ⟨e, ?_, ha⟩
  unfold evV
  rw [← he]
  rfl
set_option maxRecDepth 100000 in
theorem open_deed (hok : Value.okWide Try.prog W .any base 41 v) (h : DataW.Trod enc Try.prog W 0 (fun _ => true) true 41 v d ps) (hw : ∀ n ∈ d.weights Try.prog 41, n ≤ reachBytes) : ∃ x : Dd, v = .agg (df x).toArray ∧ ArgD W x := by
  obtain ⟨cs, rfl, hsz⟩ := okWide_struct Try.underlying41 hok
  obtain ⟨fuel, hf⟩ := h
  obtain ⟨e, he, ha⟩ := deed_read hf hw
  refine ⟨e, ?_, ha⟩
  rw [← he]
  rfl
set_option maxRecDepth 100000 in
theorem open_deeds (hok : Value.okWide Try.prog W .any base 22 v) (h : DataW.Trod enc Try.prog W 0 (fun _ => true) true 22 v d ps) (hw : ∀ n ∈ d.weights Try.prog 22, n ≤ reachBytes) : ∃ A cap l, v = .slice A l.length cap ∧ Sl df W A cap l ∧ ∀ d ∈ l, ArgD W d := by
  obtain ⟨a0, len, cap, rfl⟩ := okWide_slice Try.underlying22 hok
  obtain ⟨fuel, hf⟩ := h
  exact deeds_cell hf hw
set_option maxRecDepth 100000 in
theorem open_qq (hok : Value.okWide Try.prog W .any base 35 v) (h : DataW.Trod enc Try.prog W 0 (fun _ => true) true 35 v d ps) (hw : ∀ n ∈ d.weights Try.prog 35, n ≤ reachBytes) : ∃ q : Qu, v = qV q ∧ q.Fine := by
  obtain ⟨cs, rfl, hsz⟩ := okWide_struct Try.underlying35 hok
  obtain ⟨fuel, hf⟩ := h
  obtain ⟨q, he, hq⟩ := q_read hf
  refine ⟨q, ?_, hq⟩
  have e1 : cs.toList = qf q := he
  obtain ⟨L⟩ := cs
  simp only at e1
  subst e1
  rfl
end
/-- What a law's argument weighs. -/
theorem weigh {H : Type} {P : Program} {ts : List TypeId} {ds : List (DataW H)} (h : (DataW.weightsEach P ts ds).all (· ≤ reachBytes) = true) {j : Nat} {t : TypeId} {d : DataW H} (ht : ts[j]? = some t) (hd : ds[j]? = some d) : ∀ n ∈ d.weights P t, n ≤ reachBytes := fun n hn => by
  have := List.all_eq_true.1 h _ (DataW.weights_mem_each ht hd n hn)
  simpa using this
end Go.Proofs.Ytjjanogfcfapcaa

/- The contracts of derricklaw12.entry and derricklaw12.shown. -/
namespace Go.Proofs.Ytjjanogfcfapcaa
open Go.RowKit
set_option linter.unusedVariables false

def sA : En := ⟨⟨⟨#[1, 97, 0]⟩, 1, 1⟩, [], 0, 3, 9⟩
def sB : En := ⟨⟨⟨#[1, 98, 0]⟩, 1, 1⟩, [], 0, 3, 9⟩
theorem c1 : (insS (newS 1) sA 1).2 = ([], 0) := by kernel_rfl
theorem c2 : (insS (insS (newS 1) sA 1).1 sB 1).2 = ([sA.q], 0) := by kernel_rfl
theorem c3 : (lookS (insS (insS (newS 1) sA 1).1 sB 1).1 sA.q 1).2 = (default, false) := by kernel_rfl
theorem c3' : (lookS (insS (insS (newS 1) sA 1).1 sB 1).1 sA.q 1).1 = (insS (insS (newS 1) sA 1).1 sB 1).1 := by kernel_rfl
theorem c4 : (lookS (insS (insS (newS 1) sA 1).1 sB 1).1 sB.q 1).2 = (sB, true) := by kernel_rfl
theorem ret_e1 {w : World} {fn : Func} {p : Tmp} {R : Ending → World → Prop} {a : Act} {g : Nat} (cs : Array Value) (hs : cs.size = 7) (h : fn.results = #[.cell p 39]) (hp : a.tmps.getD p undef = .pointer (some ⟨g, 0, none⟩)) (hd : a.defers = [])
    (hg : w.heap[g]? = some (.cells cs 39 (0, 0))) (hR : R (.returned (.agg cs)) w) : bodyPost Try.prog fn R .ret a w :=
  bodyPost_ret (results_cell_row h _ w g 39 cs (0, 0) _ hp hg Try.underlying39 rfl (by rw [hs]; exact infoE)) hd hR
set_option maxHeartbeats 1000000 in
theorem entry_any (n : ByteArray) (r : Int) (ex : Nat) (w : World) : Calls Try.prog 25 #[.string n, .int .i64 r, .int .u64 (ex : Nat)] w fun e w' => e = .returned (evV ⟨⟨⟨n, 1, 1⟩, [], 0, r, ex⟩, none, 0⟩) ∧ Below w.heap.size w w' := by
  have HX := Lib.hid (blk_new_eq w 39 zE)
  have HB := Lib.hid ((Below.refl w.heap.size w).alloc (Nat.le_refl _) (Obj.cells zE 39))
  unfold zE at HX HB
  go_enter Try.func25, Try.ntmps25
  go_upto_region 1 with (fail)
  generalize w.alloc (Obj.cells #[.string ⟨#[]⟩, .int .u16 0, .int .u16 0, .slice none 0 0, .int .i64 0, .int .i64 0, .int .u64 0] 39) = w1 at *
  go_wp2_with (refine wpList_store_row rfl 39 _ _ rfl w.heap.size (evL ⟨⟨⟨n, 1, 1⟩, [], 0, r, ex⟩, none, 0⟩).toArray rfl rfl 39 _ HX.out (infoEa _) rfl (evL_one _) ?_)
  exact ret_e1 (evL ⟨⟨⟨n, 1, 1⟩, [], 0, r, ex⟩, none, 0⟩).toArray rfl rfl rfl rfl (setRow_heap _ _ _ _ _ _ HX.out) ⟨rfl, setRow_below HB.out (Nat.le_refl _) _⟩
def xA : Ev := ⟨sA, none, 0⟩
def xB : Ev := ⟨sB, none, 0⟩
def D1 : Sd := (insS (newS 1) sA 1).1
def D2 : Sd := (insS D1 sB 1).1
def D3 : Sd := (lookS D2 sB.q 1).1
theorem fineA : sA.q.Fine := ⟨by decide, by decide, by decide⟩
theorem fineB : sB.q.Fine := ⟨by decide, by decide, by decide⟩
theorem reA (X : Nat → Prop) (w : World) : Re X w xA := ⟨Sl.nil _ _, (fun b off h => by cases h), fineA, by decide, by decide⟩
theorem reB (X : Nat → Prop) (w : World) : Re X w xB := ⟨Sl.nil _ _, (fun b off h => by cases h), fineB, by decide, by decide⟩
theorem entA (w : World) : Calls Try.prog 25 #[.string ⟨#[1, 97, 0]⟩, .int .i64 3, .int .u64 9] w fun e w' => e = .returned (.agg (evL xA).toArray) ∧ Below w.heap.size w w' := entry_any ⟨#[1, 97, 0]⟩ 3 9 w
theorem entB (w : World) : Calls Try.prog 25 #[.string ⟨#[1, 98, 0]⟩, .int .i64 3, .int .u64 9] w fun e w' => e = .returned (.agg (evL xB).toArray) ∧ Below w.heap.size w w' := entry_any ⟨#[1, 98, 0]⟩ 3 9 w
section
variable {w : World} {h : Nat} {K : Ly}
theorem i1 (H : Sh w h K (newS 1)) : Calls Try.prog 19 #[.pointer (some ⟨h, 0, none⟩), .agg (evL xA).toArray, .int .u64 1] w fun e w' => (∃ A cap, e = .returned (.tuple #[.slice A 0 cap, .int .i64 0])) ∧ Sh w' h K D1 ∧ Ch K.X w w' := by
  refine (ins_any H xA (reA _ _) 1).mono ?_
  rintro e w' ⟨A, cap, he, _, _, hs, hc⟩
  have c := c1
  rw [show xA.e = sA from rfl] at he hs
  rw [c] at he
  exact ⟨⟨A, cap, he⟩, hs, hc⟩
theorem i2 (H : Sh w h K D1) : Calls Try.prog 19 #[.pointer (some ⟨h, 0, none⟩), .agg (evL xB).toArray, .int .u64 1] w fun e w' => ∃ b off cap, e = .returned (.tuple #[.slice (some ⟨b, off, none⟩) 1 cap, .int .i64 0]) ∧ (w.heap.size ≤ b ∧ b < w'.heap.size ∧ w'.cell? ⟨b, off, none⟩ = some (.string sA.q.n) ∧ w'.cell? ⟨b, off + 1, none⟩ = some (.int .u16 (sA.q.k : Nat)) ∧ w'.cell? ⟨b, off + 2, none⟩ = some (.int .u16 (sA.q.c : Nat))) ∧ Sh w' h K D2 ∧ Ch K.X w w' := by
  refine (ins_any H xB (reB _ _) 1).mono ?_
  rintro e w' ⟨A, cap, he, sl, nw, hs, hc⟩
  have c : (insS D1 sB 1).2 = ([sA.q], 0) := c2
  rw [show xB.e = sB from rfl] at he hs sl
  rw [c] at he sl
  obtain ⟨b, off, rfl, hb, q0, q1, q2⟩ := sl.ask3 0 (by simp)
  rw [Nat.zero_mul, Nat.add_zero] at q0 q1 q2
  exact ⟨b, off, cap, he, ⟨nw b off rfl, hb, q0, q1, q2⟩, hs, hc⟩
theorem i3 (H : Sh w h K D2) : Calls Try.prog 22 #[.pointer (some ⟨h, 0, none⟩), qV sA.q, .int .u64 1] w fun e w' => (∃ x, e = .returned (.tuple #[.agg (evL x).toArray, .bool false])) ∧ Sh w' h K D2 ∧ Ch K.X w w' := by
  refine (look_any H sA.q fineA 1).mono ?_
  rintro e w' ⟨A, cap, he, _, _, hs, hc⟩
  have c : (lookS D2 sA.q 1).2 = (default, false) := c3
  have c' : (lookS D2 sA.q 1).1 = D2 := c3'
  rw [c] at he
  rw [c'] at hs
  exact ⟨⟨_, he⟩, hs, hc⟩
theorem i4 (H : Sh w h K D2) : Calls Try.prog 22 #[.pointer (some ⟨h, 0, none⟩), qV sB.q, .int .u64 1] w fun e w' => (∃ x, x.e = sB ∧ e = .returned (.tuple #[.agg (evL x).toArray, .bool true])) ∧ Sh w' h K D3 ∧ Ch K.X w w' := by
  refine (look_any H sB.q fineB 1).mono ?_
  rintro e w' ⟨A, cap, he, _, _, hs, hc⟩
  have c : (lookS D2 sB.q 1).2 = (sB, true) := c4
  rw [c] at he
  exact ⟨⟨⟨sB, A, cap⟩, rfl, he⟩, hs, hc⟩
theorem new_z (zr zs : Int) (r s : Nat) (hr : zr = r) (hs : zs = s) (h1 : 1 ≤ r) (h2 : r ≤ 64) (s1 : 1 ≤ s) (s2 : s ≤ 256) (w : World) :
    Calls Try.prog 10 #[.int .i64 zr, .int .i64 zs] w fun e w' => ∃ h K, e = .returned (.pointer (some ⟨h, 0, none⟩)) ∧ Sh w' h K (newS r) ∧ Below w.heap.size w w' ∧ (∀ i, K.X i → w.heap.size ≤ i) := by
  subst hr
  subst hs
  exact new_s r s h1 h2 s1 s2 w
end
theorem x_cells {w : World} {g : Nat} {t : TypeId} {x : Ev} {e : En} (he : x.e = e) (h : Blk w g t (evL x).toArray) : w.cell? ⟨g, 0, none⟩ = some (.string e.q.n) ∧ w.cell? ⟨g, 1, none⟩ = some (.int .u16 (e.q.k : Nat)) ∧ w.cell? ⟨g, 2, none⟩ = some (.int .u16 (e.q.c : Nat)) := by
  subst he
  exact ⟨h.cell 0, h.cell 1, h.cell 2⟩
/-- What shown has in memory. -/
structure Wn (w wr : World) (h : Nat) (K : Ly) (d : Sd) (ra rb : Nat) : Prop where
  sh : Sh wr h K d
  ba : Blk wr ra 39 (evL xA).toArray
  bb : Blk wr rb 39 (evL xB).toArray
  na : ¬ K.X ra
  nb : ¬ K.X rb
  lo : Below w.heap.size w wr
  kx : ∀ i, K.X i → w.heap.size ≤ i
theorem Wn.next {w wr w' : World} {h : Nat} {K : Ly} {d d' : Sd} {ra rb : Nat} (n : Wn w wr h K d ra rb) (hs : Sh w' h K d') (hc : Ch K.X wr w') : Wn w w' h K d' ra rb :=
  ⟨hs, n.ba.ch hc n.na, n.bb.ch hc n.nb, n.na, n.nb, n.lo.trans (hc.isBelow n.kx n.lo.size), n.kx⟩
theorem Wn.low {w wr w' : World} {h : Nat} {K : Ly} {d : Sd} {ra rb : Nat} (n : Wn w wr h K d ra rb) (hb : Below wr.heap.size wr w') : Wn w w' h K d ra rb := n.next (n.sh.low hb) (Ch.bel hb)
set_option maxRecDepth 100000 in
set_option maxHeartbeats 4000000 in
theorem shown_any (w : World) : Calls Try.prog 9 #[] w fun e w' => e = .returned (.bool true) ∧ Below w.heap.size w w' := by
  have HC := Lib.hid (fun V => new_z 1 4 1 4 rfl rfl (by omega) (by omega) (by omega) (by omega) V)
  have HA := Lib.hid (fun V => entA V)
  have HB := Lib.hid (fun V => entB V)
  go_enter Try.func9, Try.ntmps9
  go_upto_region 2 with (go_at_call 10; (with_reducible (refine (HC.out _).mono ?_)); rintro e w1 ⟨h, K, rfl, hs1, hb1, hk1⟩; have H1 := Lib.hid (And.intro hs1 (And.intro hb1 hk1)); clear hs1 hb1 hk1)
  go_upto_region 3 with (first | (refine wpList_store_row rfl 39 _ _ rfl w2.heap.size _ rfl rfl 39 _ HNw.out (infoEa xA) rfl (evL_one xA) ?_) | (go_at_call 25; (with_reducible (refine (HA.out _).mono ?_)); rintro e w2 ⟨rfl, hb2⟩; have HB2 := Lib.hid hb2; have HNw := Lib.hid (Blk.new w2 39 zE); unfold zE at HNw; clear hb2))
  obtain ⟨k3, b3⟩ := box_of w2 xA
  have b13 := HB2.out.trans (b3.mono HB2.out.size)
  have H3 := Lib.hid (And.intro (H1.out.1.low b13) (And.intro (H1.out.2.1.trans (b13.mono H1.out.2.1.size)) (And.intro H1.out.2.2 (And.intro k3 (show ¬ K.X w2.heap.size from by obtain ⟨M, _, v⟩ := H1.out.1.ex; exact v.notX HB2.out.size)))))
  unfold zE at H3
  clear k3 b3 b13 HNw HB2 H1
  generalize (w2.alloc (Obj.cells #[.string ⟨#[]⟩, .int .u16 0, .int .u16 0, .slice none 0 0, .int .i64 0, .int .i64 0, .int .u64 0] 39)).setRow w2.heap.size (evL xA).toArray = w3 at *
  generalize w2.heap.size = ra at *
  go_upto_region 4 with (first | (refine wpList_store_row rfl 39 _ _ rfl w4.heap.size _ rfl rfl 39 _ HNw.out (infoEa xB) rfl (evL_one xB) ?_) | (go_at_call 25; (with_reducible (refine (HB.out _).mono ?_)); rintro e w4 ⟨rfl, hb4⟩; have HB4 := Lib.hid hb4; have HNw := Lib.hid (Blk.new w4 39 zE); unfold zE at HNw; clear hb4))
  obtain ⟨k5, b5⟩ := box_of w4 xB
  have b35 := HB4.out.trans (b5.mono HB4.out.size)
  have H5 := Lib.hid (show Wn w _ h K (newS 1) ra w4.heap.size from ⟨H3.out.1.low b35, H3.out.2.2.2.1.eq (b35.block _ H3.out.2.2.2.1.lt), k5, H3.out.2.2.2.2, (by obtain ⟨M, _, v⟩ := H3.out.1.ex; exact v.notX HB4.out.size), H3.out.2.1.trans (b35.mono H3.out.2.1.size), H3.out.2.2.1⟩)
  unfold zE at H5
  clear k5 b5 b35 HNw HB4 H3
  generalize (w4.alloc (Obj.cells #[.string ⟨#[]⟩, .int .u16 0, .int .u16 0, .slice none 0 0, .int .i64 0, .int .i64 0, .int .u64 0] 39)).setRow w4.heap.size (evL xB).toArray = w5 at *
  generalize w4.heap.size = rb at *
  have HI := Lib.hid (i1 H5.out.sh)
  go_upto_region 5 with (first | (refine wpList_load_row rfl 39 _ rfl ra rfl 39 _ _ _ H5.out.ba Try.underlying39 rfl infoE ?_) | (go_at_call 19; (with_reducible (refine HI.out.mono ?_)); rintro e w6 ⟨⟨A6, c6, rfl⟩, hs6, hc6⟩; have H6 := Lib.hid (H5.out.next hs6 hc6); clear hs6 hc6))
  clear HI H5
  have HI := Lib.hid (i2 H6.out.sh)
  go_upto_region 6 with (first | (refine wpList_load_row rfl 39 _ rfl rb rfl 39 _ _ _ H6.out.bb Try.underlying39 rfl infoE ?_) | (go_at_call 19; (with_reducible (refine HI.out.mono ?_)); rintro e w7 ⟨yb, yo, c7, rfl, hy7, hs7, hc7⟩; have H7 := Lib.hid (And.intro (H6.out.next hs7 hc7) (And.intro (show ¬ K.X yb from by obtain ⟨M, _, v⟩ := H6.out.sh.ex; exact v.notX hy7.1) hy7)); clear hs7 hc7 hy7))
  clear HI H6
  have hI := i3 H7.out.1.sh
  unfold qV at hI
  have HI := Lib.hid hI
  obtain ⟨e0, e1, e2⟩ := x_cells (e := sA) rfl H7.out.1.ba
  clear hI
  go_upto_region 7 with (first | (refine wpList_store_row rfl 39 _ _ rfl w8.heap.size _ rfl rfl 39 _ HNw.out (infoEa x8) rfl (evL_one x8) ?_) | (go_at_call 22; (with_reducible (refine HI.out.mono ?_)); rintro e w8 ⟨⟨x8, rfl⟩, hs8, hc8⟩; have H8 := Lib.hid (And.intro (H7.out.1.next hs8 hc8) hc8); have HNw := Lib.hid (Blk.new w8 39 zE); unfold zE at HNw; clear hs8 hc8))
  have b9 := (box_of w8 x8).2
  have hc9 := H8.out.2.below b9
  have hy := H7.out.2
  have H9 := Lib.hid (And.intro (H8.out.1.low b9) (And.intro hy.1 (And.intro (Nat.lt_of_lt_of_le hy.2.2.1 hc9.size) (And.intro (hc9.cell hy.2.2.2.1 hy.1) (And.intro (hc9.cell hy.2.2.2.2.1 hy.1) (hc9.cell hy.2.2.2.2.2 hy.1))))))
  unfold zE at H9
  clear b9 hc9 hy HNw H8 H7 HI e0 e1 e2
  generalize (w8.alloc (Obj.cells #[.string ⟨#[]⟩, .int .u16 0, .int .u16 0, .slice none 0 0, .int .i64 0, .int .i64 0, .int .u64 0] 39)).setRow w8.heap.size (evL x8).toArray = w9 at *
  generalize w8.heap.size = r8 at *
  have hI := i4 H9.out.1.sh
  unfold qV at hI
  have HI := Lib.hid hI
  obtain ⟨e0, e1, e2⟩ := x_cells (e := sB) rfl H9.out.1.bb
  clear hI
  go_upto_region 8 with (first | (refine wpList_store_row rfl 39 _ _ rfl w10.heap.size _ rfl rfl 39 _ HNw.out (infoEa x10) rfl (evL_one x10) ?_) | (go_at_call 22; (with_reducible (refine HI.out.mono ?_)); rintro e w10 ⟨⟨x10, hx10, rfl⟩, hs10, hc10⟩; have HX10 := Lib.hid hx10; have H10 := Lib.hid (And.intro (H9.out.1.next hs10 hc10) hc10); have HNw := Lib.hid (Blk.new w10 39 zE); unfold zE at HNw; clear hs10 hc10 hx10))
  obtain ⟨k11, b11⟩ := box_of w10 x10
  have hc11 := H10.out.2.below b11
  have hy := H9.out.2
  have H11 := Lib.hid (And.intro (H10.out.1.low b11) (And.intro k11 (And.intro (hc11.cell hy.2.2.1 hy.1) (And.intro (hc11.cell hy.2.2.2.1 hy.1) (hc11.cell hy.2.2.2.2 hy.1)))))
  unfold zE at H11
  clear k11 b11 hc11 hy HNw H10 H9 HI e0 e1 e2
  generalize (w10.alloc (Obj.cells #[.string ⟨#[]⟩, .int .u16 0, .int .u16 0, .slice none 0 0, .int .i64 0, .int .i64 0, .int .u64 0] 39)).setRow w10.heap.size (evL x10).toArray = w11 at *
  generalize w10.heap.size = r10 at *
  obtain ⟨a0, a1, a2⟩ := x_cells (e := sA) rfl H11.out.1.ba
  obtain ⟨b0, b1, b2⟩ := x_cells (e := sB) rfl H11.out.1.bb
  obtain ⟨g0, g1, g2⟩ := x_cells HX10.out H11.out.2.1
  obtain ⟨y0, y1, y2⟩ := H11.out.2.2
  have HB11 := Lib.hid H11.out.1.lo
  clear H11 HX10
  generalize sA.q = qa at *
  generalize sB.q = qb at *
  go_quiet (fail)
  have HF := Lib.hid (HB11.out.trans ((below_drewN w11 nq).mono HB11.out.size))
  generalize w11.drewN nq = w12 at *
  clear a0 a1 a2 b0 b1 b2 g0 g1 g2 y0 y1 y2
  go_wp2_with fail
  go_ret
  exact ⟨by first | rfl | simp, HF.out⟩
end Go.Proofs.Ytjjanogfcfapcaa
