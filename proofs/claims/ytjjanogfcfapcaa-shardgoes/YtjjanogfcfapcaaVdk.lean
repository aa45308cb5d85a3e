/- The contract of derrickref12.Insert of a shard that is full (written by tools/gen_vdk.py). -/
import Derived.Test.YtjjanogfcfapcaaVdj
namespace Go.Proofs.Ytjjanogfcfapcaa.D
open Go.RowKit
set_option linter.unusedVariables false

theorem put_lit2 (B : Nat) (x : Ev) (d : Dv) (M : Ms Ev) (hok : M.Ok) (n hh : Nat) (hl : M.c.length = n) (hm : M.h = hh) (w : World) (h : Dw B w d M.c) (hB : B ≤ w.heap.size) : Calls Try.prog 48 #[.agg #[.slice (some ⟨d.gx, 0, none⟩) n d.cx, .slice (some ⟨d.gu, 0, none⟩) n d.cu, .slice (some ⟨d.gt, 0, none⟩) n d.ct, .int .i64 (hh : Nat)], .agg (evL x).toArray] w fun e w' => ∃ d' : Dv, e = .returned (.agg #[.slice (some ⟨d'.gx, 0, none⟩) n d'.cx, .slice (some ⟨d'.gu, 0, none⟩) n d'.cu, .slice (some ⟨d'.gt, 0, none⟩) n d'.ct, .int .i64 (hh : Nat)]) ∧ Dw B w' d' (putM M x).1.c ∧ Below w.heap.size w w' := by
  subst hl hm
  exact put_lit B x d M hok w h hB
theorem with_zero2 (B i : Nat) (d : Dv) (M : Ms Ev) (hok : M.Ok) (n hh : Nat) (hl : M.c.length = n) (hm : M.h = hh) (hi : i < n) (w : World) (h : Dw B w d M.c) (hB : B ≤ w.heap.size) : Calls Try.prog 47 #[.agg #[.slice (some ⟨d.gx, 0, none⟩) n d.cx, .slice (some ⟨d.gu, 0, none⟩) n d.cu, .slice (some ⟨d.gt, 0, none⟩) n d.ct, .int .i64 (hh : Nat)], .int .i64 (i : Nat), .agg #[.string ⟨#[]⟩, .int .u16 0, .int .u16 0, .slice none 0 0, .int .i64 0, .int .i64 0, .int .u64 0], .bool false, .bool false] w fun e w' => ∃ d' : Dv, e = .returned (.agg #[.slice (some ⟨d'.gx, 0, none⟩) n d'.cx, .slice (some ⟨d'.gu, 0, none⟩) n d'.cu, .slice (some ⟨d'.gt, 0, none⟩) n d'.ct, .int .i64 (hh : Nat)]) ∧ Dw B w' d' (M.c.set i Z0) ∧ Below w.heap.size w w' := by
  subst hl hm
  exact with_zero B i d M hok hi w h hB
theorem radv_lit (B : Nat) (d : Dv) (M : Ms Ev) (hok : M.Ok) (l : List W.Ti) (ht : TO (pc M.c) l) (now : Nat) (w : World) (h : Dw B w d M.c) (hB : B ≤ w.heap.size) : Calls Try.prog 31 #[.agg #[.slice (some ⟨d.gx, 0, none⟩) M.c.length d.cx, .slice (some ⟨d.gu, 0, none⟩) M.c.length d.cu, .slice (some ⟨d.gt, 0, none⟩) M.c.length d.ct, .int .i64 (M.h : Nat)], .int .u64 (now : Nat)] w fun e w' => ∃ (d' : Dv) (A : Option Addr) (cap : Nat), e = .returned (.tuple #[.agg #[.slice (some ⟨d'.gx, 0, none⟩) M.c.length d'.cx, .slice (some ⟨d'.gu, 0, none⟩) M.c.length d'.cu, .slice (some ⟨d'.gt, 0, none⟩) M.c.length d'.ct, .int .i64 (M.h : Nat)], .slice A (goneQ (pc M.c) (W.dueL l now)).length cap]) ∧ Dw B w' d' (frA M.c (W.dueL l now)) ∧ Sl qf w' A cap (goneQ (pc M.c) (W.dueL l now)) ∧ Nw w.heap.size A ∧ Below w.heap.size w w' := by
  refine (radv_any B d M hok l ht now w h hB).mono ?_
  rintro e w' ⟨d', A, cap, h1, h2⟩
  rw [dV_eq] at h1
  simp only [frA_len] at h1
  exact ⟨d', A, cap, h1, h2⟩
theorem rvic_lit (B : Nat) (d : Dv) (M : Ms Ev) (hok : M.Ok) (hfull : ∀ j, j < M.c.length → us M.c j = true) (w : World) (h : Dw B w d M.c) (hB : B ≤ w.heap.size) : Calls Try.prog 49 #[.agg #[.slice (some ⟨d.gx, 0, none⟩) M.c.length d.cx, .slice (some ⟨d.gu, 0, none⟩) M.c.length d.cu, .slice (some ⟨d.gt, 0, none⟩) M.c.length d.ct, .int .i64 (M.h : Nat)]] w fun e w' => ∃ d' : Dv, e = .returned (.tuple #[.agg #[.slice (some ⟨d'.gx, 0, none⟩) M.c.length d'.cx, .slice (some ⟨d'.gu, 0, none⟩) M.c.length d'.cu, .slice (some ⟨d'.gt, 0, none⟩) M.c.length d'.ct, .int .i64 ((vicM M).1.h : Nat)], .int .i64 ((vicM M).2.getD 0 : Nat)]) ∧ Dw B w' d' (vicM M).1.c ∧ Below w.heap.size w w' := by
  refine (rvic_any B d M hok hfull w h hB).mono ?_
  rintro e w' ⟨d', h1, h2⟩
  rw [dV_eq, vicM_len hok] at h1
  exact ⟨d', h1, h2⟩
theorem sl_setRow {α : Type} {f : α → List Value} {w : World} {A : Option Addr} {cap n q : Nat} {l : List α} (h : Sl f w A cap l) (hn : Nw n A) (hq : q < n) (cs : Array Value) : Sl f (w.setRow q cs) A cap l := by
  refine ⟨h.nl, h.le, ?_⟩
  rcases h.has with h1 | ⟨b, off, h1, h2, h3⟩
  · exact .inl h1
  · refine .inr ⟨b, off, h1, by rw [setRow_size]; exact h2, fun j u hj => ?_⟩
    have hb := hn b off h1
    have e : (w.setRow q cs).cell? ⟨b, off + j, none⟩ = w.cell? ⟨b, off + j, none⟩ := by
      unfold World.cell?
      rw [setRow_other w q b cs (by omega)]
    rw [e]
    exact h3 j u hj
theorem nw_le {n m : Nat} {A : Option Addr} (h : Nw n A) (hm : m ≤ n) : Nw m A := fun b off e => Nat.le_trans hm (h b off e)
theorem sl_one (w : World) (r : Qu) : Sl qf (w.alloc (Obj.cells #[.string r.n, .int .u16 (r.k : Nat), .int .u16 (r.c : Nat)] 35)) (some ⟨w.heap.size, 0, none⟩) 1 [r] := by
  refine ⟨(fun h => by cases h), Nat.le_refl _, .inr ⟨w.heap.size, 0, rfl, by simp, fun j u hj => ?_⟩⟩
  have h1 := newQ w r j u (by simpa using hj)
  rw [Addr.add_lit] at h1
  exact h1
theorem nw_some (n : Nat) : Nw n (some ⟨n, 0, none⟩) := fun b off h => by cases h; exact Nat.le_refl _
theorem Bx.set {B q r g : Nat} {w w1 : World} {d : Dv} {M : Ms Ev} {old : Array Value} (h : Bx B q r w w1 d M) (hr : r < g) (hb : Blk w1 g 29 old) (cs : Array Value) : Bx B q r w (w1.setRow g cs) d M := by
  have h1 := h.qr
  have h2 := h.q0
  exact ⟨h.bx.eq (setRow_other w1 g q cs (by omega)), h.br.eq (setRow_other w1 g r cs (by omega)), h.qr, h.q0, setRow_below h.b (by omega) cs, h.D.setRow hb⟩
theorem frA_ok {M : Ms Ev} (hok : M.Ok) (D : List W.Ti) : (⟨frA M.c D, M.h⟩ : Ms Ev).Ok := ⟨by rw [frA_len]; exact hok.n1, by rw [frA_len]; exact hok.n64, by rw [frA_len]; exact hok.hn⟩
theorem full_of {M : Ms Ev} (hr : ¬ (keysOf (pc M.c)).length < M.c.length) : ∀ j, j < M.c.length → us M.c j = true := by
  have h1 := first_cnt (pc M.c)
  rw [keys_len] at hr
  rw [pc_len, decide_eq_false hr] at h1
  intro j hj
  have h2 := full_us (c := pc M.c) (by cases h3 : firstC (pc M.c) with | none => rfl | some k => rw [h3] at h1; cases h1) (k := j) (by rw [pc_len]; exact hj)
  rw [us_pc] at h2
  exact h2
set_option maxRecDepth 100000 in
set_option maxHeartbeats 4000000 in
theorem rins_e (B : Nat) (x : Ev) (d : Dv) (M : Ms Ev) (hok : M.Ok) (now : Nat) (w : World) (h : Dw B w d M.c) (hB : B ≤ w.heap.size) (hx : now < x.e.ex) (hs : slotOf (pc M.c) x.e.q = none) (hr : ¬ (keysOf (pc M.c)).length < M.c.length) (l : List W.Ti) (ht : TO (pc M.c) l) (hd : W.dueL l now ≠ []) : Calls Try.prog 28 #[dV d M, .agg (evL x).toArray, .int .u64 (now : Nat)] w fun e w' => ∃ (d' : Dv) (A : Option Addr) (cap : Nat), e = .returned (.tuple #[dV d' ((putM ⟨frA M.c (W.dueL l now), M.h⟩ x).1), .slice A (goneQ (pc M.c) (W.dueL l now)).length cap, .int .i64 (0)]) ∧ Dw B w' d' ((putM ⟨frA M.c (W.dueL l now), M.h⟩ x).1).c ∧ Sl qf w' A cap (goneQ (pc M.c) (W.dueL l now)) ∧ Nw w.heap.size A ∧ Below w.heap.size w w' := by
  have h3 := bx_mid h (evL x).toArray 39
  obtain ⟨T3, hT3⟩ : ∃ T3 : World, ((w.alloc (Obj.cells #[.slice (some ⟨d.gx, 0, none⟩) M.c.length d.cx, .slice (some ⟨d.gu, 0, none⟩) M.c.length d.cu, .slice (some ⟨d.gt, 0, none⟩) M.c.length d.ct, .int .i64 (M.h : Nat)] 29)).alloc (Obj.cells (evL x).toArray 39)).alloc (Obj.cells zD 29) = T3 := ⟨_, rfl⟩
  rw [hT3] at h3
  have HT := Lib.hid h3.1
  have HE := Lib.hid h3.2
  have HC := Lib.hid (at_any B x.e.q d M hok T3 h3.1.D)
  have HBB := Lib.hid hB
  have h64 := hok.n64
  rw [dV_eq] at HC ⊢
  unfold zD at hT3
  have hx2 : ¬ x.e.ex ≤ now := by omega
  rw [hs] at HC
  simp only [atI] at HC
  have HK := Lib.hid (fun W hD => rkeys_any B d M hok W hD)
  rw [dV_eq] at HK
  have HA := Lib.hid (fun W hD hBW => radv_lit B d M hok l ht now W hD hBW)
  have HP := Lib.hid (fun d6 Wx hD hBW => put_lit2 B x d6 ⟨frA M.c (W.dueL l now), M.h⟩ (frA_ok hok _) M.c.length M.h (frA_len _ _) rfl Wx hD hBW)
  have HV := Lib.hid (fun d' => dV_of d' (M := M) (N := (putM ⟨frA M.c (W.dueL l now), M.h⟩ x).1) ((putM_len _ x).trans (frA_len _ _)) (by unfold putM; split <;> rfl))
  have hg : 0 < (goneQ (pc M.c) (W.dueL l now)).length := by rw [goneQ_len]; exact List.length_pos_iff.2 hd
  generalize W.dueL l now = D at *
  generalize goneQ (pc M.c) D = gl at *
  have hg0 : ((gl.length : Int) == 0) = false := by rw [beq_eq_false_iff_ne]; omega
  have hgn : ¬ gl.length = 0 := by omega
  have hgm : ¬ gl = [] := fun e => by subst e; exact hgn rfl
  clear hd ht
  clear h hok hB h3 hs
  go_enter Try.func28, Try.ntmps28
  go_upto_region 1 with (fail)
  try rw [hT3]
  clear hT3
  generalize T3 = w1 at *
  obtain ⟨e0, e1, e2, e3, e4, e5, e6⟩ := e_cells (x := x) HE.out
  go_upto_region 8 with (first | (refine wpList_load_row rfl 29 _ rfl (w.heap.size) rfl 29 _ _ _ HT.out.bx Try.underlying29 rfl infoD ?_) | (go_at_call 45; with_reducible (refine HC.out.mono ?_); rintro e w3 ⟨rfl, hb3⟩; have HX3 := Lib.hid (HT.out.low hb3); have HE3 := Lib.hid (HE.out.eq (hb3.block _ HE.out.lt)); clear hb3))
  clear e0 e1 e2 e3 e4 e5 e6
  have hd := (Below.refl w3.heap.size w3).drew
  have HX4 := Lib.hid (HX3.out.low hd)
  have HE4 := Lib.hid (HE3.out.eq (hd.block _ HE3.out.lt))
  have HS0 := Lib.hid (bx_cells HX4.out)
  clear hd HX3 HE3 HT HE HC
  go_region_held3 (fun w' => w'.cell? ⟨w.heap.size, 0, none⟩ = some (.slice (some ⟨d.gx, 0, none⟩) M.c.length d.cx) ∧ w'.cell? ⟨w.heap.size, 1, none⟩ = some (.slice (some ⟨d.gu, 0, none⟩) M.c.length d.cu) ∧ w'.cell? ⟨w.heap.size, 2, none⟩ = some (.slice (some ⟨d.gt, 0, none⟩) M.c.length d.ct) ∧ w'.cell? ⟨w.heap.size, 3, none⟩ = some (.int .i64 (M.h : Nat))) (first | exact HS0.out | exact HS1.out) (first
      | (go_at_call 15; (with_reducible (refine (HK.out _ HX4.out.D).mono ?_)); rintro e w5 ⟨A5, c5, rfl, hs5, hb5⟩; have HX5 := Lib.hid (HX4.out.low hb5); have HE5 := Lib.hid (HE4.out.eq (hb5.block _ HE4.out.lt)); have HS1 := Lib.hid (bx_cells HX5.out); clear hs5 hb5))
  clear HS0 HS1 HX4 HE4 HK
  go_upto_region 11 with (first | (refine wpList_load_row rfl 29 _ rfl (w.heap.size) rfl 29 _ _ _ HX5.out.bx Try.underlying29 rfl infoD ?_) | (refine wpList_store_row rfl 29 _ _ rfl (w6.heap.size) _ rfl rfl 29 _ HN6.out.1 infoD rfl (all4 _ _ _ _ _ _ _ _) ?_) | (go_at_call 31; with_reducible (refine (HA.out _ HX5.out.D (Nat.le_trans HBB.out HX5.out.b.size)).mono ?_); rintro e w6 ⟨d6, A6, c6, rfl, hd6, hs6, hn6, hb6⟩; have HX6 := Lib.hid (HX5.out.low hb6); have HE6 := Lib.hid (HE5.out.eq (hb6.block _ HE5.out.lt)); have HD6 := Lib.hid (And.intro hd6 (And.intro hs6 hn6)); have HN6 := Lib.hid (new_sh w6 #[.slice (some ⟨d6.gx, 0, none⟩) M.c.length d6.cx, .slice (some ⟨d6.gu, 0, none⟩) M.c.length d6.cu, .slice (some ⟨d6.gt, 0, none⟩) M.c.length d6.ct, .int .i64 (M.h : Nat)]); have HB6 := Lib.hid hb6; unfold zD at HN6; clear hd6 hs6 hn6 hb6))
  obtain ⟨_, k7, b7⟩ := HN6.out
  have HX7 := Lib.hid (HX6.out.low b7)
  have HE7 := Lib.hid (HE6.out.eq (b7.block _ HE6.out.lt))
  have HD7 := Lib.hid (HD6.out.1.below b7)
  have HS7 := Lib.hid (And.intro (HD6.out.2.1.below' b7) HD6.out.2.2)
  have HR7 := Lib.hid (show w.heap.size + 2 < w5.heap.size from HX5.out.br.lt)
  have hrr : w.heap.size + 2 < w6.heap.size := Nat.lt_of_lt_of_le HR7.out HB6.out.size
  have HK7 := Lib.hid (And.intro k7 hrr)
  clear HN6 k7 b7 hrr HX6 HE6 HD6
  generalize (w6.alloc (Obj.cells #[Value.slice none 0 0, .slice none 0 0, .slice none 0 0, .int .i64 0] 29)).setRow w6.heap.size #[.slice (some ⟨d6.gx, 0, none⟩) M.c.length d6.cx, .slice (some ⟨d6.gu, 0, none⟩) M.c.length d6.cu, .slice (some ⟨d6.gt, 0, none⟩) M.c.length d6.ct, .int .i64 (M.h : Nat)] = w7 at *
  generalize w6.heap.size = r10 at *
  go_wp2_with (first | (refine wpList_load_row rfl 29 _ rfl (r10) rfl 29 _ _ _ HK7.out.1 Try.underlying29 rfl infoD ?_) | (refine wpList_load_row rfl 39 _ rfl (w.heap.size + 1) rfl 39 _ _ _ HE7.out Try.underlying39 rfl (infoEa _) ?_) | (refine wpList_store_row rfl 29 _ _ rfl (w.heap.size + 2) _ rfl rfl 29 _ HR8.out.1 infoD rfl (all4 _ _ _ _ _ _ _ _) ?_) | (go_at_call 48; with_reducible (refine (HP.out d6 _ HD7.out (Nat.le_trans HBB.out HX7.out.b.size)).mono ?_); rintro e w8 ⟨d', rfl, hd8, hb8⟩; have HR8 := Lib.hid (HX7.out.done hd8 hb8 #[.slice (some ⟨d'.gx, 0, none⟩) M.c.length d'.cx, .slice (some ⟨d'.gu, 0, none⟩) M.c.length d'.cu, .slice (some ⟨d'.gt, 0, none⟩) M.c.length d'.ct, .int .i64 (M.h : Nat)]); have HB8 := Lib.hid hb8; clear hd8 hb8))
  have hs8 := sl_setRow (HS7.out.1.below' HB8.out) HS7.out.2 HR7.out #[.slice (some ⟨d'.gx, 0, none⟩) M.c.length d'.cx, .slice (some ⟨d'.gu, 0, none⟩) M.c.length d'.cu, .slice (some ⟨d'.gt, 0, none⟩) M.c.length d'.ct, .int .i64 (M.h : Nat)]
  refine ret_d3 rfl rfl rfl rfl rfl (setRow_heap _ _ _ _ _ _ HR8.out.1) ⟨d', A6, c6, ?_, HR8.out.2.1, hs8, nw_le HS7.out.2 HX5.out.b.size, HR8.out.2.2⟩
  rw [← HV.out]
  rfl
set_option maxRecDepth 100000 in
set_option maxHeartbeats 4000000 in
theorem rins_f (B : Nat) (x : Ev) (d : Dv) (M : Ms Ev) (hok : M.Ok) (now : Nat) (w : World) (h : Dw B w d M.c) (hB : B ≤ w.heap.size) (hx : now < x.e.ex) (hs : slotOf (pc M.c) x.e.q = none) (hr : ¬ (keysOf (pc M.c)).length < M.c.length) (l : List W.Ti) (ht : TO (pc M.c) l) (hd : W.dueL l now = []) : Calls Try.prog 28 #[dV d M, .agg (evL x).toArray, .int .u64 (now : Nat)] w fun e w' => ∃ (d' : Dv) (A : Option Addr) (cap : Nat), e = .returned (.tuple #[dV d' ((putM ⟨(vicM M).1.c.set ((vicM M).2.getD 0) Z0, (vicM M).1.h⟩ x).1), .slice A ([(M.c.getD ((vicM M).2.getD 0) Z0).x.e.q]).length cap, .int .i64 (0)]) ∧ Dw B w' d' ((putM ⟨(vicM M).1.c.set ((vicM M).2.getD 0) Z0, (vicM M).1.h⟩ x).1).c ∧ Sl qf w' A cap ([(M.c.getD ((vicM M).2.getD 0) Z0).x.e.q]) ∧ Nw w.heap.size A ∧ Below w.heap.size w w' := by
  have h3 := bx_mid h (evL x).toArray 39
  obtain ⟨T3, hT3⟩ : ∃ T3 : World, ((w.alloc (Obj.cells #[.slice (some ⟨d.gx, 0, none⟩) M.c.length d.cx, .slice (some ⟨d.gu, 0, none⟩) M.c.length d.cu, .slice (some ⟨d.gt, 0, none⟩) M.c.length d.ct, .int .i64 (M.h : Nat)] 29)).alloc (Obj.cells (evL x).toArray 39)).alloc (Obj.cells zD 29) = T3 := ⟨_, rfl⟩
  rw [hT3] at h3
  have HT := Lib.hid h3.1
  have HE := Lib.hid h3.2
  have HC := Lib.hid (at_any B x.e.q d M hok T3 h3.1.D)
  have HBB := Lib.hid hB
  have h64 := hok.n64
  rw [dV_eq] at HC ⊢
  unfold zD at hT3
  have hx2 : ¬ x.e.ex ≤ now := by omega
  rw [hs] at HC
  simp only [atI] at HC
  have HK := Lib.hid (fun W hD => rkeys_any B d M hok W hD)
  rw [dV_eq] at HK
  have HA := Lib.hid (fun W hD hBW => radv_lit B d M hok l ht now W hD hBW)
  rw [hd] at HA
  have hfull := full_of hr
  have HVI := Lib.hid (fun W hD hBW => rvic_lit B d M hok hfull W hD hBW)
  have hvn : (vicM M).2.getD 0 < M.c.length := by
    obtain ⟨v, hv⟩ := vicM_some hok (fun e => by
      have h2 := all_mem.2 (And.intro hok.hn (hfull _ hok.hn))
      rw [e] at h2; cases h2)
    have h2 := (all_mem.1 (vicM_mem hok hv)).1
    rw [hv]
    exact h2
  have hNo := vicM_ok hok
  have hNl := vicM_len hok
  generalize (vicM M).2.getD 0 = v at *
  generalize (vicM M).1 = N at *
  have hZl : (N.c.set v Z0).length = M.c.length := by rw [List.length_set]; exact hNl
  have hZo : (⟨N.c.set v Z0, N.h⟩ : Ms Ev).Ok := ⟨by rw [hZl]; exact hok.n1, by rw [hZl]; exact hok.n64, by rw [hZl, ← hNl]; exact hNo.hn⟩
  have HZ := Lib.hid (fun d8 Wx hD hBW => with_zero2 B v d8 N hNo M.c.length N.h hNl rfl hvn Wx hD hBW)
  have HP := Lib.hid (fun d9 Wx hD hBW => put_lit2 B x d9 ⟨N.c.set v Z0, N.h⟩ hZo M.c.length N.h hZl rfl Wx hD hBW)
  have HV := Lib.hid (fun d' => (show Value.agg #[.slice (some ⟨d'.gx, 0, none⟩) M.c.length d'.cx, .slice (some ⟨d'.gu, 0, none⟩) M.c.length d'.cu, .slice (some ⟨d'.gt, 0, none⟩) M.c.length d'.ct, .int .i64 (N.h : Nat)] = dV d' (putM ⟨N.c.set v Z0, N.h⟩ x).1 by
    have h1 : (putM ⟨N.c.set v Z0, N.h⟩ x).1.c.length = M.c.length := (putM_len _ x).trans hZl
    have h2 : (putM ⟨N.c.set v Z0, N.h⟩ x).1.h = N.h := by unfold putM; split <;> rfl
    rw [dV_eq, h1, h2]))
  have hg1 : (0 : Int) ≤ (v : Nat) := by omega
  have hg2 : (v : Int) < (M.c.length : Nat) := by omega
  have HVN := Lib.hid hvn
  clear hfull hvn hNo hNl hZl hZo hd ht
  obtain ⟨vh, HVH⟩ : ∃ vh, Hid (N.h = vh) := ⟨_, Lib.hid rfl⟩
  simp only [HVH.out] at HVI HZ HP HV ⊢
  obtain ⟨r, HRQ⟩ : ∃ r, Hid ((M.c.getD v Z0).x.e.q = r) := ⟨_, Lib.hid rfl⟩
  rw [HRQ.out]
  simp only [goneQ, List.map_nil, List.length_nil, frA, List.foldl_nil] at HA
  clear h hok hB h3 hs
  go_enter Try.func28, Try.ntmps28
  go_upto_region 1 with (fail)
  try rw [hT3]
  clear hT3
  generalize T3 = w1 at *
  obtain ⟨e0, e1, e2, e3, e4, e5, e6⟩ := e_cells (x := x) HE.out
  go_upto_region 8 with (first | (refine wpList_load_row rfl 29 _ rfl (w.heap.size) rfl 29 _ _ _ HT.out.bx Try.underlying29 rfl infoD ?_) | (go_at_call 45; with_reducible (refine HC.out.mono ?_); rintro e w3 ⟨rfl, hb3⟩; have HX3 := Lib.hid (HT.out.low hb3); have HE3 := Lib.hid (HE.out.eq (hb3.block _ HE.out.lt)); clear hb3))
  clear e0 e1 e2 e3 e4 e5 e6
  have hd := (Below.refl w3.heap.size w3).drew
  have HX4 := Lib.hid (HX3.out.low hd)
  have HE4 := Lib.hid (HE3.out.eq (hd.block _ HE3.out.lt))
  have HS0 := Lib.hid (bx_cells HX4.out)
  clear hd HX3 HE3 HT HE HC
  go_region_held3 (fun w' => w'.cell? ⟨w.heap.size, 0, none⟩ = some (.slice (some ⟨d.gx, 0, none⟩) M.c.length d.cx) ∧ w'.cell? ⟨w.heap.size, 1, none⟩ = some (.slice (some ⟨d.gu, 0, none⟩) M.c.length d.cu) ∧ w'.cell? ⟨w.heap.size, 2, none⟩ = some (.slice (some ⟨d.gt, 0, none⟩) M.c.length d.ct) ∧ w'.cell? ⟨w.heap.size, 3, none⟩ = some (.int .i64 (M.h : Nat))) (first | exact HS0.out | exact HS1.out) (first
      | (go_at_call 15; (with_reducible (refine (HK.out _ HX4.out.D).mono ?_)); rintro e w5 ⟨A5, c5, rfl, hs5, hb5⟩; have HX5 := Lib.hid (HX4.out.low hb5); have HE5 := Lib.hid (HE4.out.eq (hb5.block _ HE4.out.lt)); have HS1 := Lib.hid (bx_cells HX5.out); clear hs5 hb5))
  clear HS0 HS1 HX4 HE4 HK
  go_upto_region 11 with (first | (refine wpList_load_row rfl 29 _ rfl (w.heap.size) rfl 29 _ _ _ HX5.out.bx Try.underlying29 rfl infoD ?_) | (refine wpList_store_row rfl 29 _ _ rfl (w6.heap.size) _ rfl rfl 29 _ HN6.out.1 infoD rfl (all4 _ _ _ _ _ _ _ _) ?_) | (go_at_call 31; with_reducible (refine (HA.out _ HX5.out.D (Nat.le_trans HBB.out HX5.out.b.size)).mono ?_); rintro e w6 ⟨d6, A6, c6, rfl, hd6, hs6, hn6, hb6⟩; have HX6 := Lib.hid (HX5.out.low hb6); have HE6 := Lib.hid (HE5.out.eq (hb6.block _ HE5.out.lt)); have HD6 := Lib.hid (And.intro hd6 (And.intro hs6 hn6)); have HN6 := Lib.hid (new_sh w6 #[.slice (some ⟨d6.gx, 0, none⟩) M.c.length d6.cx, .slice (some ⟨d6.gu, 0, none⟩) M.c.length d6.cu, .slice (some ⟨d6.gt, 0, none⟩) M.c.length d6.ct, .int .i64 (M.h : Nat)]); have HB6 := Lib.hid hb6; unfold zD at HN6; clear hd6 hs6 hn6 hb6))
  obtain ⟨_, k7, b7⟩ := HN6.out
  have HX7 := Lib.hid (HX6.out.low b7)
  have HE7 := Lib.hid (HE6.out.eq (b7.block _ HE6.out.lt))
  have HD7 := Lib.hid (HD6.out.1.below b7)
  have HS7 := Lib.hid (And.intro (HD6.out.2.1.below' b7) HD6.out.2.2)
  have HR7 := Lib.hid (show w.heap.size + 2 < w5.heap.size from HX5.out.br.lt)
  have hrr : w.heap.size + 2 < w6.heap.size := Nat.lt_of_lt_of_le HR7.out HB6.out.size
  have HK7 := Lib.hid (And.intro k7 hrr)
  clear HN6 k7 b7 hrr HX6 HE6 HD6
  generalize (w6.alloc (Obj.cells #[Value.slice none 0 0, .slice none 0 0, .slice none 0 0, .int .i64 0] 29)).setRow w6.heap.size #[.slice (some ⟨d6.gx, 0, none⟩) M.c.length d6.cx, .slice (some ⟨d6.gu, 0, none⟩) M.c.length d6.cu, .slice (some ⟨d6.gt, 0, none⟩) M.c.length d6.ct, .int .i64 (M.h : Nat)] = w7 at *
  generalize w6.heap.size = r10 at *
  go_upto_region 13 with (first | (refine wpList_load_row rfl 29 _ rfl (w.heap.size) rfl 29 _ _ _ HX7.out.bx Try.underlying29 rfl infoD ?_) | (refine wpList_store_row rfl 29 _ _ rfl (w8.heap.size) _ rfl rfl 29 _ HN8.out.1 infoD rfl (all4 _ _ _ _ _ _ _ _) ?_) | (go_at_call 49; with_reducible (refine (HVI.out _ HX7.out.D (Nat.le_trans HBB.out HX7.out.b.size)).mono ?_); rintro e w8 ⟨d8, rfl, hd8, hb8⟩; have HX8 := Lib.hid (HX7.out.low hb8); have HE8 := Lib.hid (HE7.out.eq (hb8.block _ HE7.out.lt)); have HD8 := Lib.hid hd8; have HK8 := Lib.hid (HK7.out.1.eq (hb8.block _ HK7.out.1.lt)); have HN8 := Lib.hid (new_sh w8 #[.slice (some ⟨d8.gx, 0, none⟩) M.c.length d8.cx, .slice (some ⟨d8.gu, 0, none⟩) M.c.length d8.cu, .slice (some ⟨d8.gt, 0, none⟩) M.c.length d8.ct, .int .i64 (vh : Nat)]); have HB8 := Lib.hid hb8; unfold zD at HN8; clear hd8 hb8))
  obtain ⟨_, k9, b9⟩ := HN8.out
  have HX9 := Lib.hid (HX8.out.low b9)
  have HE9 := Lib.hid (HE8.out.eq (b9.block _ HE8.out.lt))
  have HD9 := Lib.hid (HD8.out.below b9)
  have HK9 := Lib.hid (HK8.out.eq (b9.block _ HK8.out.lt))
  have HKV := Lib.hid k9
  have HR9 := Lib.hid (show r10 < w8.heap.size from Nat.lt_of_lt_of_le HK7.out.1.lt HB8.out.size)
  have HKR := Lib.hid HK7.out.2
  clear HN8 k9 b9 HX8 HE8 HD8 HK8 HX7 HE7 HK7
  generalize (w8.alloc (Obj.cells #[Value.slice none 0 0, .slice none 0 0, .slice none 0 0, .int .i64 0] 29)).setRow w8.heap.size #[.slice (some ⟨d8.gx, 0, none⟩) M.c.length d8.cx, .slice (some ⟨d8.gu, 0, none⟩) M.c.length d8.cu, .slice (some ⟨d8.gt, 0, none⟩) M.c.length d8.ct, .int .i64 (vh : Nat)] = w9 at *
  generalize w8.heap.size = r12 at *
  obtain ⟨r0, r1, r2⟩ := q_at (HX9.out.D.e0 HVN.out)
  rw [HRQ.out] at r0 r1 r2
  have x0 := HX9.out.bx.cell 0
  simp only [List.getElem?_toArray, List.getElem?_cons_zero] at x0
  have hal := (Below.refl w9.heap.size w9).alloc (Nat.le_refl _) (Obj.cells #[.string r.n, .int .u16 (r.k : Nat), .int .u16 (r.c : Nat)] 35)
  have HX10 := Lib.hid (HX9.out.low hal)
  have HE10 := Lib.hid (HE9.out.eq (hal.block _ HE9.out.lt))
  have HD10 := Lib.hid (HD9.out.below hal)
  have HK10 := Lib.hid (HK9.out.eq (hal.block _ HK9.out.lt))
  have HV10 := Lib.hid (HKV.out.eq (hal.block _ HKV.out.lt))
  have HS10 := Lib.hid (And.intro (sl_one w9 r) (nw_some w9.heap.size))
  have HQ9 := Lib.hid (And.intro HX9.out.br.lt (And.intro HK9.out.lt HX9.out.b.size))
  clear hal HX9 HE9 HD9 HK9 HKV
  go_upto_region 14 with (fail)
  generalize w9.alloc (Obj.cells #[.string r.n, .int .u16 (r.k : Nat), .int .u16 (r.c : Nat)] 35) = w10 at *
  generalize w9.heap.size = r13 at *
  clear r0 r1 r2 x0
  go_upto_region 15 with (first | (refine wpList_load_row rfl 29 _ rfl (r12) rfl 29 _ _ _ HV10.out Try.underlying29 rfl infoD ?_) | (refine wpList_store_row rfl 29 _ _ rfl (r10) _ rfl rfl 29 _ HK11.out.1 infoD rfl (all4 _ _ _ _ _ _ _ _) ?_) | (go_at_call 47; with_reducible (refine (HZ.out _ _ HD10.out (Nat.le_trans HBB.out HX10.out.b.size)).mono ?_); rintro e w11 ⟨d11, rfl, hd11, hb11⟩; have HK11 := Lib.hid (And.intro (HK10.out.eq (hb11.block _ HK10.out.lt)) hd11); have HB11 := Lib.hid hb11; clear hd11 hb11))
  have hx12 := (HX10.out.low HB11.out).set HKR.out HK11.out.1 #[.slice (some ⟨d11.gx, 0, none⟩) M.c.length d11.cx, .slice (some ⟨d11.gu, 0, none⟩) M.c.length d11.cu, .slice (some ⟨d11.gt, 0, none⟩) M.c.length d11.ct, .int .i64 (vh : Nat)]
  have he12 := (HE10.out.eq (HB11.out.block _ HE10.out.lt)).eq (setRow_other w11 r10 (w.heap.size + 1) #[.slice (some ⟨d11.gx, 0, none⟩) M.c.length d11.cx, .slice (some ⟨d11.gu, 0, none⟩) M.c.length d11.cu, .slice (some ⟨d11.gt, 0, none⟩) M.c.length d11.ct, .int .i64 (vh : Nat)] (by have := HKR.out; omega))
  have HD12 := Lib.hid (HK11.out.2.setRow (cs := #[.slice (some ⟨d11.gx, 0, none⟩) M.c.length d11.cx, .slice (some ⟨d11.gu, 0, none⟩) M.c.length d11.cu, .slice (some ⟨d11.gt, 0, none⟩) M.c.length d11.ct, .int .i64 (vh : Nat)]) HK11.out.1)
  have HK12 := Lib.hid (show Blk (w11.setRow r10 #[.slice (some ⟨d11.gx, 0, none⟩) M.c.length d11.cx, .slice (some ⟨d11.gu, 0, none⟩) M.c.length d11.cu, .slice (some ⟨d11.gt, 0, none⟩) M.c.length d11.ct, .int .i64 (vh : Nat)]) r10 29 #[.slice (some ⟨d11.gx, 0, none⟩) M.c.length d11.cx, .slice (some ⟨d11.gu, 0, none⟩) M.c.length d11.cu, .slice (some ⟨d11.gt, 0, none⟩) M.c.length d11.ct, .int .i64 (vh : Nat)] from setRow_heap _ _ _ _ _ _ HK11.out.1)
  have hs12 := sl_setRow (HS10.out.1.below' HB11.out) HS10.out.2 HQ9.out.2.1 #[.slice (some ⟨d11.gx, 0, none⟩) M.c.length d11.cx, .slice (some ⟨d11.gu, 0, none⟩) M.c.length d11.cu, .slice (some ⟨d11.gt, 0, none⟩) M.c.length d11.ct, .int .i64 (vh : Nat)]
  have HX12 := Lib.hid hx12
  have HE12 := Lib.hid he12
  have HS12 := Lib.hid (And.intro hs12 HS10.out.2)
  clear hx12 he12 hs12 HX10 HE10 HD10 HK10 HS10
  generalize w11.setRow r10 #[.slice (some ⟨d11.gx, 0, none⟩) M.c.length d11.cx, .slice (some ⟨d11.gu, 0, none⟩) M.c.length d11.cu, .slice (some ⟨d11.gt, 0, none⟩) M.c.length d11.ct, .int .i64 (vh : Nat)] = w12 at *
  go_wp2_with (first | (refine wpList_load_row rfl 29 _ rfl (r10) rfl 29 _ _ _ HK12.out Try.underlying29 rfl infoD ?_) | (refine wpList_load_row rfl 39 _ rfl (w.heap.size + 1) rfl 39 _ _ _ HE12.out Try.underlying39 rfl (infoEa _) ?_) | (refine wpList_store_row rfl 29 _ _ rfl (w.heap.size + 2) _ rfl rfl 29 _ HR8.out.1 infoD rfl (all4 _ _ _ _ _ _ _ _) ?_) | (go_at_call 48; with_reducible (refine (HP.out d11 _ HD12.out (Nat.le_trans HBB.out HX12.out.b.size)).mono ?_); rintro e w14 ⟨d', rfl, hd14, hb14⟩; have HR8 := Lib.hid (HX12.out.done hd14 hb14 #[.slice (some ⟨d'.gx, 0, none⟩) M.c.length d'.cx, .slice (some ⟨d'.gu, 0, none⟩) M.c.length d'.cu, .slice (some ⟨d'.gt, 0, none⟩) M.c.length d'.ct, .int .i64 (vh : Nat)]); have HB8 := Lib.hid hb14; clear hd14 hb14))
  have hs8 := sl_setRow (HS12.out.1.below' HB8.out) HS12.out.2 HQ9.out.1 #[.slice (some ⟨d'.gx, 0, none⟩) M.c.length d'.cx, .slice (some ⟨d'.gu, 0, none⟩) M.c.length d'.cu, .slice (some ⟨d'.gt, 0, none⟩) M.c.length d'.ct, .int .i64 (vh : Nat)]
  refine ret_d3 rfl rfl rfl rfl rfl (setRow_heap _ _ _ _ _ _ HR8.out.1) ⟨d', some ⟨r13, 0, none⟩, 1, ?_, HR8.out.2.1, hs8, nw_le HS12.out.2 HQ9.out.2.2, HR8.out.2.2⟩
  rw [← HV.out]
  rfl
end Go.Proofs.Ytjjanogfcfapcaa.D
