/- The law SlotsPlay: its walk (written by tools/gen_spl.py). -/
import Derived.Test.YtpoienhmnaeaiaaSop
namespace Go.Proofs.Ytpoienhmnaeaiaa
open Go.RowKit
set_option linter.unusedVariables false

theorem cap_b {w : World} {g b : Nat} {M : Ms} (h : Sp w g b M) : Calls Try.prog 17 #[.pointer (some ⟨g, 0, none⟩)] w fun e w' => e = .returned (.int .i64 (M.c.length : Nat)) ∧ Below w.heap.size w w' :=
  (cap_any h).mono fun e w' h2 => ⟨h2.1, by rw [h2.2]; exact Below.refl _ _⟩
theorem cap_n {w : World} {g b n : Nat} {M : Ms} (h : Sp w g b M) (e : M.c.length = n) : Calls Try.prog 17 #[.pointer (some ⟨g, 0, none⟩)] w fun e w' => e = .returned (.int .i64 (n : Nat)) ∧ Below w.heap.size w w' := by
  subst e
  exact cap_b h
theorem rall_b (B : Nat) (d : Dv) (M : Ms) (hok : M.Ok) (w : World) (h : Dw B w d M.c) : Calls Try.prog 16 #[.agg #[.slice (some ⟨d.gx, 0, none⟩) M.c.length d.cx, .slice (some ⟨d.gu, 0, none⟩) M.c.length d.cu, .slice (some ⟨d.gt, 0, none⟩) M.c.length d.ct, .int .i64 (M.h : Nat)]] w fun e w' => ∃ A cap, e = .returned (.slice A (allM M).length cap) ∧ Ns .i64 w' A (allM M) ∧ Below w.heap.size w w' := rall_any B d M hok w h
/-- What stands behind a deed and the comparison. -/
structure Pl (B g b q B0 : Nat) (w0 wr : World) (d : Dv) (M : Ms) : Prop where
  sp : Sp wr g b M
  dw : Dw B wr d M.c
  bq : Blk wr q 30 #[.slice (some ⟨d.gx, 0, none⟩) M.c.length d.cx, .slice (some ⟨d.gu, 0, none⟩) M.c.length d.cu, .slice (some ⟨d.gt, 0, none⟩) M.c.length d.ct, .int .i64 (M.h : Nat)]
  bl : Below B0 w0 wr
  sz : B ≤ wr.heap.size
theorem Pl.go {B g b q B0 : Nat} {w0 wr w' : World} {d : Dv} {M : Ms} (h : Pl B g b q B0 w0 wr d M) (hB : B0 ≤ b) (hb : Below wr.heap.size wr w') : Pl B g b q B0 w0 w' d M :=
  ⟨h.sp.keep hb, h.dw.below hb, h.bq.eq (hb.block _ h.bq.lt), h.bl.trans (hb.mono (by have := h.sp.bb.lt; omega)), Nat.le_trans h.sz hb.size⟩
theorem allM_le (M : Ms) (h : M.Ok) : (allM M).length ≤ 1000 := Nat.le_trans (allC_le _ _) (by have := h.n64; omega)

set_option maxRecDepth 100000 in
set_option maxHeartbeats 4000000 in
theorem play_walk (many : Int) (A : Option Addr) (cap : Nat) (l : List De) (wf : (Lit.int .i64 many).wf = true) (w : World) (hA : Ds w A cap l) : Calls Try.prog 3 #[.int .i64 many, .slice A l.length cap] w fun e w' => e = .returned (.bool true) ∧ Below w.heap.size w w' := by
  clear wf
  have HC0 := Lib.hid (shown_any w)
  by_cases hm : many < 1 ∨ 64 < many
  · have HN := Lib.hid (fun W => new_no many hm W)
    have HLN := Lib.hid (fun W => len_nil W)
    by_cases h1 : many < 1
    · have d1 : decide (many < 1) = true := by simpa using h1
      clear hm h1 hA
      go_enter Try.func3, Try.ntmps3
      go_wp2_with (first
        | (go_at_call 11; with_reducible (refine (HLN.out _).mono ?_); rintro e w2 ⟨rfl, rfl⟩)
        | (go_at_call 10; with_reducible (refine (HN.out _).mono ?_); rintro e w1 ⟨rfl, rfl⟩)
        | (go_at_call 9; with_reducible (refine HC0.out.mono ?_); rintro e w0 ⟨rfl, hb0⟩; have HB0 := Lib.hid hb0; clear hb0))
      go_ret
      exact ⟨rfl, HB0.out⟩
    · have d1 : decide (many < 1) = false := by simpa using h1
      have d2 : decide (64 < many) = true := by simp; omega
      clear hm h1 hA
      go_enter Try.func3, Try.ntmps3
      go_wp2_with (first
        | (go_at_call 11; with_reducible (refine (HLN.out _).mono ?_); rintro e w2 ⟨rfl, rfl⟩)
        | (go_at_call 10; with_reducible (refine (HN.out _).mono ?_); rintro e w1 ⟨rfl, rfl⟩)
        | (go_at_call 9; with_reducible (refine HC0.out.mono ?_); rintro e w0 ⟨rfl, hb0⟩; have HB0 := Lib.hid hb0; clear hb0))
      go_ret
      exact ⟨rfl, HB0.out⟩
  · obtain ⟨n, rfl⟩ : ∃ n : Nat, many = n := ⟨many.toNat, by omega⟩
    have hn1 : 1 ≤ n := by omega
    have hn64 : n ≤ 64 := by omega
    have d1 : decide ((n : Int) < 1) = false := by simp; omega
    have d2 : decide ((64 : Int) < (n : Nat)) = false := by simp; omega
    have HA := Lib.hid hA
    have HN := Lib.hid (fun W => new_any n hn1 hn64 W)
    have HRN := Lib.hid (fun W => rnew_any n hn1 hn64 W)
    clear hm hA
    go_enter Try.func3, Try.ntmps3
    go_upto_region 6 with (first
      | (go_at_call 12; with_reducible (refine (HRN.out _).mono ?_); rintro e w2 ⟨d0, rfl, hD2, hb2⟩; simp only [dV_eq])
      | (go_at_call 10; with_reducible (refine (HN.out _).mono ?_); rintro e w1 ⟨rfl, hs1, hb1, hz1⟩)
      | (go_at_call 9; with_reducible (refine HC0.out.mono ?_); rintro e w0 ⟨rfl, hb0⟩))
    have hb12 := hb0.trans ((hb1.trans (hb2.mono hb1.size)).mono hb0.size)
    have hal := (Below.refl w2.heap.size w2).alloc (Nat.le_refl _) (Obj.cells #[.slice (some ⟨d0.gx, 0, none⟩) (newM n).c.length d0.cx, .slice (some ⟨d0.gu, 0, none⟩) (newM n).c.length d0.cu, .slice (some ⟨d0.gt, 0, none⟩) (newM n).c.length d0.ct, .int .i64 ((newM n).h : Nat)] 30)
    have hq3 := Blk.new w2 30 #[.slice (some ⟨d0.gx, 0, none⟩) (newM n).c.length d0.cx, .slice (some ⟨d0.gu, 0, none⟩) (newM n).c.length d0.cu, .slice (some ⟨d0.gt, 0, none⟩) (newM n).c.length d0.ct, .int .i64 ((newM n).h : Nat)]
    have hP := Lib.hid (show Pl w1.heap.size (w0.heap.size + 1) w0.heap.size w2.heap.size w.heap.size w (w2.alloc (Obj.cells #[.slice (some ⟨d0.gx, 0, none⟩) (newM n).c.length d0.cx, .slice (some ⟨d0.gu, 0, none⟩) (newM n).c.length d0.cu, .slice (some ⟨d0.gt, 0, none⟩) (newM n).c.length d0.ct, .int .i64 ((newM n).h : Nat)] 30)) d0 (newM n) from ⟨(hs1.keep hb2).keep hal, hD2.below hal, hq3, hb12.alloc hb12.size _, Nat.le_trans hb2.size hal.size⟩)
    have HQ := Lib.hid (show w1.heap.size = w0.heap.size + 2 ∧ w1.heap.size ≤ w2.heap.size ∧ w.heap.size ≤ w0.heap.size from ⟨hz1, hb2.size, hb0.size⟩)
    have hnl : (newM n).c.length = n := by simp [newM]
    have HNL := Lib.hid hnl
    clear hs1 hb1 hz1 hD2 hb2 hb0 hb12 hal hq3 hnl HC0 HN HRN
    generalize w2.alloc (Obj.cells #[.slice (some ⟨d0.gx, 0, none⟩) (newM n).c.length d0.cx, .slice (some ⟨d0.gu, 0, none⟩) (newM n).c.length d0.cu, .slice (some ⟨d0.gt, 0, none⟩) (newM n).c.length d0.ct, .int .i64 ((newM n).h : Nat)] 30) = w3 at *
    generalize w1.heap.size = B at *
    generalize w2.heap.size = q at *
    generalize w0.heap.size = b at *
    go_wp2_with fail
    go_loopw [8] (fun v wr => ∃ (j : Nat) (d : Dv) (M : Ms), j ≤ l.length ∧ j ≤ 300 ∧ v = .int .i64 j ∧ M.c.length = n ∧ Pl B (b + 1) b q w.heap.size w wr d M) (fun v _ => 300 - (intOf v).toNat)
    case atStart => exact ⟨0, d0, newM n, Nat.zero_le _, Nat.zero_le _, rfl, HNL.out, hP.out⟩
    case round =>
      clear hP HNL
      obtain ⟨j, d, M, hj, hj3, rfl, hM, hPl⟩ := hrel
      by_cases hlt : j < l.length
      · have d3 : decide ((j : Int) < (l.length : Int)) = true := by simp; omega
        by_cases hl3 : j < 300
        · have d4 : decide ((j : Int) < 300) = true := by simp; omega
          obtain ⟨bb, off, rfl, hbb, a0, a1, a2⟩ := HA.out.has j hlt
          have hc : Rc0 B (b + 1) b q w.heap.size bb := ⟨by have := HQ.out; omega, by have := HQ.out; omega, by have := HQ.out; omega, hbb, by omega⟩
          generalize l[j] = dd at *
          have hb := hPl.bl
          have hR : Rt B (b + 1) b q w.heap.size w #[.slice (some ⟨d.gx, 0, none⟩) M.c.length d.cx, .slice (some ⟨d.gu, 0, none⟩) M.c.length d.cu, .slice (some ⟨d.gt, 0, none⟩) M.c.length d.ct, .int .i64 (M.h : Nat)] bb (off + j * 3) dd wr d M none := ⟨hPl.sp, hPl.dw, ⟨hPl.bq, (hb.cell (p := ⟨bb, off + j * 3, none⟩) hbb).trans a0, (hb.cell (p := ⟨bb, off + j * 3 + 1, none⟩) hbb).trans a1, (hb.cell (p := ⟨bb, off + j * 3 + 2, none⟩) hbb).trans a2⟩, hb, hPl.sz, fun r e => by cases e⟩
          have HR := Lib.hid (And.intro hR hc)
          have s0 : (0 : Int) ≤ (j : Nat) := by omega
          have s1 : (j : Int) < (l.length : Nat) := by omega
          have HM := Lib.hid (show (doM dd M).c.length = n by rw [doM_len hPl.sp.ok, hM])
          clear hPl hb a0 a1 a2 hR hc hM hbb
          go_upto_region 9 with (fail)
          go_cut [9, 10] (fun t r wx => DoX B (b + 1) b q w.heap.size w #[.slice (some ⟨d.gx, 0, none⟩) M.c.length d.cx, .slice (some ⟨d.gu, 0, none⟩) M.c.length d.cu, .slice (some ⟨d.gt, 0, none⟩) M.c.length d.ct, .int .i64 (M.h : Nat)] (doM dd M) t r wx)
          case first =>
            obtain ⟨hR, hc⟩ := HR.out
            have hR := hR.go hc ((Below.refl _ wr).drew)
            refine wp_region_held_drew (S := fun wq => Sq q #[.slice (some ⟨d.gx, 0, none⟩) M.c.length d.cx, .slice (some ⟨d.gu, 0, none⟩) M.c.length d.cu, .slice (some ⟨d.gt, 0, none⟩) M.c.length d.ct, .int .i64 (M.h : Nat)] bb (off + j * 3) dd wq) (by kernel_rfl) hR.sq (fun _ => ?_)
            generalize wr.drew = wk0 at *
            refine wpAnyH_take (i := 0) (v := ?_) rfl (by kernel_rfl) (by kernel_rfl) (by kernel_rfl) (fun _ _ _ h => h) (Or.inl ⟨by rfl, ?_⟩) (by assumption) ?_
            rotate_left
            · (intro wq hSw; go_simp; try (with_reducible rfl))
            simp only [Act.put, List.getElem_toArray, List.getElem_cons_zero, List.setIfInBounds_toArray, List.set_cons_zero, List.set_cons_succ]
            refine wpAnyH_take (i := 1) (v := .agg #[.slice (some ⟨d.gx, 0, none⟩) M.c.length d.cx, .slice (some ⟨d.gu, 0, none⟩) M.c.length d.cu, .slice (some ⟨d.gt, 0, none⟩) M.c.length d.ct, .int .i64 (M.h : Nat)]) rfl (by kernel_rfl) (by kernel_rfl) (by kernel_rfl) (fun _ _ _ h => h) (Or.inl ⟨by rfl, ?_⟩) (by assumption) ?_
            · (intro wq hSw; have b0 := hSw.bq.cell 0; have b1 := hSw.bq.cell 1; have b2 := hSw.bq.cell 2; have b3 := hSw.bq.cell 3; simp only [List.getElem?_toArray, List.getElem?_cons_zero, List.getElem?_cons_succ] at b0 b1 b2 b3; go_simp; try rfl)
            simp only [Act.put, List.getElem_toArray, List.getElem_cons_zero, List.getElem_cons_succ, List.setIfInBounds_toArray, List.set_cons_zero, List.set_cons_succ]
            refine wpAnyH_take (i := 2) (v := ?_) rfl (by kernel_rfl) (by kernel_rfl) (by kernel_rfl) (fun _ _ _ h => h) (Or.inl ⟨by rfl, ?_⟩) (by assumption) ?_
            rotate_left
            · (intro wq hSw; go_simp; try (with_reducible rfl))
            simp only [Act.put, List.getElem_toArray, List.getElem_cons_zero, List.getElem_cons_succ, List.setIfInBounds_toArray, List.set_cons_zero, List.set_cons_succ]
            refine wpAnyH_take (i := 3) (v := ?_) rfl (by kernel_rfl) (by kernel_rfl) (by kernel_rfl) (fun _ _ _ h => h) (Or.inl ⟨by rfl, ?_⟩) (by assumption) ?_
            rotate_left
            · (intro wq hSw; go_simp; try (with_reducible rfl))
            simp only [Act.put, List.getElem_toArray, List.getElem_cons_zero, List.getElem_cons_succ, List.setIfInBounds_toArray, List.set_cons_zero, List.set_cons_succ]
            refine wpAnyH_take (i := 4) (v := ?_) rfl (by kernel_rfl) (by kernel_rfl) (by kernel_rfl) (fun _ _ _ h => h) (Or.inl ⟨by rfl, ?_⟩) (by assumption) ?_
            rotate_left
            · (intro wq hSw; go_simp; try (with_reducible rfl))
            simp only [Act.put, List.getElem_toArray, List.getElem_cons_zero, List.getElem_cons_succ, List.setIfInBounds_toArray, List.set_cons_zero, List.set_cons_succ]
            refine wpAnyH_take (i := 5) (v := .agg #[.int .i64 dd.k, .int .i64 dd.i, .string dd.x]) rfl (by kernel_rfl) (by kernel_rfl) (by kernel_rfl) (fun _ _ _ h => h) (Or.inl ⟨by rfl, ?_⟩) (by assumption) ?_
            · (intro wq hSw; obtain ⟨_, e0, e1, e2⟩ := hSw; go_simp; try rfl)
            simp only [Act.put, List.getElem_toArray, List.getElem_cons_zero, List.getElem_cons_succ, List.setIfInBounds_toArray, List.set_cons_zero, List.set_cons_succ]
            refine wpAnyH_ready (rs := [6, 10]) (by kernel_rfl) (by simp) ?_
            refine AllReadyH.cons rfl (fun K hK => ?_) (AllReadyH.cons rfl (fun K hK => ?_) (AllReadyH.nil))
            · go_simp
              go_wp2_with (go_at_call 13; refine Calls.mono (hR.doc hc) ?_; rintro e wk1 ⟨d1, rfl, hR1⟩)
              simp only [dV_eq]
              refine hK.out _ _ hR1.sq (fun _ => ?_)
              clear hK K
              refine wpAnyH_take (i := 7) (v := ?_) rfl (by kernel_rfl) (by kernel_rfl) (by kernel_rfl) (fun _ _ _ h => h) (Or.inl ⟨by rfl, ?_⟩) (by assumption) ?_
              rotate_left
              · (intro wq hSw; go_simp; try (with_reducible rfl))
              simp only [Act.put, List.getElem_toArray, List.getElem_cons_zero, List.getElem_cons_succ, List.setIfInBounds_toArray, List.set_cons_zero, List.set_cons_succ]
              refine wpAnyH_take (i := 8) (v := ?_) rfl (by kernel_rfl) (by kernel_rfl) (by kernel_rfl) (fun _ _ _ h => h) (Or.inl ⟨by rfl, ?_⟩) (by assumption) ?_
              rotate_left
              · (intro wq hSw; go_simp; try (with_reducible rfl))
              simp only [Act.put, List.getElem_toArray, List.getElem_cons_zero, List.getElem_cons_succ, List.setIfInBounds_toArray, List.set_cons_zero, List.set_cons_succ]
              refine wpAnyH_take (i := 9) (v := ?_) rfl (by kernel_rfl) (by kernel_rfl) (by kernel_rfl) (fun _ _ _ h => h) (Or.inl ⟨by rfl, ?_⟩) (by assumption) ?_
              rotate_left
              · (intro wq hSw; go_simp; try (with_reducible rfl))
              simp only [Act.put, List.getElem_toArray, List.getElem_cons_zero, List.getElem_cons_succ, List.setIfInBounds_toArray, List.set_cons_zero, List.set_cons_succ]
              refine wpAnyH_ready (rs := [10]) (by kernel_rfl) (by simp) ?_
              refine AllReadyH.cons rfl (fun K hK => ?_) (AllReadyH.nil)
              refine sAl hR1 hc rfl rfl fun wk2 hR2 => ?_
              simp only [Act.put, List.getElem_toArray, List.getElem_cons_zero, List.getElem_cons_succ, List.setIfInBounds_toArray, List.set_cons_zero, List.set_cons_succ]
              refine hK.out _ _ hR2.sq (fun _ => ?_)
              clear hK K
              refine wpAnyH_ready (rs := [11]) (by kernel_rfl) (by simp) ?_
              refine AllReadyH.cons rfl (fun K hK => ?_) (AllReadyH.nil)
              refine sSt hR2 hc rfl rfl rfl rfl fun wx hX hS => ?_
              simp only [Act.put, List.getElem_toArray, List.getElem_cons_zero, List.getElem_cons_succ]
              refine hK.out _ _ hS (fun _ => ?_)
              clear hK K
              refine wpAnyH_take (i := 12) (v := ?_) rfl (by kernel_rfl) (by kernel_rfl) (by kernel_rfl) (fun _ _ _ h => h) (Or.inl ⟨by rfl, ?_⟩) (by assumption) ?_
              rotate_left
              · (intro wq hSw; go_simp; try (with_reducible rfl))
              simp only [Act.put, List.getElem_toArray, List.getElem_cons_zero, List.getElem_cons_succ, List.setIfInBounds_toArray, List.set_cons_zero, List.set_cons_succ]
              refine wpAnyH_done (by kernel_rfl) ?_ _
              go_wp2_with fail
              go_meet
              case rel => exact hX
            · refine sAl hR hc rfl rfl fun wk1 hR1 => ?_
              simp only [Act.put, List.getElem_toArray, List.getElem_cons_zero, List.getElem_cons_succ, List.setIfInBounds_toArray, List.set_cons_zero, List.set_cons_succ]
              refine hK.out _ _ hR1.sq (fun _ => ?_)
              clear hK K
              refine wpAnyH_ready (rs := [6]) (by kernel_rfl) (by simp) ?_
              refine AllReadyH.cons rfl (fun K hK => ?_) (AllReadyH.nil)
              go_simp
              go_wp2_with (go_at_call 13; refine Calls.mono (hR1.doc hc) ?_; rintro e wk2 ⟨d2, rfl, hR2⟩)
              simp only [dV_eq]
              refine hK.out _ _ hR2.sq (fun _ => ?_)
              clear hK K
              refine wpAnyH_take (i := 7) (v := ?_) rfl (by kernel_rfl) (by kernel_rfl) (by kernel_rfl) (fun _ _ _ h => h) (Or.inl ⟨by rfl, ?_⟩) (by assumption) ?_
              rotate_left
              · (intro wq hSw; go_simp; try (with_reducible rfl))
              simp only [Act.put, List.getElem_toArray, List.getElem_cons_zero, List.getElem_cons_succ, List.setIfInBounds_toArray, List.set_cons_zero, List.set_cons_succ]
              refine wpAnyH_take (i := 8) (v := ?_) rfl (by kernel_rfl) (by kernel_rfl) (by kernel_rfl) (fun _ _ _ h => h) (Or.inl ⟨by rfl, ?_⟩) (by assumption) ?_
              rotate_left
              · (intro wq hSw; go_simp; try (with_reducible rfl))
              simp only [Act.put, List.getElem_toArray, List.getElem_cons_zero, List.getElem_cons_succ, List.setIfInBounds_toArray, List.set_cons_zero, List.set_cons_succ]
              refine wpAnyH_take (i := 9) (v := ?_) rfl (by kernel_rfl) (by kernel_rfl) (by kernel_rfl) (fun _ _ _ h => h) (Or.inl ⟨by rfl, ?_⟩) (by assumption) ?_
              rotate_left
              · (intro wq hSw; go_simp; try (with_reducible rfl))
              simp only [Act.put, List.getElem_toArray, List.getElem_cons_zero, List.getElem_cons_succ, List.setIfInBounds_toArray, List.set_cons_zero, List.set_cons_succ]
              refine wpAnyH_ready (rs := [11]) (by kernel_rfl) (by simp) ?_
              refine AllReadyH.cons rfl (fun K hK => ?_) (AllReadyH.nil)
              refine sSt hR2 hc rfl rfl rfl rfl fun wx hX hS => ?_
              simp only [Act.put, List.getElem_toArray, List.getElem_cons_zero, List.getElem_cons_succ]
              refine hK.out _ _ hS (fun _ => ?_)
              clear hK K
              refine wpAnyH_take (i := 12) (v := ?_) rfl (by kernel_rfl) (by kernel_rfl) (by kernel_rfl) (fun _ _ _ h => h) (Or.inl ⟨by rfl, ?_⟩) (by assumption) ?_
              rotate_left
              · (intro wq hSw; go_simp; try (with_reducible rfl))
              simp only [Act.put, List.getElem_toArray, List.getElem_cons_zero, List.getElem_cons_succ, List.setIfInBounds_toArray, List.set_cons_zero, List.set_cons_succ]
              refine wpAnyH_done (by kernel_rfl) ?_ _
              go_wp2_with fail
              go_meet
              case rel => exact hX
          case rest =>
            obtain ⟨p, d1, rfl, rfl, hp, hq, hs, hd, hb, hz⟩ := hcut
            have hq2 : b + 1 < q := HR.out.2.gq
            have hb0 : w.heap.size ≤ b := HR.out.2.b0
            have HP := Lib.hid hp
            have HQ2 := Lib.hid hq
            generalize doM dd M = M1 at *
            have HF := Lib.hid (show Pl B (b + 1) b q w.heap.size w (wc.setRow q #[.slice (some ⟨d1.gx, 0, none⟩) M1.c.length d1.cx, .slice (some ⟨d1.gu, 0, none⟩) M1.c.length d1.cu, .slice (some ⟨d1.gt, 0, none⟩) M1.c.length d1.ct, .int .i64 (M1.h : Nat)]) d1 M1 from ⟨hs.setRow hq2 _, hd.setRow hq, setRow_heap _ _ _ _ _ _ hq, setRow_below hb (by omega) _, by rw [setRow_size]; exact hz⟩)
            clear hp hq hs hd hb hz HR hq2
            go_upto_region 11 with (first | (refine wpList_load_row rfl 30 _ rfl p rfl 30 _ _ _ HP.out Try.underlying30 rfl infoD ?_) | (refine wpList_store_row rfl 30 _ _ rfl q _ rfl rfl 30 _ HQ2.out infoD rfl (all4 _ _ _ _ _ _ _ _) ?_))
            have hF := HF.out.go hb0 (Below.refl _ _).drew
            clear HF HP HQ2
            refine wp_region_held_drew (S := fun wq => Blk wq q 30 #[.slice (some ⟨d1.gx, 0, none⟩) M1.c.length d1.cx, .slice (some ⟨d1.gu, 0, none⟩) M1.c.length d1.cu, .slice (some ⟨d1.gt, 0, none⟩) M1.c.length d1.ct, .int .i64 (M1.h : Nat)]) (by kernel_rfl) hF.bq (fun _ => ?_)
            generalize (wc.setRow q #[.slice (some ⟨d1.gx, 0, none⟩) M1.c.length d1.cx, .slice (some ⟨d1.gu, 0, none⟩) M1.c.length d1.cu, .slice (some ⟨d1.gt, 0, none⟩) M1.c.length d1.ct, .int .i64 (M1.h : Nat)]).drew = wk at *
            have hlen := allM_le M1 hF.sp.ok
            refine wpAnyH_take (i := 0) (v := ?_) rfl (by kernel_rfl) (by kernel_rfl) (by kernel_rfl) (fun _ _ _ h => h) (Or.inl ⟨by rfl, ?_⟩) (by assumption) ?_
            rotate_left
            · (intro wq hSw; go_simp; try (with_reducible rfl))
            simp only [Act.put, List.getElem_toArray, List.getElem_cons_zero, List.setIfInBounds_toArray, List.set_cons_zero, List.set_cons_succ]
            refine wpAnyH_take (i := 1) (v := ?_) rfl (by kernel_rfl) (by kernel_rfl) (by kernel_rfl) (fun _ _ _ h => h) (Or.inl ⟨by rfl, ?_⟩) (by assumption) ?_
            rotate_left
            · (intro wq hSw; go_simp; try (with_reducible rfl))
            simp only [Act.put, List.getElem_toArray, List.getElem_cons_zero, List.getElem_cons_succ, List.setIfInBounds_toArray, List.set_cons_zero, List.set_cons_succ]
            refine wpAnyH_take (i := 2) (v := ?_) rfl (by kernel_rfl) (by kernel_rfl) (by kernel_rfl) (fun _ _ _ h => h) (Or.inl ⟨by rfl, ?_⟩) (by assumption) ?_
            rotate_left
            · (intro wq hSw; go_simp; try (with_reducible rfl))
            simp only [Act.put, List.getElem_toArray, List.getElem_cons_zero, List.getElem_cons_succ, List.setIfInBounds_toArray, List.set_cons_zero, List.set_cons_succ]
            refine wpAnyH_take (i := 3) (v := ?_) rfl (by kernel_rfl) (by kernel_rfl) (by kernel_rfl) (fun _ _ _ h => h) (Or.inl ⟨by rfl, ?_⟩) (by assumption) ?_
            rotate_left
            · (intro wq hSw; go_simp; try (with_reducible rfl))
            simp only [Act.put, List.getElem_toArray, List.getElem_cons_zero, List.getElem_cons_succ, List.setIfInBounds_toArray, List.set_cons_zero, List.set_cons_succ]
            refine wpAnyH_take (i := 5) (v := .agg #[.slice (some ⟨d1.gx, 0, none⟩) M1.c.length d1.cx, .slice (some ⟨d1.gu, 0, none⟩) M1.c.length d1.cu, .slice (some ⟨d1.gt, 0, none⟩) M1.c.length d1.ct, .int .i64 (M1.h : Nat)]) rfl (by kernel_rfl) (by kernel_rfl) (by kernel_rfl) (fun _ _ _ h => h) (Or.inl ⟨by rfl, ?_⟩) (by assumption) ?_
            · (intro wq hSw; have b0 := hSw.cell 0; have b1 := hSw.cell 1; have b2 := hSw.cell 2; have b3 := hSw.cell 3; simp only [List.getElem?_toArray, List.getElem?_cons_zero, List.getElem?_cons_succ] at b0 b1 b2 b3; go_simp; try rfl)
            simp only [Act.put, List.getElem_toArray, List.getElem_cons_zero, List.getElem_cons_succ, List.setIfInBounds_toArray, List.set_cons_zero, List.set_cons_succ]
            refine wpAnyH_ready (rs := [4]) (by kernel_rfl) (by simp) ?_
            refine AllReadyH.cons rfl (fun K hK => ?_) (AllReadyH.nil)
            go_simp
            go_wp2_with (go_at_call 15; refine Calls.mono (all_any hF.sp) ?_; rintro e wk1 ⟨A1, c1, rfl, hn1, hb1⟩)
            have hF1 := hF.go hb0 hb1
            refine hK.out _ _ hF1.bq (fun _ => ?_)
            clear hK K
            refine wpAnyH_ready (rs := [6]) (by kernel_rfl) (by simp) ?_
            refine AllReadyH.cons rfl (fun K hK => ?_) (AllReadyH.nil)
            go_simp
            go_wp2_with (go_at_call 16; refine Calls.mono (rall_b B d1 M1 hF1.sp.ok _ hF1.dw) ?_; rintro e wk2 ⟨A2, c2, rfl, hn2, hb2⟩)
            have hF2 := hF1.go hb0 hb2
            have n1_2 := hn1.below hb2
            refine hK.out _ _ hF2.bq (fun _ => ?_)
            clear hK K
            refine wpAnyH_ready (rs := [7]) (by kernel_rfl) (by simp) ?_
            refine AllReadyH.cons rfl (fun K hK => ?_) (AllReadyH.nil)
            go_simp
            go_wp2_with (go_at_call 14; refine Calls.mono (ints_yes _ _ _ _ (allM M1) hlen _ n1_2 hn2) ?_; rintro e wk3 ⟨rfl, hb3⟩)
            have hF3 := hF2.go hb0 hb3
            have n1_3 := n1_2.below hb3
            have n2_3 := hn2.below hb3
            refine hK.out _ _ hF3.bq (fun _ => ?_)
            clear hK K
            refine wpAnyH_take (i := 8) (v := ?_) rfl (by kernel_rfl) (by kernel_rfl) (by kernel_rfl) (fun _ _ _ h => h) (Or.inl ⟨by rfl, ?_⟩) (by assumption) ?_
            rotate_left
            · (intro wq hSw; go_simp; try (with_reducible rfl))
            simp only [Act.put, List.getElem_toArray, List.getElem_cons_zero, List.getElem_cons_succ, List.setIfInBounds_toArray, List.set_cons_zero, List.set_cons_succ]
            refine wpAnyH_take (i := 9) (v := ?_) rfl (by kernel_rfl) (by kernel_rfl) (by kernel_rfl) (fun _ _ _ h => h) (Or.inl ⟨by rfl, ?_⟩) (by assumption) ?_
            rotate_left
            · (intro wq hSw; go_simp; try (with_reducible rfl))
            simp only [Act.put, List.getElem_toArray, List.getElem_cons_zero, List.getElem_cons_succ, List.setIfInBounds_toArray, List.set_cons_zero, List.set_cons_succ]
            refine wpAnyH_take (i := 10) (v := ?_) rfl (by kernel_rfl) (by kernel_rfl) (by kernel_rfl) (fun _ _ _ h => h) (Or.inl ⟨by rfl, ?_⟩) (by assumption) ?_
            rotate_left
            · (intro wq hSw; go_simp; try (with_reducible rfl))
            simp only [Act.put, List.getElem_toArray, List.getElem_cons_zero, List.getElem_cons_succ, List.setIfInBounds_toArray, List.set_cons_zero, List.set_cons_succ]
            refine wpAnyH_take (i := 11) (v := ?_) rfl (by kernel_rfl) (by kernel_rfl) (by kernel_rfl) (fun _ _ _ h => h) (Or.inl ⟨by rfl, ?_⟩) (by assumption) ?_
            rotate_left
            · (intro wq hSw; go_simp; try (with_reducible rfl))
            simp only [Act.put, List.getElem_toArray, List.getElem_cons_zero, List.getElem_cons_succ, List.setIfInBounds_toArray, List.set_cons_zero, List.set_cons_succ]
            refine wpAnyH_take (i := 13) (v := .agg #[.slice (some ⟨d1.gx, 0, none⟩) M1.c.length d1.cx, .slice (some ⟨d1.gu, 0, none⟩) M1.c.length d1.cu, .slice (some ⟨d1.gt, 0, none⟩) M1.c.length d1.ct, .int .i64 (M1.h : Nat)]) rfl (by kernel_rfl) (by kernel_rfl) (by kernel_rfl) (fun _ _ _ h => h) (Or.inl ⟨by rfl, ?_⟩) (by assumption) ?_
            · (intro wq hSw; have b0 := hSw.cell 0; have b1 := hSw.cell 1; have b2 := hSw.cell 2; have b3 := hSw.cell 3; simp only [List.getElem?_toArray, List.getElem?_cons_zero, List.getElem?_cons_succ] at b0 b1 b2 b3; go_simp; try rfl)
            simp only [Act.put, List.getElem_toArray, List.getElem_cons_zero, List.getElem_cons_succ, List.setIfInBounds_toArray, List.set_cons_zero, List.set_cons_succ]
            refine wpAnyH_ready (rs := [12]) (by kernel_rfl) (by simp) ?_
            refine AllReadyH.cons rfl (fun K hK => ?_) (AllReadyH.nil)
            go_simp
            go_wp2_with (go_at_call 11; refine Calls.mono (len_any hF3.sp) ?_; rintro e wk4 ⟨rfl, hb4⟩)
            have hF4 := hF3.go hb0 hb4
            have n1_4 := n1_3.below hb4
            have n2_4 := n2_3.below hb4
            refine hK.out _ _ hF4.bq (fun _ => ?_)
            clear hK K
            refine wpAnyH_ready (rs := [14]) (by kernel_rfl) (by simp) ?_
            refine AllReadyH.cons rfl (fun K hK => ?_) (AllReadyH.nil)
            go_simp
            go_wp2_with (go_at_call 16; refine Calls.mono (rall_b B d1 M1 hF4.sp.ok _ hF4.dw) ?_; rintro e wk5 ⟨A5, c5, rfl, hn5, hb5⟩)
            have hF5 := hF4.go hb0 hb5
            have n1_5 := n1_4.below hb5
            have n2_5 := n2_4.below hb5
            refine hK.out _ _ hF5.bq (fun _ => ?_)
            clear hK K
            refine wpAnyH_take (i := 15) (v := ?_) rfl (by kernel_rfl) (by kernel_rfl) (by kernel_rfl) (fun _ _ _ h => h) (Or.inl ⟨by rfl, ?_⟩) (by assumption) ?_
            rotate_left
            · (intro wq hSw; go_simp; try (with_reducible rfl))
            simp only [Act.put, List.getElem_toArray, List.getElem_cons_zero, List.getElem_cons_succ, List.setIfInBounds_toArray, List.set_cons_zero, List.set_cons_succ]
            refine wpAnyH_take (i := 16) (v := ?_) rfl (by kernel_rfl) (by kernel_rfl) (by kernel_rfl) (fun _ _ _ h => h) (Or.inl ⟨by rfl, ?_⟩) (by assumption) ?_
            rotate_left
            · (intro wq hSw; go_simp; try (with_reducible rfl))
            simp only [Act.put, List.getElem_toArray, List.getElem_cons_zero, List.getElem_cons_succ, List.setIfInBounds_toArray, List.set_cons_zero, List.set_cons_succ]
            refine wpAnyH_take (i := 17) (v := ?_) rfl (by kernel_rfl) (by kernel_rfl) (by kernel_rfl) (fun _ _ _ h => h) (Or.inl ⟨by rfl, ?_⟩) (by assumption) ?_
            rotate_left
            · (intro wq hSw; go_simp; try (with_reducible rfl))
            simp only [Act.put, List.getElem_toArray, List.getElem_cons_zero, List.getElem_cons_succ, List.setIfInBounds_toArray, List.set_cons_zero, List.set_cons_succ]
            refine wpAnyH_take (i := 18) (v := ?_) rfl (by kernel_rfl) (by kernel_rfl) (by kernel_rfl) (fun _ _ _ h => h) (Or.inl ⟨by rfl, ?_⟩) (by assumption) ?_
            rotate_left
            · (intro wq hSw; go_simp; try (with_reducible rfl))
            simp only [Act.put, List.getElem_toArray, List.getElem_cons_zero, List.getElem_cons_succ, List.setIfInBounds_toArray, List.set_cons_zero, List.set_cons_succ]
            refine wpAnyH_take (i := 19) (v := ?_) rfl (by kernel_rfl) (by kernel_rfl) (by kernel_rfl) (fun _ _ _ h => h) (Or.inl ⟨by rfl, ?_⟩) (by assumption) ?_
            rotate_left
            · (intro wq hSw; go_simp; try (with_reducible rfl))
            simp only [Act.put, List.getElem_toArray, List.getElem_cons_zero, List.getElem_cons_succ, List.setIfInBounds_toArray, List.set_cons_zero, List.set_cons_succ]
            refine wpAnyH_take (i := 21) (v := ?_) rfl (by kernel_rfl) (by kernel_rfl) (by kernel_rfl) (fun _ _ _ h => h) (Or.inl ⟨by rfl, ?_⟩) (by assumption) ?_
            rotate_left
            · (intro wq hSw; go_simp; try (with_reducible rfl))
            simp only [Act.put, List.getElem_toArray, List.getElem_cons_zero, List.getElem_cons_succ, List.setIfInBounds_toArray, List.set_cons_zero, List.set_cons_succ]
            refine wpAnyH_ready (rs := [20]) (by kernel_rfl) (by simp) ?_
            refine AllReadyH.cons rfl (fun K hK => ?_) (AllReadyH.nil)
            go_simp
            go_wp2_with (go_at_call 17; refine Calls.mono (cap_n hF5.sp HM.out) ?_; rintro e wk6 ⟨rfl, hb6⟩)
            have hF6 := hF5.go hb0 hb6
            have n1_6 := n1_5.below hb6
            have n2_6 := n2_5.below hb6
            refine hK.out _ _ hF6.bq (fun _ => ?_)
            clear hK K
            refine wpAnyH_take (i := 22) (v := ?_) rfl (by kernel_rfl) (by kernel_rfl) (by kernel_rfl) (fun _ _ _ h => h) (Or.inl ⟨by rfl, ?_⟩) (by assumption) ?_
            rotate_left
            · (intro wq hSw; go_simp; try (with_reducible rfl))
            simp only [Act.put, List.getElem_toArray, List.getElem_cons_zero, List.getElem_cons_succ, List.setIfInBounds_toArray, List.set_cons_zero, List.set_cons_succ]
            refine wpAnyH_take (i := 23) (v := ?_) rfl (by kernel_rfl) (by kernel_rfl) (by kernel_rfl) (fun _ _ _ h => h) (Or.inl ⟨by rfl, ?_⟩) (by assumption) ?_
            rotate_left
            · (intro wq hSw; go_simp; try (with_reducible rfl))
            simp only [Act.put, List.getElem_toArray, List.getElem_cons_zero, List.getElem_cons_succ, List.setIfInBounds_toArray, List.set_cons_zero, List.set_cons_succ]
            refine wpAnyH_done (by kernel_rfl) ?_ _
            have HF := Lib.hid hF6
            go_wp2_with fail
            go_roundw
            case rel => exact ⟨j + 1, d1, M1, hlt, hl3, by go_num, HM.out, HF.out⟩
            case measure => simp [intOf]; omega
        · have d4 : decide ((j : Int) < 300) = false := by simp; omega
          have HF := Lib.hid hPl.bl
          clear hPl
          go_wp2_with fail
          go_ret
          exact ⟨rfl, HF.out⟩
      · have d3 : decide ((j : Int) < (l.length : Int)) = false := by simp; omega
        have HF := Lib.hid hPl.bl
        clear hPl
        go_wp2_with fail
        go_ret
        exact ⟨rfl, HF.out⟩
end Go.Proofs.Ytpoienhmnaeaiaa
