/- The law SlotsApart: its walk (written by tools/gen_sap.py). -/
import Derived.Test.YtpoienhmnaeaiaaSoq
namespace Go.Proofs.Ytpoienhmnaeaiaa
open Go.RowKit
set_option linter.unusedVariables false

theorem getM_congr {M N : Ms} {i : Nat} (h1 : N.c.length = M.c.length) (h2 : us N.c i = us M.c i) (h3 : (N.c.getD i Z0).x = (M.c.getD i Z0).x) : getM N i = getM M i := by
  have e1 : hasM N i = hasM M i := by unfold hasM; rw [h1, Int.toNat_natCast, h2]
  have e2 : (atM N i).x = (atM M i).x := h3
  unfold getM
  rw [e1, e2]
theorem upd_get {M : Ms} {j : Int} {e : Ce} {i : Nat} (hj : hasM M j = true) (hne : j ≠ i) : getM (upd M j e) i = getM M i := by
  obtain ⟨k, rfl, hk, _⟩ := has_of hj
  have hki : k ≠ i := by omega
  refine getM_congr (by simp [upd]) ?_ ?_
  · unfold us upd
    simp only [Int.toNat_natCast]
    rw [getD_set _ _ _ _ hk, if_neg hki]
  · unfold upd
    simp only [Int.toNat_natCast]
    rw [getD_set _ _ _ _ hk, if_neg hki]
theorem apart {M : Ms} (hok : M.Ok) (dd : De) {i : Nat} (h0 : dd.k ≠ 0) (h1 : dd.k = 1 ∨ dd.i ≠ i) : getM (doM dd M) i = getM M i := by
  unfold doM
  rw [if_neg h0]
  by_cases e1 : dd.k = 1
  · rw [if_pos e1]
  have h2 : dd.i ≠ i := by
    rcases h1 with h1 | h1
    · exact absurd h1 e1
    · exact h1
  rw [if_neg e1]
  by_cases e2 : dd.k = 2
  · rw [if_pos e2]
    unfold touM
    split
    · rename_i h; exact upd_get h h2
    · rfl
  rw [if_neg e2]
  by_cases e3 : dd.k = 3
  · rw [if_pos e3]
    unfold freM
    split
    · rename_i h; exact upd_get h h2
    · rfl
  rw [if_neg e3]
  by_cases e4 : dd.k = 4
  · rw [if_pos e4]
    unfold setM
    split
    · rename_i h; exact upd_get h h2
    · rfl
  rw [if_neg e4]
  exact getM_congr (vicM_len hok) (vicM_us hok i) (vicM_xs hok i)
theorem full_put {M : Ms} (h : (allM M).length = M.c.length) (x : ByteArray) : putM M x = (M, 0, 5) := by
  have h2 : ((List.range M.c.length).filter (us M.c)).length = (List.range M.c.length).length := by rw [List.length_range]; exact h
  rw [List.length_filter_eq_length_iff] at h2
  unfold putM
  rw [first_none (fun j hj => h2 j (List.mem_range.2 hj))]

set_option maxRecDepth 100000 in
set_option maxHeartbeats 4000000 in
theorem apart_walk (A : Option Addr) (cap : Nat) (l : List De) (kd id : Int) (x : ByteArray) (k : Nat) (hk : k < 256) (w : World) (hA : Ds w A cap l) : Calls Try.prog 8 #[.slice A l.length cap, .agg #[.int .i64 kd, .int .i64 id, .string x], .int .u8 (k : Nat)] w fun e w' => e = .returned (.bool true) ∧ Below w.heap.size w w' := by
  have hbb := (Below.refl w.heap.size w).alloc (Nat.le_refl _) (Obj.cells #[.int .i64 kd, .int .i64 id, .string x] 35)
  have hbk := Blk.new w 35 #[.int .i64 kd, .int .i64 id, .string x]
  have HBK := Lib.hid (And.intro hbk hbb)
  have HA := Lib.hid (hA.below hbb)
  obtain ⟨i, hi⟩ : ∃ i : Nat, k % 8 = i := ⟨_, rfl⟩
  have ei : ((k : Nat) : Int) % 8 = (i : Nat) := by omega
  have HE := Lib.hid ei
  clear hA ei hi hbk hbb
  go_enter Try.func8, Try.ntmps8
  go_upto_region 1 with (fail)
  generalize w.alloc (Obj.cells #[.int .i64 kd, .int .i64 id, .string x] 35) = wb at *
  generalize hq0 : w.heap.size = q0 at *
  have HQ0 := Lib.hid hq0
  have HQB := Lib.hid (show q0 ≤ wb.heap.size from by have h1 := HBK.out.2.size; omega)
  clear hq0
  have HC0 := Lib.hid (shown_any wb)
  go_upto_region 4 with (first
    | (go_at_call 18; with_reducible (refine HC1.out.mono ?_); rintro e w1 ⟨g, b, M, rfl, hs1, hM, hb, hb1⟩)
    | (go_at_call 9; with_reducible (refine HC0.out.mono ?_); rintro e w0 ⟨rfl, hb0⟩; have HB0 := Lib.hid hb0; have HC1 := Lib.hid (ran_any A cap l w0 (HA.out.below hb0)); clear hb0))
  rw [HE.out]
  have G1 := go1_of HB0.out hs1 hb hb1
  clear HC0 HC1 hs1 hb hb1 HB0 HA HE
  have HG1 := Lib.hid G1
  obtain ⟨gm, hgm⟩ : ∃ p, getM M i = p := ⟨_, rfl⟩
  obtain ⟨ln, hln⟩ : ∃ n, (allM M).length = n := ⟨_, rfl⟩
  have hget := get_any (i : Int) G1.sp
  rw [hgm] at hget
  have HGet := Lib.hid hget
  have HM := Lib.hid (And.intro hM (And.intro hgm hln))
  clear hM hget hgm hln G1
  obtain ⟨was, is⟩ := gm
  go_upto_region 5 with (go_at_call 22; with_reducible (refine HGet.out.mono ?_); rintro e w2 ⟨rfl, hb2⟩)
  have HG2 := Lib.hid (HG1.out.bel hb2)
  clear HG1 HGet hb2
  have hx2 := HBK.out.1.eq (HG2.out.bl.block _ HBK.out.1.lt)
  have c0 := hx2.cell 0
  have c1 := hx2.cell 1
  have c2 := hx2.cell 2
  simp only [List.getElem?_toArray, List.getElem?_cons_zero, List.getElem?_cons_succ] at c0 c1 c2
  have HLN := Lib.hid (show Calls Try.prog 11 #[.pointer (some ⟨g, 0, none⟩)] w2 fun e w' => e = .returned (.int .i64 (ln : Nat)) ∧ Below w2.heap.size w2 w' from by have := len_any HG2.out.sp; rw [HM.out.2.2] at this; exact this)
  clear hx2
  by_cases hI : id = (i : Nat)
  · subst hI
    by_cases hK : kd = 1
    · subst hK
      go_upto_region 13 with (go_at_call 11; with_reducible (refine HLN.out.mono ?_); rintro e w3 ⟨rfl, hb3⟩; have hG3 := HG2.out.bel hb3; have hx3 := HBK.out.1.eq (hG3.bl.block _ HBK.out.1.lt); have c0 := hx3.cell 0; have c1 := hx3.cell 1; have c2 := hx3.cell 2; simp only [List.getElem?_toArray, List.getElem?_cons_zero, List.getElem?_cons_succ] at c0 c1 c2; have HG3 := Lib.hid (And.intro hG3 hx3); clear hG3 hx3)
      have hGk := HG3.out.1.bel (Below.refl _ w3).drew
      have hSk := HG3.out.2.eq (w'' := w3.drew) rfl
      clear HG3 HG2 HLN c0 c1 c2
      refine wp_region_held_drew (S := fun wq => Blk wq q0 35 #[.int .i64 1, .int .i64 (i : Nat), .string x]) (by kernel_rfl) hSk (fun _ => ?_)
      generalize w3.drew = wk at *
      refine wpAnyH_take (i := 0) (v := ?_) rfl (by kernel_rfl) (by kernel_rfl) (by kernel_rfl) (fun _ _ _ h => h) (Or.inl ⟨by rfl, ?_⟩) (by assumption) ?_
      rotate_left
      · (intro wq hSw; go_simp; try (with_reducible rfl))
      simp only [Act.put, List.getElem_toArray, List.getElem_cons_zero, List.setIfInBounds_toArray, List.set_cons_zero, List.set_cons_succ]
      refine wpAnyH_take (i := 2) (v := .agg #[.int .i64 1, .int .i64 (i : Nat), .string x]) rfl (by kernel_rfl) (by kernel_rfl) (by kernel_rfl) (fun _ _ _ h => h) (Or.inl ⟨by rfl, ?_⟩) (by assumption) ?_
      · (intro wq hSw; have b0 := hSw.cell 0; have b1 := hSw.cell 1; have b2 := hSw.cell 2; simp only [List.getElem?_toArray, List.getElem?_cons_zero, List.getElem?_cons_succ] at b0 b1 b2; go_simp; try rfl)
      simp only [Act.put, List.getElem_toArray, List.getElem_cons_zero, List.getElem_cons_succ, List.setIfInBounds_toArray, List.set_cons_zero, List.set_cons_succ]
      refine wpAnyH_ready (rs := [1]) (by kernel_rfl) (by simp) ?_
      refine AllReadyH.cons rfl (fun K hK => ?_) (AllReadyH.nil)
      go_simp
      go_wp2_with (go_at_call 12; refine Calls.mono (rnew_z 8 8 rfl (by omega) (by omega) wk) ?_; rintro e w5 ⟨d5, rfl, hd5, hb5⟩)
      have hS5 := hSk.eq (hb5.block _ hSk.lt)
      have hG5 := hGk.bel hb5
      refine hK.out _ _ hS5 (fun _ => ?_)
      clear hK K
      refine wpAnyH_ready (rs := [3]) (by kernel_rfl) (by simp) ?_
      refine AllReadyH.cons rfl (fun K hK => ?_) (AllReadyH.nil)
      go_simp
      go_wp2_with (go_at_call 13; refine Calls.mono (do_any wk.heap.size ⟨1, (i : Nat), x⟩ hG5.sp d5 (newM 8) (newM_ok (by omega) (by omega)) hd5 hGk.sp.bg.lt hb5.size) ?_; rintro e w6 ⟨d6, r6, rfl, hs6, hd6, hf6, _⟩)
      have hS6 := hS5.eq (hf6.below.block _ (Nat.lt_of_lt_of_le HBK.out.1.lt hG5.b0))
      have hG6 := hG5.fp hs6 hf6
      refine hK.out _ _ hS6 (fun _ => ?_)
      clear hK K
      refine wpAnyH_done (by kernel_rfl) ?_ _
      have hap := apart hGk.sp.ok ⟨1, (i : Nat), x⟩ (i := i) (show (1 : Int) ≠ 0 by decide) (.inl rfl)
      have hget2 := get_any (i : Int) hG6.sp
      rw [hap, HM.out.2.1] at hget2
      have HGet2 := Lib.hid hget2
      have HG6 := Lib.hid hG6
      clear hSk hGk hd5 hb5 hS5 hG5 hs6 hd6 hf6 hS6 hG6 hap hget2
      go_wp2_with (go_at_call 22; with_reducible (refine HGet2.out.mono ?_); rintro e w7 ⟨rfl, hb7⟩; have HG7 := Lib.hid (HG6.out.bel hb7); clear hb7)
      go_ret
      exact ⟨rfl, by rw [HQ0.out]; exact HBK.out.2.trans (HG7.out.bl.mono HQB.out)⟩
    · have m1 : (kd == 1) = false := by simpa using hK
      have m2 : (kd != 1) = true := by simpa using hK
      clear HLN
      go_wp2_with fail
      go_ret
      exact ⟨rfl, by rw [HQ0.out]; exact HBK.out.2.trans (HG2.out.bl.mono HQB.out)⟩
  · have m0 : (id == (i : Nat)) = false := by simpa using hI
    have m00 : decide (id = (i : Nat)) = false := by simpa using hI
    by_cases hK : kd = 0
    · subst hK
      by_cases h8 : ln = 8
      · subst h8
        have HFP := Lib.hid (full_put (M := M) (by rw [HM.out.2.2, HM.out.1]) x)
        have HPU := Lib.hid (fun W hs => put_any x (w := W) (g := g) (b := b) (M := M) hs)
        rw [HFP.out] at HPU
        go_wp2_with (first
          | (go_at_call 21; with_reducible (refine (HPU.out _ HG3.out.sp).mono ?_); rintro e w4 ⟨rfl, hs4, hf4⟩; have HG4 := Lib.hid (HG3.out.fp hs4 hf4); clear hs4 hf4)
          | (go_at_call 11; with_reducible (refine HLN.out.mono ?_); rintro e w3 ⟨rfl, hb3⟩; have hG3 := HG2.out.bel hb3; have hx3 := HBK.out.1.eq (hG3.bl.block _ HBK.out.1.lt); have c0 := hx3.cell 0; have c1 := hx3.cell 1; have c2 := hx3.cell 2; simp only [List.getElem?_toArray, List.getElem?_cons_zero, List.getElem?_cons_succ] at c0 c1 c2; have HG3 := Lib.hid hG3; clear hG3 hx3))
        go_ret
        exact ⟨rfl, by rw [HQ0.out]; exact HBK.out.2.trans (HG4.out.bl.mono HQB.out)⟩
      · have m8 : decide ((ln : Int) = 8) = false := by simp; omega
        have m88 : ((ln : Int) == 8) = false := by simp; omega
        go_wp2_with (go_at_call 11; with_reducible (refine HLN.out.mono ?_); rintro e w3 ⟨rfl, hb3⟩; have hG3 := HG2.out.bel hb3; have hx3 := HBK.out.1.eq (hG3.bl.block _ HBK.out.1.lt); have c0 := hx3.cell 0; have c1 := hx3.cell 1; have c2 := hx3.cell 2; simp only [List.getElem?_toArray, List.getElem?_cons_zero, List.getElem?_cons_succ] at c0 c1 c2; have HG3 := Lib.hid hG3; clear hG3 hx3)
        go_ret
        exact ⟨rfl, by rw [HQ0.out]; exact HBK.out.2.trans (HG3.out.bl.mono HQB.out)⟩
    · have n0 : (kd == 0) = false := by simpa using hK
      have n00 : decide (kd = 0) = false := by simpa using hK
      go_upto_region 13 with (go_at_call 11; with_reducible (refine HLN.out.mono ?_); rintro e w3 ⟨rfl, hb3⟩; have hG3 := HG2.out.bel hb3; have hx3 := HBK.out.1.eq (hG3.bl.block _ HBK.out.1.lt); have c0 := hx3.cell 0; have c1 := hx3.cell 1; have c2 := hx3.cell 2; simp only [List.getElem?_toArray, List.getElem?_cons_zero, List.getElem?_cons_succ] at c0 c1 c2; have HG3 := Lib.hid (And.intro hG3 hx3); clear hG3 hx3)
      have hGk := HG3.out.1.bel (Below.refl _ w3).drew
      have hSk := HG3.out.2.eq (w'' := w3.drew) rfl
      clear HG3 HG2 HLN c0 c1 c2
      refine wp_region_held_drew (S := fun wq => Blk wq q0 35 #[.int .i64 kd, .int .i64 id, .string x]) (by kernel_rfl) hSk (fun _ => ?_)
      generalize w3.drew = wk at *
      refine wpAnyH_take (i := 0) (v := ?_) rfl (by kernel_rfl) (by kernel_rfl) (by kernel_rfl) (fun _ _ _ h => h) (Or.inl ⟨by rfl, ?_⟩) (by assumption) ?_
      rotate_left
      · (intro wq hSw; go_simp; try (with_reducible rfl))
      simp only [Act.put, List.getElem_toArray, List.getElem_cons_zero, List.setIfInBounds_toArray, List.set_cons_zero, List.set_cons_succ]
      refine wpAnyH_take (i := 2) (v := .agg #[.int .i64 kd, .int .i64 id, .string x]) rfl (by kernel_rfl) (by kernel_rfl) (by kernel_rfl) (fun _ _ _ h => h) (Or.inl ⟨by rfl, ?_⟩) (by assumption) ?_
      · (intro wq hSw; have b0 := hSw.cell 0; have b1 := hSw.cell 1; have b2 := hSw.cell 2; simp only [List.getElem?_toArray, List.getElem?_cons_zero, List.getElem?_cons_succ] at b0 b1 b2; go_simp; try rfl)
      simp only [Act.put, List.getElem_toArray, List.getElem_cons_zero, List.getElem_cons_succ, List.setIfInBounds_toArray, List.set_cons_zero, List.set_cons_succ]
      refine wpAnyH_ready (rs := [1]) (by kernel_rfl) (by simp) ?_
      refine AllReadyH.cons rfl (fun K hK => ?_) (AllReadyH.nil)
      go_simp
      go_wp2_with (go_at_call 12; refine Calls.mono (rnew_z 8 8 rfl (by omega) (by omega) wk) ?_; rintro e w5 ⟨d5, rfl, hd5, hb5⟩)
      have hS5 := hSk.eq (hb5.block _ hSk.lt)
      have hG5 := hGk.bel hb5
      refine hK.out _ _ hS5 (fun _ => ?_)
      clear hK K
      refine wpAnyH_ready (rs := [3]) (by kernel_rfl) (by simp) ?_
      refine AllReadyH.cons rfl (fun K hK => ?_) (AllReadyH.nil)
      go_simp
      go_wp2_with (go_at_call 13; refine Calls.mono (do_any wk.heap.size ⟨kd, id, x⟩ hG5.sp d5 (newM 8) (newM_ok (by omega) (by omega)) hd5 hGk.sp.bg.lt hb5.size) ?_; rintro e w6 ⟨d6, r6, rfl, hs6, hd6, hf6, _⟩)
      have hS6 := hS5.eq (hf6.below.block _ (Nat.lt_of_lt_of_le HBK.out.1.lt hG5.b0))
      have hG6 := hG5.fp hs6 hf6
      refine hK.out _ _ hS6 (fun _ => ?_)
      clear hK K
      refine wpAnyH_done (by kernel_rfl) ?_ _
      have hap := apart hGk.sp.ok ⟨kd, id, x⟩ (i := i) hK (.inr hI)
      have hget2 := get_any (i : Int) hG6.sp
      rw [hap, HM.out.2.1] at hget2
      have HGet2 := Lib.hid hget2
      have HG6 := Lib.hid hG6
      clear hSk hGk hd5 hb5 hS5 hG5 hs6 hd6 hf6 hS6 hG6 hap hget2
      go_wp2_with (go_at_call 22; with_reducible (refine HGet2.out.mono ?_); rintro e w7 ⟨rfl, hb7⟩; have HG7 := Lib.hid (HG6.out.bel hb7); clear hb7)
      go_ret
      exact ⟨rfl, by rw [HQ0.out]; exact HBK.out.2.trans (HG7.out.bl.mono HQB.out)⟩
end Go.Proofs.Ytpoienhmnaeaiaa
