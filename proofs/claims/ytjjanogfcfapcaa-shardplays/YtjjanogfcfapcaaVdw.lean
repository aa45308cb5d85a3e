/- derricklaw12.ShardPlays (written by tools/gen_vdw.py). -/
import Derived.Test.YtjjanogfcfapcaaVdv
namespace Go.Proofs.Ytjjanogfcfapcaa.D
open Go.RowKit
set_option linter.unusedVariables false
set_option linter.unusedSimpArgs false
theorem rn_cells {w wr : World} {h : Nat} {K : Ly} {S : Sd} {B r : Nat} {d : Dv} {M : Ms Ev} (n : Rn w wr h K S B r d M) : wr.cell? ⟨r, 0, none⟩ = some (.slice (some ⟨d.gx, 0, none⟩) M.c.length d.cx) ∧ wr.cell? ⟨r, 1, none⟩ = some (.slice (some ⟨d.gu, 0, none⟩) M.c.length d.cu) ∧ wr.cell? ⟨r, 2, none⟩ = some (.slice (some ⟨d.gt, 0, none⟩) M.c.length d.ct) ∧ wr.cell? ⟨r, 3, none⟩ = some (.int .i64 (M.h : Nat)) := box_cells n.bx
theorem plays_len {w : World} {h : Nat} {K : Ly} {S S' : Sd} {B n : Nat} {d : Dv} {M : Ms Ev} (b : Bo w h K S B d M) (D : Dd) (_ : S' = doS S D) (hl : S.P.c.length = n) : (doS S D).P.c.length = n := (doS_len b.sh.ok D).trans hl

set_option maxRecDepth 100000 in
set_option maxHeartbeats 8000000 in
theorem plays_good (rr ss : Nat) (r1 : 1 ≤ rr) (r2 : rr ≤ 64) (s1 : 1 ≤ ss) (s2 : ss ≤ 256) (A : Option Addr) (cap : Nat) (l : List Dd) (w : World) (hL : Sl df w A cap l) (hA : ∀ D ∈ l, ArgD w D) : Calls Try.prog 3 #[.int .i64 (rr : Nat), .int .i64 (ss : Nat), .slice A l.length cap] w fun e w' => e = .returned (.bool true) ∧ Below w.heap.size w w' := by
  have HSH := Lib.hid (shown_any w)
  have HN := Lib.hid (fun W => new_s rr ss r1 r2 s1 s2 W)
  have HL := Lib.hid hL
  have HA := Lib.hid hA
  have a1 : decide ((rr : Int) < 1) = false := by simp; omega
  have a2 : decide (64 < (rr : Int)) = false := by simp; omega
  have a3 : decide ((ss : Int) < 1) = false := by simp; omega
  have a4 : decide (256 < (ss : Int)) = false := by simp; omega
  have a5 : ¬ (rr : Int) < 1 := by omega
  have a6 : ¬ 64 < (rr : Int) := by omega
  have a7 : ¬ (ss : Int) < 1 := by omega
  have a8 : ¬ 256 < (ss : Int) := by omega
  clear hL hA
  go_enter Try.func3, Try.ntmps3
  go_upto_region 5 with (first | (go_at_call 9; with_reducible (refine HSH.out.mono ?_); rintro e w0 ⟨rfl, hb0⟩; have HB0 := Lib.hid hb0; clear hb0) | (go_at_call 10; with_reducible (refine ((HN.out _)).mono ?_); rintro e w1 ⟨h, K, rfl, hs1, hb1, hk1⟩; have HS1 := Lib.hid (And.intro hs1 (And.intro hb1 hk1)); clear hs1 hb1 hk1))
  have HR := Lib.hid (rnew_z rr rr rfl r1 r2 w1)
  go_upto_region 6 with (first | (refine wpList_store_row rfl 29 _ _ rfl (w2.heap.size) _ rfl rfl 29 _ HN2.out.1 infoD rfl (all4 _ _ _ _ _ _ _ _) ?_) | (go_at_call 11; with_reducible (refine (HR.out).mono ?_); rintro e w2 ⟨d, rfl, hd2, hb2⟩; have HD2 := Lib.hid (And.intro hd2 hb2); have HN2 := Lib.hid (new_sh w2 #[.slice (some ⟨d.gx, 0, none⟩) rr d.cx, .slice (some ⟨d.gu, 0, none⟩) rr d.cu, .slice (some ⟨d.gt, 0, none⟩) rr d.ct, .int .i64 ((0 : Nat) : Int)]); unfold zD at HN2; clear hd2 hb2))
  obtain ⟨_, k3, b3⟩ := HN2.out
  have hr0 := rn_new (n := rr) r1 r2 HS1.out.1 (HB0.out.trans (HS1.out.2.1.mono HB0.out.size)) (fun i hi => Nat.le_trans HB0.out.size (HS1.out.2.2 i hi)) HD2.out.1 HD2.out.2 k3 b3
  have HR3 := Lib.hid hr0
  clear k3 b3 HN2 hr0 HS1 HD2 HR HN HSH HB0
  generalize (w2.alloc (Obj.cells #[Value.slice none 0 0, .slice none 0 0, .slice none 0 0, .int .i64 0] 29)).setRow w2.heap.size #[.slice (some ⟨d.gx, 0, none⟩) rr d.cx, .slice (some ⟨d.gu, 0, none⟩) rr d.cu, .slice (some ⟨d.gt, 0, none⟩) rr d.ct, .int .i64 ((0 : Nat) : Int)] = w3 at *
  generalize w2.heap.size = r at *
  generalize w1.heap.size = B at *
  go_wp2_with fail
  go_loopw [10] (fun v wr => ∃ (j : Nat) (d' : Dv) (M : Ms Ev), j ≤ l.length ∧ j ≤ 200 ∧ v = .int .i64 j ∧ (runS rr (l.take j)).P.c.length = rr ∧ Rn w wr h K (runS rr (l.take j)) B r d' M) (fun v _ => l.length - (intOf v).toNat)
  case atStart => exact ⟨0, d, newM rr, Nat.zero_le _, Nat.zero_le _, rfl, by show (newM rr : Ms En).c.length = rr; simp [newM], HR3.out⟩
  case round =>
    clear HR3
    obtain ⟨j, d', M, hj, hj2, rfl, hlen, hR⟩ := hrel
    by_cases hlt : j < l.length
    · have d1 : decide ((j : Int) < (l.length : Nat)) = true := by simp; omega
      by_cases hlt2 : j < 200
      · have d2 : decide ((j : Int) < 200) = true := by simp; omega
        have s0 : (0 : Int) ≤ (j : Nat) := by omega
        have s1 : (j : Int) < (l.length : Nat) := by omega
        obtain ⟨b, off, rfl, hbw, hcd⟩ := Sl_df HL.out j hlt
        have hd := (Below.refl wr.heap.size wr).drew
        have hR7 := hR.low hd
        have HR7 := Lib.hid hR7
        have hrg : ∀ (wq : World), Below w.heap.size w wq → wq.rangeAt b (off + j * 9) (df l[j]) := fun wq hq i u hi => (hq.cell (p := ⟨b, off + j * 9 + i, none⟩) hbw).trans (hcd i u hi)
        have HRG := Lib.hid hrg
        have ht : l.take (j + 1) = l.take j ++ [l[j]] := by rw [List.take_add_one, List.getElem?_eq_getElem hlt]; rfl
        have HTK := Lib.hid (show runS rr (l.take (j + 1)) = doS (runS rr (l.take j)) l[j] by rw [ht, runS_snoc])
        have HDO := Lib.hid (fun W (hW : Rn w W h K (runS rr (l.take j)) B r d' M) => do_any hW.bo l[j] (arg_re (HA.out l[j] (List.getElem_mem hlt)).x hW.lo hW.kx))
        simp only [dV_eq] at HDO
        obtain ⟨D, HDl⟩ : ∃ D, Hid (l[j] = D) := ⟨_, Lib.hid rfl⟩
        simp only [HDl.out] at HRG HTK HDO
        clear hcd hrg ht hR7 HDl
        go_upto_region 9 with (fail)
        refine wp_region_held_drew (S := fun wq => Blk wq r 29 #[.slice (some ⟨d'.gx, 0, none⟩) M.c.length d'.cx, .slice (some ⟨d'.gu, 0, none⟩) M.c.length d'.cu, .slice (some ⟨d'.gt, 0, none⟩) M.c.length d'.ct, .int .i64 (M.h : Nat)] ∧ Below w.heap.size w wq) (by kernel_rfl) ⟨HR7.out.bx, HR7.out.lo⟩ (fun _ => ?_)
        clear hd hR
        generalize wr.drew = w7 at *
        refine wpAnyH_take (i := 0) (v := ?_) rfl (by kernel_rfl) (by kernel_rfl) (by kernel_rfl) (fun _ _ _ h => h) (Or.inl ⟨by rfl, ?_⟩) (by assumption) ?_
        rotate_left
        · (intro wq hSw; go_simp; try (with_reducible rfl))
        try simp only [Act.put, List.getElem_toArray, List.getElem_cons_zero, List.getElem_cons_succ, List.setIfInBounds_toArray, List.set_cons_zero, List.set_cons_succ]
        refine wpAnyH_take (i := 1) (v := .agg #[.slice (some ⟨d'.gx, 0, none⟩) M.c.length d'.cx, .slice (some ⟨d'.gu, 0, none⟩) M.c.length d'.cu, .slice (some ⟨d'.gt, 0, none⟩) M.c.length d'.ct, .int .i64 (M.h : Nat)]) rfl (by kernel_rfl) (by kernel_rfl) (by kernel_rfl) (fun _ _ _ h => h) (Or.inl ⟨by rfl, ?_⟩) (by assumption) ?_
        · (intro wq hSw; obtain ⟨x0, x1, x2, x3⟩ := box_cells hSw.1; go_simp; try rfl)
        try simp only [Act.put, List.getElem_toArray, List.getElem_cons_zero, List.getElem_cons_succ, List.setIfInBounds_toArray, List.set_cons_zero, List.set_cons_succ]
        refine wpAnyH_take (i := 2) (v := ?_) rfl (by kernel_rfl) (by kernel_rfl) (by kernel_rfl) (fun _ _ _ h => h) (Or.inl ⟨by rfl, ?_⟩) (by assumption) ?_
        rotate_left
        · (intro wq hSw; go_simp; try (with_reducible rfl))
        try simp only [Act.put, List.getElem_toArray, List.getElem_cons_zero, List.getElem_cons_succ, List.setIfInBounds_toArray, List.set_cons_zero, List.set_cons_succ]
        refine wpAnyH_take (i := 3) (v := ?_) rfl (by kernel_rfl) (by kernel_rfl) (by kernel_rfl) (fun _ _ _ h => h) (Or.inl ⟨by rfl, ?_⟩) (by assumption) ?_
        rotate_left
        · (intro wq hSw; go_simp; try (with_reducible rfl))
        try simp only [Act.put, List.getElem_toArray, List.getElem_cons_zero, List.getElem_cons_succ, List.setIfInBounds_toArray, List.set_cons_zero, List.set_cons_succ]
        refine wpAnyH_take (i := 4) (v := ?_) rfl (by kernel_rfl) (by kernel_rfl) (by kernel_rfl) (fun _ _ _ h => h) (Or.inl ⟨by rfl, ?_⟩) (by assumption) ?_
        rotate_left
        · (intro wq hSw; go_simp; try (with_reducible rfl))
        try simp only [Act.put, List.getElem_toArray, List.getElem_cons_zero, List.getElem_cons_succ, List.setIfInBounds_toArray, List.set_cons_zero, List.set_cons_succ]
        refine wpAnyH_take (i := 5) rfl (by kernel_rfl) (by kernel_rfl) (by kernel_rfl) (fun _ _ _ h => h) (yieldsIf_load_mid (by rfl) 41 _ rfl b (off + j * 9) rfl (df D) _ (fun wq hSw => HRG.out wq hSw.2) Try.underlying41 rfl (infoD9 _)) (by assumption) ?_
        try simp only [Act.put, List.getElem_toArray, List.getElem_cons_zero, List.getElem_cons_succ, List.setIfInBounds_toArray, List.set_cons_zero, List.set_cons_succ]
        refine wpAnyH_ready (rs := [6, 10]) (by kernel_rfl) (by simp) ?_
        refine AllReadyH.cons rfl (fun K1 hK => ?_) (AllReadyH.cons rfl (fun K1 hK => ?_) AllReadyH.nil)
        · rw [if_pos (by rfl)]
          go_simp
          go_at_call 12
          with_reducible (refine (HDO.out _ HR7.out).mono ?_)
          rintro e w8 ⟨d5, M5, rfl, hb8, hc8⟩
          have hl8 : Below w.heap.size w w8 := HR7.out.lo.trans (hc8.isBelow HR7.out.kx HR7.out.lo.size)
          have HD8 := Lib.hid (HR7.out.deed hb8 hc8)
          have HL8 := Lib.hid hl8
          have h9 := new_sh w8 #[.slice (some ⟨d5.gx, 0, none⟩) M5.c.length d5.cx, .slice (some ⟨d5.gu, 0, none⟩) M5.c.length d5.cu, .slice (some ⟨d5.gt, 0, none⟩) M5.c.length d5.ct, .int .i64 (M5.h : Nat)]
          have HN9 := Lib.hid h9
          have HR9 := Lib.hid (HR7.out.deed (hb8.low h9.2.2) (hc8.below h9.2.2))
          have HQ9 := Lib.hid (show r < w8.heap.size from HD8.out.1.lt)
          clear hb8 hc8 hl8 h9
          refine hK.out _ _ ⟨HD8.out.1, HL8.out⟩ (fun _ => ?_)
          clear hK K1
          try simp only [Act.put, List.getElem_toArray, List.getElem_cons_zero, List.getElem_cons_succ, List.setIfInBounds_toArray, List.set_cons_zero, List.set_cons_succ]
          refine wpAnyH_take (i := 7) (v := ?_) rfl (by kernel_rfl) (by kernel_rfl) (by kernel_rfl) (fun _ _ _ h => h) (Or.inl ⟨by rfl, ?_⟩) (by assumption) ?_
          rotate_left
          · (intro wq hSw; go_simp; try (with_reducible rfl))
          try simp only [Act.put, List.getElem_toArray, List.getElem_cons_zero, List.getElem_cons_succ, List.setIfInBounds_toArray, List.set_cons_zero, List.set_cons_succ]
          refine wpAnyH_take (i := 8) (v := ?_) rfl (by kernel_rfl) (by kernel_rfl) (by kernel_rfl) (fun _ _ _ h => h) (Or.inl ⟨by rfl, ?_⟩) (by assumption) ?_
          rotate_left
          · (intro wq hSw; go_simp; try (with_reducible rfl))
          try simp only [Act.put, List.getElem_toArray, List.getElem_cons_zero, List.getElem_cons_succ, List.setIfInBounds_toArray, List.set_cons_zero, List.set_cons_succ]
          refine wpAnyH_take (i := 9) (v := ?_) rfl (by kernel_rfl) (by kernel_rfl) (by kernel_rfl) (fun _ _ _ h => h) (Or.inl ⟨by rfl, ?_⟩) (by assumption) ?_
          rotate_left
          · (intro wq hSw; go_simp; try (with_reducible rfl))
          try simp only [Act.put, List.getElem_toArray, List.getElem_cons_zero, List.getElem_cons_succ, List.setIfInBounds_toArray, List.set_cons_zero, List.set_cons_succ]
          refine wpAnyH_ready (rs := [10]) (by kernel_rfl) (by simp) ?_
          refine AllReadyH.cons rfl (fun K1 hK => ?_) AllReadyH.nil
          rw [if_pos (by rfl)]
          go_simp
          refine hK.out _ _ ⟨HD8.out.1.eq (Below.heap_alloc _ _ _ HD8.out.1.lt), HL8.out.alloc HL8.out.size _⟩ (fun _ => ?_)
          clear hK K1
          try simp only [Act.put, List.getElem_toArray, List.getElem_cons_zero, List.getElem_cons_succ, List.setIfInBounds_toArray, List.set_cons_zero, List.set_cons_succ]
          refine wpAnyH_ready (rs := [11]) (by kernel_rfl) (by simp) ?_
          refine AllReadyH.cons rfl (fun K1 hK => ?_) AllReadyH.nil
          rw [if_pos (by rfl)]
          refine wp_store_row 29 _ _ rfl w8.heap.size _ rfl rfl 29 zD HN9.out.1 infoD rfl (all4 _ _ _ _ _ _ _ _) ?_
          refine hK.out _ _ ⟨(HD8.out.1.eq (Below.heap_alloc _ _ _ HD8.out.1.lt)).eq (setRow_other _ _ _ _ (by have := HQ9.out; omega)), setRow_below (HL8.out.alloc HL8.out.size _) HL8.out.size _⟩ (fun _ => ?_)
          clear hK K1
          try simp only [Act.put, List.getElem_toArray, List.getElem_cons_zero, List.getElem_cons_succ, List.setIfInBounds_toArray, List.set_cons_zero, List.set_cons_succ]
          refine wpAnyH_ready (rs := [12]) (by kernel_rfl) (by simp) ?_
          refine AllReadyH.cons rfl (fun K1 hK => ?_) AllReadyH.nil
          rw [if_pos (by rfl)]
          go_simp
          refine hK.out _ _ ⟨(HD8.out.1.eq (Below.heap_alloc _ _ _ HD8.out.1.lt)).eq (setRow_other _ _ _ _ (by have := HQ9.out; omega)), setRow_below (HL8.out.alloc HL8.out.size _) HL8.out.size _⟩ (fun _ => ?_)
          clear hK K1
          try simp only [Act.put, List.getElem_toArray, List.getElem_cons_zero, List.getElem_cons_succ, List.setIfInBounds_toArray, List.set_cons_zero, List.set_cons_succ]
          refine wpAnyH_done (by kernel_rfl) ?_ _
          have HR9a := Lib.hid HR9.out.1
          have HN9b := Lib.hid HN9.out.2.1
          unfold zD at HR9a HN9b
          go_upto_region 11 with (first | (refine wpList_load_row rfl 29 _ rfl (w8.heap.size) rfl 29 _ _ _ HN9b.out Try.underlying29 rfl infoD ?_) | (refine wpList_store_row rfl 29 _ _ rfl (r) _ rfl rfl 29 _ HR9a.out infoD rfl (all4 _ _ _ _ _ _ _ _) ?_))
          have HRz := Lib.hid HR9.out.2
          clear HR9 HN9 HD8 HL8 HR9a HN9b
          unfold zD at HRz
          generalize ((w8.alloc (Obj.cells #[Value.slice none 0 0, .slice none 0 0, .slice none 0 0, .int .i64 0] 29)).setRow w8.heap.size #[.slice (some ⟨d5.gx, 0, none⟩) M5.c.length d5.cx, .slice (some ⟨d5.gu, 0, none⟩) M5.c.length d5.cu, .slice (some ⟨d5.gt, 0, none⟩) M5.c.length d5.ct, .int .i64 (M5.h : Nat)]).setRow r #[.slice (some ⟨d5.gx, 0, none⟩) M5.c.length d5.cx, .slice (some ⟨d5.gu, 0, none⟩) M5.c.length d5.cu, .slice (some ⟨d5.gt, 0, none⟩) M5.c.length d5.ct, .int .i64 (M5.h : Nat)] = w10 at *
          have HP := Lib.hid (plays_len HR7.out.bo D HTK.out hlen)
          clear HR7 HDO HRG
          have hd := (Below.refl w10.heap.size w10).drew
          have HR := Lib.hid (HRz.out.low hd)
          have HS := Lib.hid (rn_cells HR.out)
          have hok : (doS (runS rr (l.take j)) D).Ok := HR.out.bo.sh.ok
          have hkl := keys_le hok
          have HKY := Lib.hid (fun Wx (hW : Rn w Wx h K (doS (runS rr (l.take j)) D) B r d5 M5) => keys_s hW.bo.sh)
          have HLE := Lib.hid (fun Wx (hW : Rn w Wx h K (doS (runS rr (l.take j)) D) B r d5 M5) => len_s hW.bo.sh)
          have HRO := Lib.hid (fun Wx (hW : Rn w Wx h K (doS (runS rr (l.take j)) D) B r d5 M5) => room_s hW.bo.sh)
          have HRK := Lib.hid (fun Wx (hW : Rn w Wx h K (doS (runS rr (l.take j)) D) B r d5 M5) => rkeys_any B d5 M5 hW.bo.ok Wx hW.bo.dw)
          simp only [dV_eq, pc_eq HR.out.bo.pm] at HRK
          simp only [HP.out] at HRO
          have HAS := Lib.hid (fun A1 c1 A2 c2 Wx h1 h2 => asks_yes A1 c1 A2 c2 (keysOf (doS (runS rr (l.take j)) D).P.c) hkl Wx h1 h2)
          generalize keysOf (doS (runS rr (l.take j)) D).P.c = ks at *
          clear hd HRz hok
          go_region_held3 (fun w' => w'.cell? ⟨r, 0, none⟩ = some (.slice (some ⟨d5.gx, 0, none⟩) M5.c.length d5.cx) ∧ w'.cell? ⟨r, 1, none⟩ = some (.slice (some ⟨d5.gu, 0, none⟩) M5.c.length d5.cu) ∧ w'.cell? ⟨r, 2, none⟩ = some (.slice (some ⟨d5.gt, 0, none⟩) M5.c.length d5.ct) ∧ w'.cell? ⟨r, 3, none⟩ = some (.int .i64 (M5.h : Nat))) (exact HS.out) (first
            | (go_at_call 14; (with_reducible (refine (HKY.out _ HR.out).mono ?_)); rintro e w11 ⟨A1, c1, rfl, hs1, _, hb1⟩; have HA1 := Lib.hid hs1; have HR2 := Lib.hid (HR.out.low hb1); clear HR HS; have HS := Lib.hid (rn_cells HR2.out); have HR := Lib.hid HR2.out; clear HR2 hs1 hb1)
            | (go_at_call 15; (with_reducible (refine (HRK.out _ HR.out).mono ?_)); rintro e w12 ⟨A2, c2, rfl, hs2, hb2⟩; have HA2 := Lib.hid (And.intro (HA1.out.below' hb2) hs2); have HR2 := Lib.hid (HR.out.low hb2); clear HR HS HA1; have HS := Lib.hid (rn_cells HR2.out); have HR := Lib.hid HR2.out; have HA1 := Lib.hid HA2.out.1; clear HR2 hs2 hb2)
            | (go_at_call 13; (with_reducible (refine (HAS.out _ _ _ _ _ HA2.out.1 HA2.out.2).mono ?_)); rintro e w13 ⟨rfl, hb3⟩; have HR2 := Lib.hid (HR.out.low hb3); have HA3 := Lib.hid (HA1.out.below' hb3); clear HR HS HA1 HA2; have HS := Lib.hid (rn_cells HR2.out); have HR := Lib.hid HR2.out; have HA1 := Lib.hid HA3.out; clear HR2 HA3 hb3)
            | (go_at_call 16; (with_reducible (refine (HLE.out _ HR.out).mono ?_)); rintro e w14 ⟨rfl, hb4⟩; have HR2 := Lib.hid (HR.out.low hb4); have HA3 := Lib.hid (HA1.out.below' hb4); clear HR HS HA1; have HS := Lib.hid (rn_cells HR2.out); have HR := Lib.hid HR2.out; have HA1 := Lib.hid HA3.out; clear HR2 HA3 hb4)
            | (go_at_call 17; (with_reducible (refine (HRO.out _ HR.out).mono ?_)); rintro e w15 ⟨rfl, rfl⟩))
          go_wp2_with fail
          go_roundw
          case rel =>
            refine ⟨j + 1, d5, M5, hlt, by omega, by go_num, ?_, ?_⟩
            · rw [HTK.out]; exact HP.out
            · rw [HTK.out]; exact HR.out
          case measure => simp [intOf]; omega
        · rw [if_pos (by rfl)]
          go_simp
          have hal := (Below.refl w7.heap.size w7).alloc (Nat.le_refl _) (Obj.cells zD 29)
          have HN8 := Lib.hid (Blk.new w7 29 zD)
          have HR8 := Lib.hid (HR7.out.low hal)
          have HQ8 := Lib.hid (show r < w7.heap.size from HR7.out.bx.lt)
          refine hK.out _ _ ⟨HR8.out.bx, HR8.out.lo⟩ (fun _ => ?_)
          clear hK K1 hal
          try simp only [Act.put, List.getElem_toArray, List.getElem_cons_zero, List.getElem_cons_succ, List.setIfInBounds_toArray, List.set_cons_zero, List.set_cons_succ]
          unfold zD at HN8 HR8
          generalize w7.alloc (Obj.cells #[Value.slice none 0 0, .slice none 0 0, .slice none 0 0, .int .i64 0] 29) = w8 at *
          generalize w7.heap.size = ra at *
          refine wpAnyH_ready (rs := [6]) (by kernel_rfl) (by simp) ?_
          refine AllReadyH.cons rfl (fun K1 hK => ?_) AllReadyH.nil
          rw [if_pos (by rfl)]
          go_simp
          go_at_call 12
          with_reducible (refine (HDO.out _ HR8.out).mono ?_)
          rintro e w9 ⟨d5, M5, rfl, hb9, hc9⟩
          have hl9 : Below w.heap.size w w9 := HR8.out.lo.trans (hc9.isBelow HR8.out.kx HR8.out.lo.size)
          have HD9 := Lib.hid (HR8.out.deed hb9 hc9)
          have hx9 : Blk w9 ra 29 zD := HN8.out.eq (hc9.block _ HN8.out.lt (fun e => by have := (sh_lt HR8.out.bo.sh).2 ra e; have := HR8.out.hr; have := HQ8.out; omega))
          have hra : h < ra := by have := HR8.out.hr; have := HQ8.out; omega
          have HB9 := Lib.hid (hb9.set hx9 noS_z hra #[.slice (some ⟨d5.gx, 0, none⟩) M5.c.length d5.cx, .slice (some ⟨d5.gu, 0, none⟩) M5.c.length d5.cu, .slice (some ⟨d5.gt, 0, none⟩) M5.c.length d5.ct, .int .i64 (M5.h : Nat)])
          have HX9 := Lib.hid hx9
          have HL9 := Lib.hid (And.intro hl9 (show w.heap.size ≤ ra by have := HR8.out.rb; have := HQ8.out; omega))
          clear hb9 hc9 hl9 hx9 hra
          refine hK.out _ _ ⟨HD9.out.1, HL9.out.1⟩ (fun _ => ?_)
          clear hK K1
          try simp only [Act.put, List.getElem_toArray, List.getElem_cons_zero, List.getElem_cons_succ, List.setIfInBounds_toArray, List.set_cons_zero, List.set_cons_succ]
          refine wpAnyH_take (i := 7) (v := ?_) rfl (by kernel_rfl) (by kernel_rfl) (by kernel_rfl) (fun _ _ _ h => h) (Or.inl ⟨by rfl, ?_⟩) (by assumption) ?_
          rotate_left
          · (intro wq hSw; go_simp; try (with_reducible rfl))
          try simp only [Act.put, List.getElem_toArray, List.getElem_cons_zero, List.getElem_cons_succ, List.setIfInBounds_toArray, List.set_cons_zero, List.set_cons_succ]
          refine wpAnyH_take (i := 8) (v := ?_) rfl (by kernel_rfl) (by kernel_rfl) (by kernel_rfl) (fun _ _ _ h => h) (Or.inl ⟨by rfl, ?_⟩) (by assumption) ?_
          rotate_left
          · (intro wq hSw; go_simp; try (with_reducible rfl))
          try simp only [Act.put, List.getElem_toArray, List.getElem_cons_zero, List.getElem_cons_succ, List.setIfInBounds_toArray, List.set_cons_zero, List.set_cons_succ]
          refine wpAnyH_take (i := 9) (v := ?_) rfl (by kernel_rfl) (by kernel_rfl) (by kernel_rfl) (fun _ _ _ h => h) (Or.inl ⟨by rfl, ?_⟩) (by assumption) ?_
          rotate_left
          · (intro wq hSw; go_simp; try (with_reducible rfl))
          try simp only [Act.put, List.getElem_toArray, List.getElem_cons_zero, List.getElem_cons_succ, List.setIfInBounds_toArray, List.set_cons_zero, List.set_cons_succ]
          refine wpAnyH_ready (rs := [11]) (by kernel_rfl) (by simp) ?_
          refine AllReadyH.cons rfl (fun K1 hK => ?_) AllReadyH.nil
          rw [if_pos (by rfl)]
          refine wp_store_row 29 _ _ rfl ra _ rfl rfl 29 zD HX9.out infoD rfl (all4 _ _ _ _ _ _ _ _) ?_
          refine hK.out _ _ ⟨HD9.out.1.eq (setRow_other _ _ _ _ (by have := HQ8.out; omega)), setRow_below HL9.out.1 HL9.out.2 _⟩ (fun _ => ?_)
          clear hK K1
          try simp only [Act.put, List.getElem_toArray, List.getElem_cons_zero, List.getElem_cons_succ, List.setIfInBounds_toArray, List.set_cons_zero, List.set_cons_succ]
          refine wpAnyH_ready (rs := [12]) (by kernel_rfl) (by simp) ?_
          refine AllReadyH.cons rfl (fun K1 hK => ?_) AllReadyH.nil
          rw [if_pos (by rfl)]
          go_simp
          refine hK.out _ _ ⟨HD9.out.1.eq (setRow_other _ _ _ _ (by have := HQ8.out; omega)), setRow_below HL9.out.1 HL9.out.2 _⟩ (fun _ => ?_)
          clear hK K1
          try simp only [Act.put, List.getElem_toArray, List.getElem_cons_zero, List.getElem_cons_succ, List.setIfInBounds_toArray, List.set_cons_zero, List.set_cons_succ]
          refine wpAnyH_done (by kernel_rfl) ?_ _
          have HK9 := Lib.hid (show Blk (w9.setRow ra #[.slice (some ⟨d5.gx, 0, none⟩) M5.c.length d5.cx, .slice (some ⟨d5.gu, 0, none⟩) M5.c.length d5.cu, .slice (some ⟨d5.gt, 0, none⟩) M5.c.length d5.ct, .int .i64 (M5.h : Nat)]) ra 29 #[.slice (some ⟨d5.gx, 0, none⟩) M5.c.length d5.cx, .slice (some ⟨d5.gu, 0, none⟩) M5.c.length d5.cu, .slice (some ⟨d5.gt, 0, none⟩) M5.c.length d5.ct, .int .i64 (M5.h : Nat)] from setRow_heap _ _ _ _ _ _ HX9.out)
          have hr9 : Blk (w9.setRow ra #[.slice (some ⟨d5.gx, 0, none⟩) M5.c.length d5.cx, .slice (some ⟨d5.gu, 0, none⟩) M5.c.length d5.cu, .slice (some ⟨d5.gt, 0, none⟩) M5.c.length d5.ct, .int .i64 (M5.h : Nat)]) r 29 #[.slice (some ⟨d'.gx, 0, none⟩) M.c.length d'.cx, .slice (some ⟨d'.gu, 0, none⟩) M.c.length d'.cu, .slice (some ⟨d'.gt, 0, none⟩) M.c.length d'.ct, .int .i64 (M.h : Nat)] := HD9.out.1.eq (setRow_other _ _ _ _ (by have := HQ8.out; omega))
          have HR9 := Lib.hid hr9
          have HF9 := Lib.hid (show Rn w ((w9.setRow ra #[.slice (some ⟨d5.gx, 0, none⟩) M5.c.length d5.cx, .slice (some ⟨d5.gu, 0, none⟩) M5.c.length d5.cu, .slice (some ⟨d5.gt, 0, none⟩) M5.c.length d5.ct, .int .i64 (M5.h : Nat)]).setRow r #[.slice (some ⟨d5.gx, 0, none⟩) M5.c.length d5.cx, .slice (some ⟨d5.gu, 0, none⟩) M5.c.length d5.cu, .slice (some ⟨d5.gt, 0, none⟩) M5.c.length d5.ct, .int .i64 (M5.h : Nat)]) h K (doS (runS rr (l.take j)) D) B r d5 M5 from ⟨HB9.out.set hr9 (noS_box _ _ _ _ _ _ _ _) HR8.out.hr _, setRow_heap _ _ _ _ _ _ hr9, HR8.out.hr, HR8.out.rb, setRow_below (setRow_below HL9.out.1 HL9.out.2 _) HR8.out.rb _, HR8.out.kx⟩)
          clear hr9
          go_upto_region 11 with (first | (refine wpList_load_row rfl 29 _ rfl (ra) rfl 29 _ _ _ HK9.out Try.underlying29 rfl infoD ?_) | (refine wpList_store_row rfl 29 _ _ rfl (r) _ rfl rfl 29 _ HR9.out infoD rfl (all4 _ _ _ _ _ _ _ _) ?_))
          have HRz := Lib.hid HF9.out
          clear HF9 HR9 HK9 HB9 HX9 HL9 HD9 HR8 HN8
          generalize (w9.setRow ra #[.slice (some ⟨d5.gx, 0, none⟩) M5.c.length d5.cx, .slice (some ⟨d5.gu, 0, none⟩) M5.c.length d5.cu, .slice (some ⟨d5.gt, 0, none⟩) M5.c.length d5.ct, .int .i64 (M5.h : Nat)]).setRow r #[.slice (some ⟨d5.gx, 0, none⟩) M5.c.length d5.cx, .slice (some ⟨d5.gu, 0, none⟩) M5.c.length d5.cu, .slice (some ⟨d5.gt, 0, none⟩) M5.c.length d5.ct, .int .i64 (M5.h : Nat)] = w10 at *
          have HP := Lib.hid (plays_len HR7.out.bo D HTK.out hlen)
          clear HR7 HDO HRG
          have hd := (Below.refl w10.heap.size w10).drew
          have HR := Lib.hid (HRz.out.low hd)
          have HS := Lib.hid (rn_cells HR.out)
          have hok : (doS (runS rr (l.take j)) D).Ok := HR.out.bo.sh.ok
          have hkl := keys_le hok
          have HKY := Lib.hid (fun Wx (hW : Rn w Wx h K (doS (runS rr (l.take j)) D) B r d5 M5) => keys_s hW.bo.sh)
          have HLE := Lib.hid (fun Wx (hW : Rn w Wx h K (doS (runS rr (l.take j)) D) B r d5 M5) => len_s hW.bo.sh)
          have HRO := Lib.hid (fun Wx (hW : Rn w Wx h K (doS (runS rr (l.take j)) D) B r d5 M5) => room_s hW.bo.sh)
          have HRK := Lib.hid (fun Wx (hW : Rn w Wx h K (doS (runS rr (l.take j)) D) B r d5 M5) => rkeys_any B d5 M5 hW.bo.ok Wx hW.bo.dw)
          simp only [dV_eq, pc_eq HR.out.bo.pm] at HRK
          simp only [HP.out] at HRO
          have HAS := Lib.hid (fun A1 c1 A2 c2 Wx h1 h2 => asks_yes A1 c1 A2 c2 (keysOf (doS (runS rr (l.take j)) D).P.c) hkl Wx h1 h2)
          generalize keysOf (doS (runS rr (l.take j)) D).P.c = ks at *
          clear hd HRz hok
          go_region_held3 (fun w' => w'.cell? ⟨r, 0, none⟩ = some (.slice (some ⟨d5.gx, 0, none⟩) M5.c.length d5.cx) ∧ w'.cell? ⟨r, 1, none⟩ = some (.slice (some ⟨d5.gu, 0, none⟩) M5.c.length d5.cu) ∧ w'.cell? ⟨r, 2, none⟩ = some (.slice (some ⟨d5.gt, 0, none⟩) M5.c.length d5.ct) ∧ w'.cell? ⟨r, 3, none⟩ = some (.int .i64 (M5.h : Nat))) (exact HS.out) (first
            | (go_at_call 14; (with_reducible (refine (HKY.out _ HR.out).mono ?_)); rintro e w11 ⟨A1, c1, rfl, hs1, _, hb1⟩; have HA1 := Lib.hid hs1; have HR2 := Lib.hid (HR.out.low hb1); clear HR HS; have HS := Lib.hid (rn_cells HR2.out); have HR := Lib.hid HR2.out; clear HR2 hs1 hb1)
            | (go_at_call 15; (with_reducible (refine (HRK.out _ HR.out).mono ?_)); rintro e w12 ⟨A2, c2, rfl, hs2, hb2⟩; have HA2 := Lib.hid (And.intro (HA1.out.below' hb2) hs2); have HR2 := Lib.hid (HR.out.low hb2); clear HR HS HA1; have HS := Lib.hid (rn_cells HR2.out); have HR := Lib.hid HR2.out; have HA1 := Lib.hid HA2.out.1; clear HR2 hs2 hb2)
            | (go_at_call 13; (with_reducible (refine (HAS.out _ _ _ _ _ HA2.out.1 HA2.out.2).mono ?_)); rintro e w13 ⟨rfl, hb3⟩; have HR2 := Lib.hid (HR.out.low hb3); have HA3 := Lib.hid (HA1.out.below' hb3); clear HR HS HA1 HA2; have HS := Lib.hid (rn_cells HR2.out); have HR := Lib.hid HR2.out; have HA1 := Lib.hid HA3.out; clear HR2 HA3 hb3)
            | (go_at_call 16; (with_reducible (refine (HLE.out _ HR.out).mono ?_)); rintro e w14 ⟨rfl, hb4⟩; have HR2 := Lib.hid (HR.out.low hb4); have HA3 := Lib.hid (HA1.out.below' hb4); clear HR HS HA1; have HS := Lib.hid (rn_cells HR2.out); have HR := Lib.hid HR2.out; have HA1 := Lib.hid HA3.out; clear HR2 HA3 hb4)
            | (go_at_call 17; (with_reducible (refine (HRO.out _ HR.out).mono ?_)); rintro e w15 ⟨rfl, rfl⟩))
          go_wp2_with fail
          go_roundw
          case rel =>
            refine ⟨j + 1, d5, M5, hlt, by omega, by go_num, ?_, ?_⟩
            · rw [HTK.out]; exact HP.out
            · rw [HTK.out]; exact HR.out
          case measure => simp [intOf]; omega

      · obtain rfl : j = 200 := by omega
        have d2 : decide (((200 : Nat) : Int) < 200) = false := by simp
        have HF := Lib.hid hR
        clear hR
        go_wp2_with fail
        go_ret
        exact ⟨rfl, HF.out.lo⟩
    · obtain rfl : j = l.length := by omega
      have d1 : decide ((l.length : Int) < (l.length : Nat)) = false := by simp
      have HF := Lib.hid hR
      clear hR
      go_wp2_with fail
      go_ret
      exact ⟨rfl, HF.out.lo⟩

theorem plays_any (zr zs : Int) (A : Option Addr) (cap : Nat) (l : List Dd) (w : World) (hL : Sl df w A cap l) (hA : ∀ D ∈ l, ArgD w D) : Calls Try.prog 3 #[.int .i64 zr, .int .i64 zs, .slice A l.length cap] w fun e w' => e = .returned (.bool true) ∧ Below w.heap.size w w' := by
  by_cases h1 : zr < 1
  · exact bad_a zr zs _ h1 w (fun W => new_bad zr (.inl h1) zs W)
  by_cases h2 : 64 < zr
  · exact bad_b zr zs _ h2 w (fun W => new_bad zr (.inr h2) zs W)
  obtain ⟨rr, rfl⟩ : ∃ rr : Nat, zr = rr := ⟨zr.toNat, by omega⟩
  by_cases h3 : zs < 1
  · exact bad_c _ zs _ (by omega) (by omega) h3 w (fun W => new_bad2 rr (by omega) (by omega) zs (.inl h3) W)
  by_cases h4 : 256 < zs
  · exact bad_d _ zs _ (by omega) (by omega) h4 w (fun W => new_bad2 rr (by omega) (by omega) zs (.inr h4) W)
  obtain ⟨ss, rfl⟩ : ∃ ss : Nat, zs = ss := ⟨zs.toNat, by omega⟩
  exact plays_good rr ss (by omega) (by omega) (by omega) (by omega) A cap l w hL hA
end Go.Proofs.Ytjjanogfcfapcaa.D
