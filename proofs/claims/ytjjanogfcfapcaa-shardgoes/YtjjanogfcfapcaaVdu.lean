/- derricklaw12.ran: the walk (written by tools/gen_vdu.py). -/
import Derived.Test.YtjjanogfcfapcaaVdt
namespace Go.Proofs.Ytjjanogfcfapcaa.D
open Go.RowKit
set_option linter.unusedVariables false
set_option linter.unusedSimpArgs false

set_option maxRecDepth 100000 in
set_option maxHeartbeats 4000000 in
theorem ran_any (A : Option Addr) (cap : Nat) (l : List Dd) (w : World) (hL : Sl df w A cap l) (hA : ∀ D ∈ l, ArgD w D) : Calls Try.prog 18 #[.slice A l.length cap] w fun e w' => ∃ (h : Nat) (K : Ly), e = .returned (.pointer (some ⟨h, 0, none⟩)) ∧ Sh w' h K (runS 4 (l.take 200)) ∧ Below w.heap.size w w' ∧ ∀ i, K.X i → w.heap.size ≤ i := by
  have HN := Lib.hid (new_z 4 8 4 8 rfl rfl (by omega) (by omega) (by omega) (by omega) w)
  have HL := Lib.hid hL
  have HA := Lib.hid hA
  clear hL hA
  go_enter Try.func18, Try.ntmps18
  go_upto_region 2 with ((go_at_call 10; with_reducible (refine (HN.out).mono ?_); rintro e w1 ⟨h, K, rfl, hs1, hb1, hk1⟩; have HS1 := Lib.hid (And.intro hs1 (And.intro hb1 hk1)); clear hs1 hb1 hk1))
  have HR := Lib.hid (rnew_z 4 4 rfl (by omega) (by omega) w1)
  go_upto_region 3 with (first | (refine wpList_store_row rfl 29 _ _ rfl (w2.heap.size) _ rfl rfl 29 _ HN2.out.1 infoD rfl (all4 _ _ _ _ _ _ _ _) ?_) | (go_at_call 11; with_reducible (refine (HR.out).mono ?_); rintro e w2 ⟨d, rfl, hd2, hb2⟩; have HD2 := Lib.hid (And.intro hd2 hb2); have HN2 := Lib.hid (new_sh w2 #[.slice (some ⟨d.gx, 0, none⟩) 4 d.cx, .slice (some ⟨d.gu, 0, none⟩) 4 d.cu, .slice (some ⟨d.gt, 0, none⟩) 4 d.ct, .int .i64 ((0 : Nat) : Int)]); unfold zD at HN2; clear hd2 hb2))
  obtain ⟨_, k3, b3⟩ := HN2.out
  have hr0 := rn_new (n := 4) (by omega) (by omega) HS1.out.1 HS1.out.2.1 HS1.out.2.2 HD2.out.1 HD2.out.2 k3 b3
  have HR3 := Lib.hid hr0
  clear k3 b3 HN2 hr0 HS1 HD2 HR HN
  generalize (w2.alloc (Obj.cells #[Value.slice none 0 0, .slice none 0 0, .slice none 0 0, .int .i64 0] 29)).setRow w2.heap.size #[.slice (some ⟨d.gx, 0, none⟩) 4 d.cx, .slice (some ⟨d.gu, 0, none⟩) 4 d.cu, .slice (some ⟨d.gt, 0, none⟩) 4 d.ct, .int .i64 ((0 : Nat) : Int)] = w3 at *
  generalize w2.heap.size = r at *
  generalize w1.heap.size = B at *
  go_wp2_with fail
  go_loopw [5] (fun v wr => ∃ (j : Nat) (d' : Dv) (M : Ms Ev), j ≤ l.length ∧ j ≤ 200 ∧ v = .int .i64 j ∧ Rn w wr h K (runS 4 (l.take j)) B r d' M) (fun v _ => l.length - (intOf v).toNat)
  case atStart => exact ⟨0, d, newM 4, Nat.zero_le _, Nat.zero_le _, rfl, HR3.out⟩
  case round =>
    clear HR3
    obtain ⟨j, d', M, hj, hj2, rfl, hR⟩ := hrel
    by_cases hlt : j < l.length
    · have d1 : decide ((j : Int) < (l.length : Nat)) = true := by simp; omega
      by_cases hlt2 : j < 200
      · have d2 : decide ((j : Int) < 200) = true := by simp; omega
        have s0 : (0 : Int) ≤ (j : Nat) := by omega
        have s1 : (j : Int) < (l.length : Nat) := by omega
        obtain ⟨b, off, rfl, hbw, hcd⟩ := Sl_df HL.out j hlt
        have hd := (Below.refl wr.heap.size wr).drew
        have hR7 := hR.low hd
        have HR7 := Lib.hid hR7
        have hrg : ∀ (wq : World), Below w.heap.size w wq → wq.rangeAt b (off + j * 9) (df l[j]) := fun wq hq i u hi => (hq.cell (p := ⟨b, off + j * 9 + i, none⟩) hbw).trans (hcd i u hi)
        have HRG := Lib.hid hrg
        have ht : l.take (j + 1) = l.take j ++ [l[j]] := by rw [List.take_add_one, List.getElem?_eq_getElem hlt]; rfl
        have HTK := Lib.hid (show runS 4 (l.take (j + 1)) = doS (runS 4 (l.take j)) l[j] by rw [ht, runS_snoc])
        have HDO := Lib.hid (fun W (hW : Rn w W h K (runS 4 (l.take j)) B r d' M) => do_any hW.bo l[j] (arg_re (HA.out l[j] (List.getElem_mem hlt)).x hW.lo hW.kx))
        simp only [dV_eq] at HDO
        obtain ⟨D, HDl⟩ : ∃ D, Hid (l[j] = D) := ⟨_, Lib.hid rfl⟩
        simp only [HDl.out] at HRG HTK HDO
        clear hcd hrg ht hR7 HDl
        go_upto_region 6 with (fail)
        refine wp_region_held_drew (S := fun wq => Blk wq r 29 #[.slice (some ⟨d'.gx, 0, none⟩) M.c.length d'.cx, .slice (some ⟨d'.gu, 0, none⟩) M.c.length d'.cu, .slice (some ⟨d'.gt, 0, none⟩) M.c.length d'.ct, .int .i64 (M.h : Nat)] ∧ Below w.heap.size w wq) (by kernel_rfl) ⟨HR7.out.bx, HR7.out.lo⟩ (fun _ => ?_)
        clear hd hR
        generalize wr.drew = w7 at *
        refine wpAnyH_take (i := 0) (v := ?_) rfl (by kernel_rfl) (by kernel_rfl) (by kernel_rfl) (fun _ _ _ h => h) (Or.inl ⟨by rfl, ?_⟩) (by assumption) ?_
        rotate_left
        · (intro wq hSw; go_simp; try (with_reducible rfl))
        try simp only [Act.put, List.getElem_toArray, List.getElem_cons_zero, List.getElem_cons_succ, List.setIfInBounds_toArray, List.set_cons_zero, List.set_cons_succ]
        refine wpAnyH_take (i := 1) (v := .agg #[.slice (some ⟨d'.gx, 0, none⟩) M.c.length d'.cx, .slice (some ⟨d'.gu, 0, none⟩) M.c.length d'.cu, .slice (some ⟨d'.gt, 0, none⟩) M.c.length d'.ct, .int .i64 (M.h : Nat)]) rfl (by kernel_rfl) (by kernel_rfl) (by kernel_rfl) (fun _ _ _ h => h) (Or.inl ⟨by rfl, ?_⟩) (by assumption) ?_
        · (intro wq hSw; obtain ⟨x0, x1, x2, x3⟩ := box_cells hSw.1; go_simp; try rfl)
        try simp only [Act.put, List.getElem_toArray, List.getElem_cons_zero, List.getElem_cons_succ, List.setIfInBounds_toArray, List.set_cons_zero, List.set_cons_succ]
        refine wpAnyH_take (i := 2) (v := ?_) rfl (by kernel_rfl) (by kernel_rfl) (by kernel_rfl) (fun _ _ _ h => h) (Or.inl ⟨by rfl, ?_⟩) (by assumption) ?_
        rotate_left
        · (intro wq hSw; go_simp; try (with_reducible rfl))
        try simp only [Act.put, List.getElem_toArray, List.getElem_cons_zero, List.getElem_cons_succ, List.setIfInBounds_toArray, List.set_cons_zero, List.set_cons_succ]
        refine wpAnyH_take (i := 3) (v := ?_) rfl (by kernel_rfl) (by kernel_rfl) (by kernel_rfl) (fun _ _ _ h => h) (Or.inl ⟨by rfl, ?_⟩) (by assumption) ?_
        rotate_left
        · (intro wq hSw; go_simp; try (with_reducible rfl))
        try simp only [Act.put, List.getElem_toArray, List.getElem_cons_zero, List.getElem_cons_succ, List.setIfInBounds_toArray, List.set_cons_zero, List.set_cons_succ]
        refine wpAnyH_take (i := 4) (v := ?_) rfl (by kernel_rfl) (by kernel_rfl) (by kernel_rfl) (fun _ _ _ h => h) (Or.inl ⟨by rfl, ?_⟩) (by assumption) ?_
        rotate_left
        · (intro wq hSw; go_simp; try (with_reducible rfl))
        try simp only [Act.put, List.getElem_toArray, List.getElem_cons_zero, List.getElem_cons_succ, List.setIfInBounds_toArray, List.set_cons_zero, List.set_cons_succ]
        refine wpAnyH_take (i := 5) rfl (by kernel_rfl) (by kernel_rfl) (by kernel_rfl) (fun _ _ _ h => h) (yieldsIf_load_mid (by rfl) 41 _ rfl b (off + j * 9) rfl (df D) _ (fun wq hSw => HRG.out wq hSw.2) Try.underlying41 rfl (infoD9 _)) (by assumption) ?_
        try simp only [Act.put, List.getElem_toArray, List.getElem_cons_zero, List.getElem_cons_succ, List.setIfInBounds_toArray, List.set_cons_zero, List.set_cons_succ]
        refine wpAnyH_ready (rs := [6, 10]) (by kernel_rfl) (by simp) ?_
        refine AllReadyH.cons rfl (fun K1 hK => ?_) (AllReadyH.cons rfl (fun K1 hK => ?_) AllReadyH.nil)
        · rw [if_pos (by rfl)]
          go_simp
          go_at_call 12
          with_reducible (refine (HDO.out _ HR7.out).mono ?_)
          rintro e w8 ⟨d5, M5, rfl, hb8, hc8⟩
          have hl8 : Below w.heap.size w w8 := HR7.out.lo.trans (hc8.isBelow HR7.out.kx HR7.out.lo.size)
          have HD8 := Lib.hid (HR7.out.deed hb8 hc8)
          have HL8 := Lib.hid hl8
          have h9 := new_sh w8 #[.slice (some ⟨d5.gx, 0, none⟩) M5.c.length d5.cx, .slice (some ⟨d5.gu, 0, none⟩) M5.c.length d5.cu, .slice (some ⟨d5.gt, 0, none⟩) M5.c.length d5.ct, .int .i64 (M5.h : Nat)]
          have HN9 := Lib.hid h9
          have HR9 := Lib.hid (HR7.out.deed (hb8.low h9.2.2) (hc8.below h9.2.2))
          have HQ9 := Lib.hid (show r < w8.heap.size from HD8.out.1.lt)
          clear hb8 hc8 hl8 h9
          refine hK.out _ _ ⟨HD8.out.1, HL8.out⟩ (fun _ => ?_)
          clear hK K1
          try simp only [Act.put, List.getElem_toArray, List.getElem_cons_zero, List.getElem_cons_succ, List.setIfInBounds_toArray, List.set_cons_zero, List.set_cons_succ]
          refine wpAnyH_take (i := 7) (v := ?_) rfl (by kernel_rfl) (by kernel_rfl) (by kernel_rfl) (fun _ _ _ h => h) (Or.inl ⟨by rfl, ?_⟩) (by assumption) ?_
          rotate_left
          · (intro wq hSw; go_simp; try (with_reducible rfl))
          try simp only [Act.put, List.getElem_toArray, List.getElem_cons_zero, List.getElem_cons_succ, List.setIfInBounds_toArray, List.set_cons_zero, List.set_cons_succ]
          refine wpAnyH_take (i := 8) (v := ?_) rfl (by kernel_rfl) (by kernel_rfl) (by kernel_rfl) (fun _ _ _ h => h) (Or.inl ⟨by rfl, ?_⟩) (by assumption) ?_
          rotate_left
          · (intro wq hSw; go_simp; try (with_reducible rfl))
          try simp only [Act.put, List.getElem_toArray, List.getElem_cons_zero, List.getElem_cons_succ, List.setIfInBounds_toArray, List.set_cons_zero, List.set_cons_succ]
          refine wpAnyH_take (i := 9) (v := ?_) rfl (by kernel_rfl) (by kernel_rfl) (by kernel_rfl) (fun _ _ _ h => h) (Or.inl ⟨by rfl, ?_⟩) (by assumption) ?_
          rotate_left
          · (intro wq hSw; go_simp; try (with_reducible rfl))
          try simp only [Act.put, List.getElem_toArray, List.getElem_cons_zero, List.getElem_cons_succ, List.setIfInBounds_toArray, List.set_cons_zero, List.set_cons_succ]
          refine wpAnyH_ready (rs := [10]) (by kernel_rfl) (by simp) ?_
          refine AllReadyH.cons rfl (fun K1 hK => ?_) AllReadyH.nil
          rw [if_pos (by rfl)]
          go_simp
          refine hK.out _ _ ⟨HD8.out.1.eq (Below.heap_alloc _ _ _ HD8.out.1.lt), HL8.out.alloc HL8.out.size _⟩ (fun _ => ?_)
          clear hK K1
          try simp only [Act.put, List.getElem_toArray, List.getElem_cons_zero, List.getElem_cons_succ, List.setIfInBounds_toArray, List.set_cons_zero, List.set_cons_succ]
          refine wpAnyH_ready (rs := [11]) (by kernel_rfl) (by simp) ?_
          refine AllReadyH.cons rfl (fun K1 hK => ?_) AllReadyH.nil
          rw [if_pos (by rfl)]
          refine wp_store_row 29 _ _ rfl w8.heap.size _ rfl rfl 29 zD HN9.out.1 infoD rfl (all4 _ _ _ _ _ _ _ _) ?_
          refine hK.out _ _ ⟨(HD8.out.1.eq (Below.heap_alloc _ _ _ HD8.out.1.lt)).eq (setRow_other _ _ _ _ (by have := HQ9.out; omega)), setRow_below (HL8.out.alloc HL8.out.size _) HL8.out.size _⟩ (fun _ => ?_)
          clear hK K1
          try simp only [Act.put, List.getElem_toArray, List.getElem_cons_zero, List.getElem_cons_succ, List.setIfInBounds_toArray, List.set_cons_zero, List.set_cons_succ]
          refine wpAnyH_ready (rs := [12]) (by kernel_rfl) (by simp) ?_
          refine AllReadyH.cons rfl (fun K1 hK => ?_) AllReadyH.nil
          rw [if_pos (by rfl)]
          go_simp
          refine hK.out _ _ ⟨(HD8.out.1.eq (Below.heap_alloc _ _ _ HD8.out.1.lt)).eq (setRow_other _ _ _ _ (by have := HQ9.out; omega)), setRow_below (HL8.out.alloc HL8.out.size _) HL8.out.size _⟩ (fun _ => ?_)
          clear hK K1
          try simp only [Act.put, List.getElem_toArray, List.getElem_cons_zero, List.getElem_cons_succ, List.setIfInBounds_toArray, List.set_cons_zero, List.set_cons_succ]
          refine wpAnyH_done (by kernel_rfl) ?_ _
          have HR9a := Lib.hid HR9.out.1
          have HN9b := Lib.hid HN9.out.2.1
          unfold zD at HR9a HN9b
          go_wp2_with (first | (refine wpList_load_row rfl 29 _ rfl (w8.heap.size) rfl 29 _ _ _ HN9b.out Try.underlying29 rfl infoD ?_) | (refine wpList_store_row rfl 29 _ _ rfl (r) _ rfl rfl 29 _ HR9a.out infoD rfl (all4 _ _ _ _ _ _ _ _) ?_))
          go_roundw
          case rel =>
            refine ⟨j + 1, d5, M5, hlt, by omega, by go_num, ?_⟩
            rw [HTK.out]
            exact HR9.out.2
          case measure => simp [intOf]; omega
        · rw [if_pos (by rfl)]
          go_simp
          have hal := (Below.refl w7.heap.size w7).alloc (Nat.le_refl _) (Obj.cells zD 29)
          have HN8 := Lib.hid (Blk.new w7 29 zD)
          have HR8 := Lib.hid (HR7.out.low hal)
          have HQ8 := Lib.hid (show r < w7.heap.size from HR7.out.bx.lt)
          refine hK.out _ _ ⟨HR8.out.bx, HR8.out.lo⟩ (fun _ => ?_)
          clear hK K1 hal
          try simp only [Act.put, List.getElem_toArray, List.getElem_cons_zero, List.getElem_cons_succ, List.setIfInBounds_toArray, List.set_cons_zero, List.set_cons_succ]
          unfold zD at HN8 HR8
          generalize w7.alloc (Obj.cells #[Value.slice none 0 0, .slice none 0 0, .slice none 0 0, .int .i64 0] 29) = w8 at *
          generalize w7.heap.size = ra at *
          refine wpAnyH_ready (rs := [6]) (by kernel_rfl) (by simp) ?_
          refine AllReadyH.cons rfl (fun K1 hK => ?_) AllReadyH.nil
          rw [if_pos (by rfl)]
          go_simp
          go_at_call 12
          with_reducible (refine (HDO.out _ HR8.out).mono ?_)
          rintro e w9 ⟨d5, M5, rfl, hb9, hc9⟩
          have hl9 : Below w.heap.size w w9 := HR8.out.lo.trans (hc9.isBelow HR8.out.kx HR8.out.lo.size)
          have HD9 := Lib.hid (HR8.out.deed hb9 hc9)
          have hx9 : Blk w9 ra 29 zD := HN8.out.eq (hc9.block _ HN8.out.lt (fun e => by have := (sh_lt HR8.out.bo.sh).2 ra e; have := HR8.out.hr; have := HQ8.out; omega))
          have hra : h < ra := by have := HR8.out.hr; have := HQ8.out; omega
          have HB9 := Lib.hid (hb9.set hx9 noS_z hra #[.slice (some ⟨d5.gx, 0, none⟩) M5.c.length d5.cx, .slice (some ⟨d5.gu, 0, none⟩) M5.c.length d5.cu, .slice (some ⟨d5.gt, 0, none⟩) M5.c.length d5.ct, .int .i64 (M5.h : Nat)])
          have HX9 := Lib.hid hx9
          have HL9 := Lib.hid (And.intro hl9 (show w.heap.size ≤ ra by have := HR8.out.rb; have := HQ8.out; omega))
          clear hb9 hc9 hl9 hx9 hra
          refine hK.out _ _ ⟨HD9.out.1, HL9.out.1⟩ (fun _ => ?_)
          clear hK K1
          try simp only [Act.put, List.getElem_toArray, List.getElem_cons_zero, List.getElem_cons_succ, List.setIfInBounds_toArray, List.set_cons_zero, List.set_cons_succ]
          refine wpAnyH_take (i := 7) (v := ?_) rfl (by kernel_rfl) (by kernel_rfl) (by kernel_rfl) (fun _ _ _ h => h) (Or.inl ⟨by rfl, ?_⟩) (by assumption) ?_
          rotate_left
          · (intro wq hSw; go_simp; try (with_reducible rfl))
          try simp only [Act.put, List.getElem_toArray, List.getElem_cons_zero, List.getElem_cons_succ, List.setIfInBounds_toArray, List.set_cons_zero, List.set_cons_succ]
          refine wpAnyH_take (i := 8) (v := ?_) rfl (by kernel_rfl) (by kernel_rfl) (by kernel_rfl) (fun _ _ _ h => h) (Or.inl ⟨by rfl, ?_⟩) (by assumption) ?_
          rotate_left
          · (intro wq hSw; go_simp; try (with_reducible rfl))
          try simp only [Act.put, List.getElem_toArray, List.getElem_cons_zero, List.getElem_cons_succ, List.setIfInBounds_toArray, List.set_cons_zero, List.set_cons_succ]
          refine wpAnyH_take (i := 9) (v := ?_) rfl (by kernel_rfl) (by kernel_rfl) (by kernel_rfl) (fun _ _ _ h => h) (Or.inl ⟨by rfl, ?_⟩) (by assumption) ?_
          rotate_left
          · (intro wq hSw; go_simp; try (with_reducible rfl))
          try simp only [Act.put, List.getElem_toArray, List.getElem_cons_zero, List.getElem_cons_succ, List.setIfInBounds_toArray, List.set_cons_zero, List.set_cons_succ]
          refine wpAnyH_ready (rs := [11]) (by kernel_rfl) (by simp) ?_
          refine AllReadyH.cons rfl (fun K1 hK => ?_) AllReadyH.nil
          rw [if_pos (by rfl)]
          refine wp_store_row 29 _ _ rfl ra _ rfl rfl 29 zD HX9.out infoD rfl (all4 _ _ _ _ _ _ _ _) ?_
          refine hK.out _ _ ⟨HD9.out.1.eq (setRow_other _ _ _ _ (by have := HQ8.out; omega)), setRow_below HL9.out.1 HL9.out.2 _⟩ (fun _ => ?_)
          clear hK K1
          try simp only [Act.put, List.getElem_toArray, List.getElem_cons_zero, List.getElem_cons_succ, List.setIfInBounds_toArray, List.set_cons_zero, List.set_cons_succ]
          refine wpAnyH_ready (rs := [12]) (by kernel_rfl) (by simp) ?_
          refine AllReadyH.cons rfl (fun K1 hK => ?_) AllReadyH.nil
          rw [if_pos (by rfl)]
          go_simp
          refine hK.out _ _ ⟨HD9.out.1.eq (setRow_other _ _ _ _ (by have := HQ8.out; omega)), setRow_below HL9.out.1 HL9.out.2 _⟩ (fun _ => ?_)
          clear hK K1
          try simp only [Act.put, List.getElem_toArray, List.getElem_cons_zero, List.getElem_cons_succ, List.setIfInBounds_toArray, List.set_cons_zero, List.set_cons_succ]
          refine wpAnyH_done (by kernel_rfl) ?_ _
          have HK9 := Lib.hid (show Blk (w9.setRow ra #[.slice (some ⟨d5.gx, 0, none⟩) M5.c.length d5.cx, .slice (some ⟨d5.gu, 0, none⟩) M5.c.length d5.cu, .slice (some ⟨d5.gt, 0, none⟩) M5.c.length d5.ct, .int .i64 (M5.h : Nat)]) ra 29 #[.slice (some ⟨d5.gx, 0, none⟩) M5.c.length d5.cx, .slice (some ⟨d5.gu, 0, none⟩) M5.c.length d5.cu, .slice (some ⟨d5.gt, 0, none⟩) M5.c.length d5.ct, .int .i64 (M5.h : Nat)] from setRow_heap _ _ _ _ _ _ HX9.out)
          have hr9 : Blk (w9.setRow ra #[.slice (some ⟨d5.gx, 0, none⟩) M5.c.length d5.cx, .slice (some ⟨d5.gu, 0, none⟩) M5.c.length d5.cu, .slice (some ⟨d5.gt, 0, none⟩) M5.c.length d5.ct, .int .i64 (M5.h : Nat)]) r 29 #[.slice (some ⟨d'.gx, 0, none⟩) M.c.length d'.cx, .slice (some ⟨d'.gu, 0, none⟩) M.c.length d'.cu, .slice (some ⟨d'.gt, 0, none⟩) M.c.length d'.ct, .int .i64 (M.h : Nat)] := HD9.out.1.eq (setRow_other _ _ _ _ (by have := HQ8.out; omega))
          have HR9 := Lib.hid hr9
          have HF9 := Lib.hid (show Rn w ((w9.setRow ra #[.slice (some ⟨d5.gx, 0, none⟩) M5.c.length d5.cx, .slice (some ⟨d5.gu, 0, none⟩) M5.c.length d5.cu, .slice (some ⟨d5.gt, 0, none⟩) M5.c.length d5.ct, .int .i64 (M5.h : Nat)]).setRow r #[.slice (some ⟨d5.gx, 0, none⟩) M5.c.length d5.cx, .slice (some ⟨d5.gu, 0, none⟩) M5.c.length d5.cu, .slice (some ⟨d5.gt, 0, none⟩) M5.c.length d5.ct, .int .i64 (M5.h : Nat)]) h K (doS (runS 4 (l.take j)) D) B r d5 M5 from ⟨HB9.out.set hr9 (noS_box _ _ _ _ _ _ _ _) HR8.out.hr _, setRow_heap _ _ _ _ _ _ hr9, HR8.out.hr, HR8.out.rb, setRow_below (setRow_below HL9.out.1 HL9.out.2 _) HR8.out.rb _, HR8.out.kx⟩)
          clear hr9
          go_wp2_with (first | (refine wpList_load_row rfl 29 _ rfl (ra) rfl 29 _ _ _ HK9.out Try.underlying29 rfl infoD ?_) | (refine wpList_store_row rfl 29 _ _ rfl (r) _ rfl rfl 29 _ HR9.out infoD rfl (all4 _ _ _ _ _ _ _ _) ?_))
          go_roundw
          case rel =>
            refine ⟨j + 1, d5, M5, hlt, by omega, by go_num, ?_⟩
            rw [HTK.out]
            exact HF9.out
          case measure => simp [intOf]; omega

      · obtain rfl : j = 200 := by omega
        have d2 : decide (((200 : Nat) : Int) < 200) = false := by simp
        have HF := Lib.hid hR
        clear hR
        go_wp2_with fail
        go_ret
        exact ⟨h, K, rfl, HF.out.bo.sh, HF.out.lo, HF.out.kx⟩
    · obtain rfl : j = l.length := by omega
      have d1 : decide ((l.length : Int) < (l.length : Nat)) = false := by simp
      have HF := Lib.hid hR
      have HT := Lib.hid (show l.take 200 = l.take l.length by rw [List.take_length, List.take_of_length_le hj2])
      clear hR
      go_wp2_with fail
      go_ret
      exact ⟨h, K, rfl, by rw [HT.out]; exact HF.out.bo.sh, HF.out.lo, HF.out.kx⟩
end Go.Proofs.Ytjjanogfcfapcaa.D
