/- The walk of derricklaw06.MessageFits: what was cut fits, has all questions, and a begin of its records, and says so, if something is missing; what fits isn't cut. -/
import Derived.Test.YtnakljbginbenaaDoorMmr
import Derived.Test.YtnakljbginbenaaDoorMmp
import Derived.Test.YtnakljbginbenaaDoorLmv
namespace Go.Proofs.YtnakljbginbenaaDoor
open Go.RowKit
set_option linter.unusedVariables false

set_option maxRecDepth 100000 in
set_option maxHeartbeats 4000000 in
theorem fits_walk6 (m : Ms) (d : Ad) (k : Nat) (hok : m.Ok) (hk : k < 65536) (w : World) (hI : Mg w m d) (hL : Lay w) :
    Calls Tryd.prog 5 #[.agg (msV m d), .int .u16 (k : Nat)] w fun e w' => e = .returned (.bool true) ∧ Below w.heap.size w w' := by
  have hbox := World.alloc_heap_new w (Obj.cells (msV m d) 26)
  have hal := (Below.refl w.heap.size w).alloc (Nat.le_refl _) (Obj.cells (msV m d) 26)
  obtain ⟨w1, hw1⟩ : ∃ w1, w1 = w.alloc (Obj.cells (msV m d) 26) := ⟨_, rfl⟩
  rw [← hw1] at hbox hal
  have hblk : ∀ W, Below w1.heap.size w1 W → W.heap[w.heap.size]? = some (.cells (msV m d) 26 (0, 0)) := fun W hW => (hW.block _ (heap_lt hbox)).trans hbox
  have HW := Lib.hid hw1
  have HX := Lib.hid hblk
  have HAl := Lib.hid hal
  have HI := Lib.hid (hI.below hal)
  have HL := Lib.hid (hL.below (lay_lt hL) hal)
  have H0 := Lib.hid (lay_lt (hL.below (lay_lt hL) hal))
  have HOk := Lib.hid hok
  clear hbox hal hw1 hI hL hok hblk
  go_enter Tryd.func5, Tryd.ntmps5
  go_upto_region 1 with (fail)
  rw [← HW.out]
  clear HW
  go_wp2_with fail
  refine (mshown_any _ HL.out).mono ?_
  rintro e w2 ⟨rfl, hb2⟩
  have HB2 := Lib.hid hb2
  have HX2 := Lib.hid (HX.out _ hb2)
  clear hb2
  go_wp2_with (refine wpList_load_row rfl 26 _ rfl w.heap.size rfl 26 _ _ _ HX2.out Tryd.underlying26 rfl (infoM' m d) ?_)
  refine (fewm_any m d _ (HI.out.below HB2.out)).mono ?_
  rintro e w3 ⟨rfl, hb3⟩
  have HB3 := Lib.hid (HB2.out.trans (hb3.mono HB2.out.size))
  have HX3 := Lib.hid (HX.out _ HB3.out)
  clear hb3 HX2 HB2
  cases hf : fewM m with
  | false =>
    clear hf
    go_wp2_with fail
    go_ret
    exact ⟨rfl, HAl.out.trans (HB3.out.mono HAl.out.size)⟩
  | true =>
    have HSm := Lib.hid (fewM_sm hf HOk.out)
    have hy := HX3.out
    have a0 : w3.cell? ⟨w.heap.size, 0, none⟩ = some (.int .u16 (m.id : Nat)) := blk_cell (hy) 0
    have a1 : w3.cell? ⟨w.heap.size, 1, none⟩ = some (.bool m.qr) := blk_cell (hy) 1
    have a2 : w3.cell? ⟨w.heap.size, 2, none⟩ = some (.bool m.aa) := blk_cell (hy) 2
    have a3 : w3.cell? ⟨w.heap.size, 3, none⟩ = some (.bool m.tc) := blk_cell (hy) 3
    have a4 : w3.cell? ⟨w.heap.size, 4, none⟩ = some (.bool m.rd) := blk_cell (hy) 4
    have a5 : w3.cell? ⟨w.heap.size, 5, none⟩ = some (.bool m.ra) := blk_cell (hy) 5
    have a6 : w3.cell? ⟨w.heap.size, 6, none⟩ = some (.int .i64 m.op) := blk_cell (hy) 6
    have a7 : w3.cell? ⟨w.heap.size, 7, none⟩ = some (.int .i64 m.rc) := blk_cell (hy) 7
    have a8 : w3.cell? ⟨w.heap.size, 8, none⟩ = some (.slice d.aq m.q.length d.cq) := blk_cell (hy) 8
    have a9 : w3.cell? ⟨w.heap.size, 9, none⟩ = some (.slice d.a1 m.an.length d.c1) := blk_cell (hy) 9
    have a10 : w3.cell? ⟨w.heap.size, 10, none⟩ = some (.slice d.a2 m.ns.length d.c2) := blk_cell (hy) 10
    have a11 : w3.cell? ⟨w.heap.size, 11, none⟩ = some (.slice d.a3 m.ar.length d.c3) := blk_cell (hy) 11
    clear hf hy
    go_wp2_with fail
    refine (maym_any m d HSm.out _ (HI.out.below HB3.out) (HL.out.below H0.out HB3.out)).mono ?_
    rintro e w4 ⟨rfl, hb4⟩
    have HB4 := Lib.hid (HB3.out.trans (hb4.mono HB3.out.size))
    have HX4 := Lib.hid (HX.out _ HB4.out)
    clear hb4 HX3 HB3 a0 a1 a2 a3 a4 a5 a6 a7 a8 a9 a10 a11
    cases hmm : mayM m with
    | false =>
      clear hmm
      go_wp2_with fail
      go_ret
      exact ⟨rfl, HAl.out.trans (HB4.out.mono HAl.out.size)⟩
    | true =>
      have HM := Lib.hid (mayM_iff.1 hmm)
      have HMm := Lib.hid hmm
      clear hmm
      go_wp2_with (refine wpList_load_row rfl 26 _ rfl w.heap.size rfl 26 _ _ _ HX4.out Tryd.underlying26 rfl (infoM' m d) ?_)
      refine (putm_any m d HOk.out HSm.out _ (HI.out.below HB4.out) (HL.out.below H0.out HB4.out)).mono ?_
      rintro e w5 ⟨rfl, hb5⟩
      have HB5 := Lib.hid (HB4.out.trans (hb5.mono HB4.out.size))
      have HX5 := Lib.hid (HX.out _ HB5.out)
      clear hb5 HX4 HB4
      have hwk : IntKind.i64.wrap (k : Int) = k := IntWalk.i64_in _ (by omega)
      go_wp2_with (refine wpList_load_row rfl 26 _ rfl w.heap.size rfl 26 _ _ _ HX5.out Tryd.underlying26 rfl (infoM' m d) ?_)
      refine (cut_any m d k HOk.out HSm.out _ (HI.out.below HB5.out) (HL.out.below H0.out HB5.out)).mono ?_
      rintro e w6 ⟨N, E, d6, rfl, hcut, hg6, hb6⟩
      have hB6 := HB5.out.trans (hb6.mono HB5.out.size)
      obtain ⟨hA, hC⟩ := fits_law HM.out (show k ≤ 65535 by omega) hcut
      have HZ6 := Lib.hid (bx_zero w6)
      obtain ⟨w7, hw7⟩ : ∃ y, y = bxM w6 N d6 := ⟨_, rfl⟩
      have hv := bx_below w6 N d6
      have hx := bx_at w6 N d6
      rw [← hw7] at hv hx
      have HG7 := Lib.hid (hg6.below hv)
      have hB7 := hB6.trans (hv.mono hB6.size)
      have HB7 := Lib.hid hB7
      have HY7 := Lib.hid hx
      have HX7 := Lib.hid (HX.out _ hB7)
      have HW7 := Lib.hid (show w7 = (w6.alloc (Obj.cells (msV zMs zAd) 26)).setRow w6.heap.size (msV N d6) from hw7)
      have HA := Lib.hid hA
      have HC := Lib.hid hC
      clear hg6 hb6 hB6 hB7 hw7 hv hx hcut hA hC HX5 HB5
      go_upto_region 6 with (refine wpList_store_row rfl 26 _ _ rfl w6.heap.size (msV N d6) rfl rfl 26 (msV zMs zAd) HZ6.out infoM rfl (msV_all _ _) ?_; rw [show Obj.cells #[Value.int IntKind.u16 0, .bool false, .bool false, .bool false, .bool false, .bool false, .int .i64 0, .int .i64 0, .slice none 0 0, .slice none 0 0, .slice none 0 0, .slice none 0 0] 26 = Obj.cells (msV zMs zAd) 26 from rfl, ← HW7.out])
      clear HW7 HZ6
      by_cases hle : (encM m).1.length ≤ k
      · obtain ⟨hE, hN⟩ := HA.out hle
        have hN' := hN.symm
        subst hE
        subst hN'
        clear hN
        obtain ⟨p1, p2⟩ := pm_yes HMm.out (show (encM m).1.length ≤ 65535 by omega)
        rw [p1, p2]
        have hsz : (⟨(encM m).1.toArray⟩ : ByteArray).size ≤ k := by rw [mk_size]; exact hle
        have hx := HX7.out
        have hy := HY7.out
        have a0 : w7.cell? ⟨w.heap.size, 0, none⟩ = some (.int .u16 (m.id : Nat)) := blk_cell (hx) 0
        have a1 : w7.cell? ⟨w.heap.size, 1, none⟩ = some (.bool m.qr) := blk_cell (hx) 1
        have a2 : w7.cell? ⟨w.heap.size, 2, none⟩ = some (.bool m.aa) := blk_cell (hx) 2
        have a3 : w7.cell? ⟨w.heap.size, 3, none⟩ = some (.bool m.tc) := blk_cell (hx) 3
        have a4 : w7.cell? ⟨w.heap.size, 4, none⟩ = some (.bool m.rd) := blk_cell (hx) 4
        have a5 : w7.cell? ⟨w.heap.size, 5, none⟩ = some (.bool m.ra) := blk_cell (hx) 5
        have a6 : w7.cell? ⟨w.heap.size, 6, none⟩ = some (.int .i64 m.op) := blk_cell (hx) 6
        have a7 : w7.cell? ⟨w.heap.size, 7, none⟩ = some (.int .i64 m.rc) := blk_cell (hx) 7
        have a8 : w7.cell? ⟨w.heap.size, 8, none⟩ = some (.slice d.aq m.q.length d.cq) := blk_cell (hx) 8
        have a9 : w7.cell? ⟨w.heap.size, 9, none⟩ = some (.slice d.a1 m.an.length d.c1) := blk_cell (hx) 9
        have a10 : w7.cell? ⟨w.heap.size, 10, none⟩ = some (.slice d.a2 m.ns.length d.c2) := blk_cell (hx) 10
        have a11 : w7.cell? ⟨w.heap.size, 11, none⟩ = some (.slice d.a3 m.ar.length d.c3) := blk_cell (hx) 11
        have b0 : w7.cell? ⟨w6.heap.size, 0, none⟩ = some (.int .u16 (m.id : Nat)) := blk_cell (hy) 0
        have b1 : w7.cell? ⟨w6.heap.size, 1, none⟩ = some (.bool m.qr) := blk_cell (hy) 1
        have b2 : w7.cell? ⟨w6.heap.size, 2, none⟩ = some (.bool m.aa) := blk_cell (hy) 2
        have b3 : w7.cell? ⟨w6.heap.size, 3, none⟩ = some (.bool m.tc) := blk_cell (hy) 3
        have b4 : w7.cell? ⟨w6.heap.size, 4, none⟩ = some (.bool m.rd) := blk_cell (hy) 4
        have b5 : w7.cell? ⟨w6.heap.size, 5, none⟩ = some (.bool m.ra) := blk_cell (hy) 5
        have b6 : w7.cell? ⟨w6.heap.size, 6, none⟩ = some (.int .i64 m.op) := blk_cell (hy) 6
        have b7 : w7.cell? ⟨w6.heap.size, 7, none⟩ = some (.int .i64 m.rc) := blk_cell (hy) 7
        have b8 : w7.cell? ⟨w6.heap.size, 8, none⟩ = some (.slice d6.aq m.q.length d6.cq) := blk_cell (hy) 8
        have b9 : w7.cell? ⟨w6.heap.size, 9, none⟩ = some (.slice d6.a1 m.an.length d6.c1) := blk_cell (hy) 9
        have b10 : w7.cell? ⟨w6.heap.size, 10, none⟩ = some (.slice d6.a2 m.ns.length d6.c2) := blk_cell (hy) 10
        have b11 : w7.cell? ⟨w6.heap.size, 11, none⟩ = some (.slice d6.a3 m.ar.length d6.c3) := blk_cell (hy) 11
        clear p1 p2 hle HA HC hx hy
        generalize (⟨(encM m).1.toArray⟩ : ByteArray) = S at *
        have dle : decide ((S.size : Int) ≤ (k : Int)) = true := by simp; omega
        go_wp2_with fail
        refine (samem_yes m d6 d HSm.out.big.1 HSm.out.big.2.1 HSm.out.big.2.2.1 HSm.out.big.2.2.2 _ HG7.out (HI.out.below HB7.out)).mono ?_
        rintro e w8 ⟨rfl, hb8⟩
        have HB8 := Lib.hid (HB7.out.trans (hb8.mono HB7.out.size))
        clear hb8
        go_wp2_with fail
        go_ret
        exact ⟨rfl, HAl.out.trans (HB8.out.mono HAl.out.size)⟩
      have hcond : (pmE m = 0 ∧ decide (((pmS m).size : Int) ≤ (k : Int)) = false ∧ decide ((pmS m).size ≤ k) = false) ∨ pmE m = 3 := by
        by_cases h6 : (encM m).1.length ≤ 65535
        · obtain ⟨p1, p2⟩ := pm_yes HMm.out h6
          refine .inl ⟨p1, ?_, ?_⟩
          all_goals
            rw [p2, mk_size]
            simp
            omega
        · exact .inr (pm_long HMm.out (by omega)).1
      have HCo := Lib.hid hcond
      have HC2 := Lib.hid (HC.out (by omega))
      clear hcond hle HA HC
      rcases HC2.out with ⟨hE, _⟩ | ⟨hE, j, hj, hN, hNl⟩
      · subst hE
        rcases HCo.out with ⟨h1, h2, h3⟩ | h1
        all_goals
          rw [h1]
          generalize pmS m = S0 at *
          clear HC2 HCo h1
          go_wp2_with fail
          go_ret
          exact ⟨rfl, HAl.out.trans (HB7.out.mono HAl.out.size)⟩
      subst hE
      have HNm := Lib.hid (show MayM N by rw [hN]; exact lessM_may HM.out j true)
      have HNOk := Lib.hid (show N.Ok by rw [hN]; exact lessM_ok HOk.out j true)
      have HNSm := Lib.hid (show SmM N by rw [hN]; exact less_sm HSm.out j true)
      have HNp := Lib.hid (show N.recs <+: m.recs ∧ N.an <+: m.an by rw [hN]; exact less_pre m j true)
      have htc : N.tc = true := by rw [hN]; rfl
      have hql : N.q.length = m.q.length := by rw [hN]; rfl
      have hrl : N.recs.length < m.recs.length := by rw [hN, lessM_recs, List.length_take]; omega
      obtain ⟨p1, p2⟩ := pm_yes (mayM_iff.2 HNm.out) (show (encM N).1.length ≤ 65535 by omega)
      have hsz : (⟨(encM N).1.toArray⟩ : ByteArray).size ≤ k := by rw [mk_size]; exact hNl
      have HPt := Lib.hid (fun w' hI' hL' => putm_any N d6 HNOk.out HNSm.out w' hI' hL')
      rw [p1, p2] at HPt
      generalize (⟨(encM N).1.toArray⟩ : ByteArray) = S at *
      have HTc := Lib.hid htc
      have HQl := Lib.hid hql
      have HRl := Lib.hid hrl
      have HSz := Lib.hid hsz
      have HIm1 := Lib.hid (show ([] : List Rc).length + m.an.length ≤ 1000000 by have := HSm.out.an.len; simp; omega)
      have HIm2 := Lib.hid (show m.an.length + m.ns.length ≤ 1000000 by have h1 := HSm.out.an.len; have h2 := HSm.out.ns.len; omega)
      have HIm3 := Lib.hid (show (m.an ++ m.ns).length + m.ar.length ≤ 1000000 by have h1 := HSm.out.an.len; have h2 := HSm.out.ns.len; have h3 := HSm.out.ar.len; rw [List.length_append]; omega)
      have HIn1 := Lib.hid (show ([] : List Rc).length + N.an.length ≤ 1000000 by have := HNSm.out.an.len; simp; omega)
      have HIn2 := Lib.hid (show N.an.length + N.ns.length ≤ 1000000 by have h1 := HNSm.out.an.len; have h2 := HNSm.out.ns.len; omega)
      have HIn3 := Lib.hid (show (N.an ++ N.ns).length + N.ar.length ≤ 1000000 by have h1 := HNSm.out.an.len; have h2 := HNSm.out.ns.len; have h3 := HNSm.out.ar.len; rw [List.length_append]; omega)
      have HMb := Lib.hid (show m.recs.length ≤ 9223372036854775807 ∧ m.an.length ≤ 9223372036854775807 by have h1 := HSm.out.recs.1; have h2 := HSm.out.an.len; omega)
      rcases HCo.out with ⟨h1, h2, h3⟩ | h1
      all_goals
        rw [h1]
        generalize pmS m = S0 at *
        clear HC2 HCo h1 hj hN hNl p1 p2 htc hql hrl hsz
        go_wp2_with (refine wpList_load_row rfl 26 _ rfl w6.heap.size rfl 26 _ _ _ HY7.out Tryd.underlying26 rfl (infoM' N d6) ?_)
        refine (HPt.out _ HG7.out (HL.out.below H0.out HB7.out)).mono ?_
        rintro e w8 ⟨rfl, hb8⟩
        have HB8 := Lib.hid (HB7.out.trans (hb8.mono HB7.out.size))
        have HXm := Lib.hid (fun W (hW : Below w8.heap.size w8 W) => HX.out W (HB8.out.trans (hW.mono HB8.out.size)))
        have HIm := Lib.hid (fun W (hW : Below w8.heap.size w8 W) => HI.out.below (HB8.out.trans (hW.mono HB8.out.size)))
        have HXn8 := Lib.hid (fun W (hW : Below w8.heap.size w8 W) => ((hb8.trans (hW.mono hb8.size)).block _ (heap_lt HY7.out)).trans HY7.out)
        have HIn8 := Lib.hid (fun W (hW : Below w8.heap.size w8 W) => HG7.out.below (hb8.trans (hW.mono hb8.size)))
        clear hb8 HY7 HX7 HG7 HPt
        go_upto_region 11 with (fail)
        have hs0 : Below w8.heap.size w8 w8.drew := (Below.refl w8.heap.size w8).drew
        have hs1 := hs0.alloc hs0.size (Obj.cells #[] 44)
        have ho1 := World.ownsRow_made (base := w8.heap.size) (e := 44) (size := 5) w8.drew #[] 0 (Nat.le_refl _) (Nat.zero_le _) (by simp)
        have HS0 := Lib.hid hs0
        have HS1 := Lib.hid hs1
        have HO1 := Lib.hid ho1
        clear hs0 hs1 ho1
        refine wp_region_held_drew (S := fun wq => Below w8.heap.size w8 wq) (by kernel_rfl) HS0.out (fun hHeld => ?_)
        refine wpAnyH_take (i := 1) (v := ?_) rfl (by kernel_rfl) (by kernel_rfl) (by kernel_rfl) (fun _ _ _ h => h) (Or.inl ⟨by rfl, ?_⟩) (by assumption) ?_
        rotate_left
        · (intro wq hSw; go_simp; try (with_reducible rfl))
        simp only [Act.put, List.getElem_toArray, List.getElem_cons_zero, List.getElem_cons_succ, List.setIfInBounds_toArray, List.set_cons_zero, List.set_cons_succ]
        refine wpAnyH_take (i := 2) (v := (.slice d.a1 m.an.length d.c1)) rfl (by kernel_rfl) (by kernel_rfl) (by kernel_rfl) (fun _ _ _ h => h) (Or.inl ⟨by rfl, ?_⟩) (by assumption) ?_
        · (intro wq hSw; have e0 : wq.cell? ⟨w.heap.size, 9, none⟩ = some (.slice d.a1 m.an.length d.c1) := blk_cell (HXm.out _ hSw) 9; go_simp)
        simp only [Act.put, List.getElem_toArray, List.getElem_cons_zero, List.getElem_cons_succ, List.setIfInBounds_toArray, List.set_cons_zero, List.set_cons_succ]
        refine wpAnyH_take (i := 4) (v := ?_) rfl (by kernel_rfl) (by kernel_rfl) (by kernel_rfl) (fun _ _ _ h => h) (Or.inl ⟨by rfl, ?_⟩) (by assumption) ?_
        rotate_left
        · (intro wq hSw; go_simp; try (with_reducible rfl))
        simp only [Act.put, List.getElem_toArray, List.getElem_cons_zero, List.getElem_cons_succ, List.setIfInBounds_toArray, List.set_cons_zero, List.set_cons_succ]
        refine wpAnyH_take (i := 5) (v := (.slice d.a2 m.ns.length d.c2)) rfl (by kernel_rfl) (by kernel_rfl) (by kernel_rfl) (fun _ _ _ h => h) (Or.inl ⟨by rfl, ?_⟩) (by assumption) ?_
        · (intro wq hSw; have e0 : wq.cell? ⟨w.heap.size, 10, none⟩ = some (.slice d.a2 m.ns.length d.c2) := blk_cell (HXm.out _ hSw) 10; go_simp)
        simp only [Act.put, List.getElem_toArray, List.getElem_cons_zero, List.getElem_cons_succ, List.setIfInBounds_toArray, List.set_cons_zero, List.set_cons_succ]
        refine wpAnyH_ready (rs := [0]) (by kernel_rfl) (by simp) ?_
        refine AllReadyH.cons rfl (fun K hK => ?_) AllReadyH.nil
        go_simp
        refine hK.out _ _ HS1.out (fun hHeld => ?_)
        clear hK K
        refine wpAnyH_ready (rs := [3]) (by kernel_rfl) (by simp) ?_
        refine AllReadyH.cons rfl (fun K hK => ?_) AllReadyH.nil
        refine wp_append_sl (.tmp 67) (.tmp 69) rfl w8.heap.size _ [] rfl HO1.out d.a1 d.c1 m.an (HIm.out _ HS1.out).an rfl ?q1 HS1.out.size ?_
        case q1 => exact HIm1.out
        intro vxa wxa hoa hga
        have hoa' : wxa.ownsRow w8.heap.size 44 5 vxa m.an.length (m.an.flatMap rf) := by simpa using hoa
        obtain ⟨Axa, pxa, hva⟩ := ownR_form hoa'
        subst hva
        have HSa := Lib.hid (HS1.out.grown hga HS1.out.size (fun k hk => (HO1.out.lt k hk).1))
        have HOa := Lib.hid hoa'
        clear hoa hoa' hga HO1 HS1 HS0
        refine hK.out _ _ HSa.out (fun hHeld => ?_)
        clear hK K
        refine wpAnyH_ready (rs := [6]) (by kernel_rfl) (by simp) ?_
        refine AllReadyH.cons rfl (fun K hK => ?_) AllReadyH.nil
        refine wp_append_sl (.tmp 70) (.tmp 72) rfl w8.heap.size _ m.an rfl HOa.out d.a2 d.c2 m.ns (HIm.out _ HSa.out).ns rfl ?q1 HSa.out.size ?_
        case q1 => exact HIm2.out
        intro vxb wxb hob hgb
        obtain ⟨Axb, pxb, hvb⟩ := ownR_form hob
        rw [List.length_append] at hvb
        subst hvb
        have HSb := Lib.hid (HSa.out.grown hgb HSa.out.size (fun k hk => (HOa.out.lt k hk).1))
        have HOb := Lib.hid hob
        clear hob hgb HOa HSa
        refine hK.out _ _ HSb.out (fun hHeld => ?_)
        clear hK K
        refine wpAnyH_take (i := 7) (v := ?_) rfl (by kernel_rfl) (by kernel_rfl) (by kernel_rfl) (fun _ _ _ h => h) (Or.inl ⟨by rfl, ?_⟩) (by assumption) ?_
        rotate_left
        · (intro wq hSw; go_simp; try (with_reducible rfl))
        simp only [Act.put, List.getElem_toArray, List.getElem_cons_zero, List.getElem_cons_succ, List.setIfInBounds_toArray, List.set_cons_zero, List.set_cons_succ]
        refine wpAnyH_done (by kernel_rfl) ?_ _
        clear hHeld
        have k11 : wxb.cell? ⟨w.heap.size, 11, none⟩ = some (.slice d.a3 m.ar.length d.c3) := blk_cell (HXm.out _ HSb.out) 11
        have HSr := Lib.hid (HIm.out _ HSb.out).ar
        go_wp2_with (at_builtin; refine wpList_append_sl rfl _ _ rfl w8.heap.size _ (m.an ++ m.ns) rfl HOb.out d.a3 d.c3 m.ar HSr.out rfl ?q1 HSb.out.size ?_)
        case q1 => exact HIm3.out
        intro vxc wxc hoc hgc
        have hoc' : wxc.ownsRow w8.heap.size 44 5 vxc m.recs.length (m.recs.flatMap rf) := by unfold Ms.recs; simpa [Nat.add_assoc] using hoc
        obtain ⟨Axc, pxc, hvc, hSc⟩ := Sl.own rf_len hoc'
        subst hvc
        have HScx := Lib.hid (HSb.out.grown hgc HSb.out.size (fun k hk => (HOb.out.lt k hk).1))
        have HOcx := Lib.hid hSc
        clear hoc hoc' hgc hSc k11 HSr HOb HSb
        have HXn := Lib.hid (fun W (hW : Below wxc.heap.size wxc W) => HXn8.out W (HScx.out.trans (hW.mono HScx.out.size)))
        have HIn := Lib.hid (fun W (hW : Below wxc.heap.size wxc W) => HIn8.out W (HScx.out.trans (hW.mono HScx.out.size)))
        go_upto_region 13 with (fail)
        have hs0 : Below wxc.heap.size wxc wxc.drew := (Below.refl wxc.heap.size wxc).drew
        have hs1 := hs0.alloc hs0.size (Obj.cells #[] 44)
        have ho1 := World.ownsRow_made (base := wxc.heap.size) (e := 44) (size := 5) wxc.drew #[] 0 (Nat.le_refl _) (Nat.zero_le _) (by simp)
        have HS0 := Lib.hid hs0
        have HS1 := Lib.hid hs1
        have HO1 := Lib.hid ho1
        clear hs0 hs1 ho1
        refine wp_region_held_drew (S := fun wq => Below wxc.heap.size wxc wq) (by kernel_rfl) HS0.out (fun hHeld => ?_)
        refine wpAnyH_take (i := 1) (v := ?_) rfl (by kernel_rfl) (by kernel_rfl) (by kernel_rfl) (fun _ _ _ h => h) (Or.inl ⟨by rfl, ?_⟩) (by assumption) ?_
        rotate_left
        · (intro wq hSw; go_simp; try (with_reducible rfl))
        simp only [Act.put, List.getElem_toArray, List.getElem_cons_zero, List.getElem_cons_succ, List.setIfInBounds_toArray, List.set_cons_zero, List.set_cons_succ]
        refine wpAnyH_take (i := 2) (v := (.slice d6.a1 N.an.length d6.c1)) rfl (by kernel_rfl) (by kernel_rfl) (by kernel_rfl) (fun _ _ _ h => h) (Or.inl ⟨by rfl, ?_⟩) (by assumption) ?_
        · (intro wq hSw; have e0 : wq.cell? ⟨w6.heap.size, 9, none⟩ = some (.slice d6.a1 N.an.length d6.c1) := blk_cell (HXn.out _ hSw) 9; go_simp)
        simp only [Act.put, List.getElem_toArray, List.getElem_cons_zero, List.getElem_cons_succ, List.setIfInBounds_toArray, List.set_cons_zero, List.set_cons_succ]
        refine wpAnyH_take (i := 4) (v := ?_) rfl (by kernel_rfl) (by kernel_rfl) (by kernel_rfl) (fun _ _ _ h => h) (Or.inl ⟨by rfl, ?_⟩) (by assumption) ?_
        rotate_left
        · (intro wq hSw; go_simp; try (with_reducible rfl))
        simp only [Act.put, List.getElem_toArray, List.getElem_cons_zero, List.getElem_cons_succ, List.setIfInBounds_toArray, List.set_cons_zero, List.set_cons_succ]
        refine wpAnyH_take (i := 5) (v := (.slice d6.a2 N.ns.length d6.c2)) rfl (by kernel_rfl) (by kernel_rfl) (by kernel_rfl) (fun _ _ _ h => h) (Or.inl ⟨by rfl, ?_⟩) (by assumption) ?_
        · (intro wq hSw; have e0 : wq.cell? ⟨w6.heap.size, 10, none⟩ = some (.slice d6.a2 N.ns.length d6.c2) := blk_cell (HXn.out _ hSw) 10; go_simp)
        simp only [Act.put, List.getElem_toArray, List.getElem_cons_zero, List.getElem_cons_succ, List.setIfInBounds_toArray, List.set_cons_zero, List.set_cons_succ]
        refine wpAnyH_ready (rs := [0]) (by kernel_rfl) (by simp) ?_
        refine AllReadyH.cons rfl (fun K hK => ?_) AllReadyH.nil
        go_simp
        refine hK.out _ _ HS1.out (fun hHeld => ?_)
        clear hK K
        refine wpAnyH_ready (rs := [3]) (by kernel_rfl) (by simp) ?_
        refine AllReadyH.cons rfl (fun K hK => ?_) AllReadyH.nil
        refine wp_append_sl (.tmp 78) (.tmp 80) rfl wxc.heap.size _ [] rfl HO1.out d6.a1 d6.c1 N.an (HIn.out _ HS1.out).an rfl ?q1 HS1.out.size ?_
        case q1 => exact HIn1.out
        intro vya wya hoa hga
        have hoa' : wya.ownsRow wxc.heap.size 44 5 vya N.an.length (N.an.flatMap rf) := by simpa using hoa
        obtain ⟨Aya, pya, hva⟩ := ownR_form hoa'
        subst hva
        have HSa := Lib.hid (HS1.out.grown hga HS1.out.size (fun k hk => (HO1.out.lt k hk).1))
        have HOa := Lib.hid hoa'
        clear hoa hoa' hga HO1 HS1 HS0
        refine hK.out _ _ HSa.out (fun hHeld => ?_)
        clear hK K
        refine wpAnyH_ready (rs := [6]) (by kernel_rfl) (by simp) ?_
        refine AllReadyH.cons rfl (fun K hK => ?_) AllReadyH.nil
        refine wp_append_sl (.tmp 81) (.tmp 83) rfl wxc.heap.size _ N.an rfl HOa.out d6.a2 d6.c2 N.ns (HIn.out _ HSa.out).ns rfl ?q1 HSa.out.size ?_
        case q1 => exact HIn2.out
        intro vyb wyb hob hgb
        obtain ⟨Ayb, pyb, hvb⟩ := ownR_form hob
        rw [List.length_append] at hvb
        subst hvb
        have HSb := Lib.hid (HSa.out.grown hgb HSa.out.size (fun k hk => (HOa.out.lt k hk).1))
        have HOb := Lib.hid hob
        clear hob hgb HOa HSa
        refine hK.out _ _ HSb.out (fun hHeld => ?_)
        clear hK K
        refine wpAnyH_take (i := 7) (v := ?_) rfl (by kernel_rfl) (by kernel_rfl) (by kernel_rfl) (fun _ _ _ h => h) (Or.inl ⟨by rfl, ?_⟩) (by assumption) ?_
        rotate_left
        · (intro wq hSw; go_simp; try (with_reducible rfl))
        simp only [Act.put, List.getElem_toArray, List.getElem_cons_zero, List.getElem_cons_succ, List.setIfInBounds_toArray, List.set_cons_zero, List.set_cons_succ]
        refine wpAnyH_done (by kernel_rfl) ?_ _
        clear hHeld
        have k11 : wyb.cell? ⟨w6.heap.size, 11, none⟩ = some (.slice d6.a3 N.ar.length d6.c3) := blk_cell (HXn.out _ HSb.out) 11
        have HSr := Lib.hid (HIn.out _ HSb.out).ar
        go_wp2_with (at_builtin; refine wpList_append_sl rfl _ _ rfl wxc.heap.size _ (N.an ++ N.ns) rfl HOb.out d6.a3 d6.c3 N.ar HSr.out rfl ?q1 HSb.out.size ?_)
        case q1 => exact HIn3.out
        intro vyc wyc hoc hgc
        have hoc' : wyc.ownsRow wxc.heap.size 44 5 vyc N.recs.length (N.recs.flatMap rf) := by unfold Ms.recs; simpa [Nat.add_assoc] using hoc
        obtain ⟨Ayc, pyc, hvc, hSc⟩ := Sl.own rf_len hoc'
        subst hvc
        have HScy := Lib.hid (HSb.out.grown hgc HSb.out.size (fun k hk => (HOb.out.lt k hk).1))
        have HOcy := Lib.hid hSc
        clear hoc hoc' hgc hSc k11 HSr HOb HSb
        have HZa := Lib.hid (HScx.out.trans (HScy.out.mono HScx.out.size))
        have hx := HXm.out _ HZa.out
        have hy := HXn8.out _ HZa.out
        have htc := HTc.out
        have hql := HQl.out
        have e3 : wyc.cell? ⟨w6.heap.size, 3, none⟩ = some (.bool true) := by rw [← htc]; exact blk_cell hy 3
        have e8 : wyc.cell? ⟨w6.heap.size, 8, none⟩ = some (.slice d6.aq m.q.length d6.cq) := by rw [← hql]; exact blk_cell hy 8
        have f8 : wyc.cell? ⟨w.heap.size, 8, none⟩ = some (.slice d.aq m.q.length d.cq) := blk_cell hx 8
        have hsz := HSz.out
        have g1 : decide ((S.size : Int) ≤ (k : Int)) = true := by simp; omega
        have g2 : decide (S.size ≤ k) = true := by simp; omega
        have HOa := Lib.hid (HOcx.out.below' HScy.out)
        clear hx hy htc hql hsz
        go_wp2_with fail
        refine (begins_yes _ _ _ _ m.recs N.recs HNp.out.1 HMb.out.1 _ HOa.out HOcy.out).mono ?_
        rintro e wz ⟨rfl, hbz⟩
        have HZb := Lib.hid (HZa.out.trans (hbz.mono HZa.out.size))
        have hx := HXm.out _ HZb.out
        have hy := HXn8.out _ HZb.out
        have f9 : wz.cell? ⟨w.heap.size, 9, none⟩ = some (.slice d.a1 m.an.length d.c1) := blk_cell hx 9
        have e9 : wz.cell? ⟨w6.heap.size, 9, none⟩ = some (.slice d6.a1 N.an.length d6.c1) := blk_cell hy 9
        have hrl := HRl.out
        have g3 : decide ((N.recs.length : Int) < (m.recs.length : Int)) = true := by simp; omega
        have g4 : decide (N.recs.length < m.recs.length) = true := by simp; omega
        clear hx hy hbz e3 e8 f8 hrl
        go_wp2_with fail
        refine (begins_yes _ _ _ _ m.an N.an HNp.out.2 HMb.out.2 _ (HIm.out _ HZb.out).an (HIn8.out _ HZb.out).an).mono ?_
        rintro e wf ⟨rfl, hbf⟩
        have HZc := Lib.hid (HB8.out.trans ((HZb.out.trans (hbf.mono HZb.out.size)).mono HB8.out.size))
        clear hbf e9 f9
        go_wp2_with fail
        go_ret
        exact ⟨rfl, HAl.out.trans (HZc.out.mono HAl.out.size)⟩
end Go.Proofs.YtnakljbginbenaaDoor
