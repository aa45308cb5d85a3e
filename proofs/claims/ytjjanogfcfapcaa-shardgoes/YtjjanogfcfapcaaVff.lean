/- derricklaw12.ShardGoes: the deed of kind 1 (written by tools/gen_vfd.py). -/
import Derived.Test.YtjjanogfcfapcaaVfd
namespace Go.Proofs.Ytjjanogfcfapcaa.D
open Go.RowKit
set_option linter.unusedVariables false
set_option linter.unusedSimpArgs false

set_option maxRecDepth 100000 in
set_option maxHeartbeats 8000000 in
theorem goes_k1 (A : Option Addr) (cap : Nat) (l : List Dd) (D : Dd) (q : Qu) (hk : D.k = 1) (w : World) (hL : Sl df w A cap l) (hA : ∀ D ∈ l, ArgD w D) (hD : ArgD w D) (hq : q.Fine) : Calls Try.prog 6 #[.slice A l.length cap, .agg (df D).toArray, .agg #[.string q.n, .int .u16 (q.k : Nat), .int .u16 (q.c : Nat)]] w fun e w' => e = .returned (.bool true) ∧ Below w.heap.size w w' := by
  have h2 := two_dq w (df D).toArray (qf q).toArray
  obtain ⟨T3, hT3⟩ : ∃ T3 : World, (w.alloc (Obj.cells (df D).toArray 41)).alloc (Obj.cells #[.string q.n, .int .u16 (q.k : Nat), .int .u16 (q.c : Nat)] 35) = T3 := ⟨_, rfl⟩
  rw [show (qf q).toArray = #[.string q.n, .int .u16 (q.k : Nat), .int .u16 (q.c : Nat)] from rfl, hT3] at h2
  have H2 := Lib.hid h2
  have HSH := Lib.hid (fun W => shown_any W)
  have HR := Lib.hid (fun W (hW : Below w.heap.size w W) => ran_any A cap l W (hL.below' hW) (fun D hD => argd_low (hA D hD) hW))
  have HXX := Lib.hid hD
  clear hL hA hD h2
  go_enter Try.func6, Try.ntmps6
  go_upto_region 1 with (fail)
  try rw [hT3]
  clear hT3
  generalize T3 = w1 at *
  go_upto_region 3 with (first | (go_at_call 9; with_reducible (refine (HSH.out _).mono ?_); rintro e w2 ⟨rfl, hb2⟩; have HB2 := Lib.hid hb2; clear hb2) | (go_at_call 18; with_reducible (refine (HR.out _ (H2.out.2.2.trans (HB2.out.mono H2.out.2.2.size))).mono ?_); rintro e w3 ⟨h, K, rfl, hs3, hb3, hk3⟩; have HW := Lib.hid (HB2.out.trans (hb3.mono HB2.out.size)); have HS2 := Lib.hid (And.intro hs3 (And.intro ((H2.out.2.2.trans (HB2.out.mono H2.out.2.2.size)).trans (hb3.mono (Nat.le_trans H2.out.2.2.size HB2.out.size))) (And.intro (fun i hi => Nat.le_trans (Nat.le_trans H2.out.2.2.size HB2.out.size) (hk3 i hi)) (fun i hi => Nat.lt_of_lt_of_le (Nat.lt_of_lt_of_le H2.out.2.1.lt HB2.out.size) (hk3 i hi))))); clear hs3 hb3 hk3))
  have HN := Lib.hid (Ng.mk (q := q) HS2.out.1 (H2.out.1.eq (HW.out.block _ H2.out.1.lt)) (H2.out.2.1.eq (HW.out.block _ H2.out.2.1.lt)) (arg_re HXX.out.x HS2.out.2.1 HS2.out.2.2.1) HS2.out.2.1 HS2.out.2.2.2 (Nat.le_refl _))
  clear HR HSH HW H2 HXX HS2
  generalize runS 4 (l.take 200) = S at *
  have HLK := Lib.hid (look_0 HN.out.sh q hq)
  have HVL := Lib.hid (look_sm HN.out.sh q 0)
  have HGO := Lib.hid (fun (T : Sd) (G : List Qu) hh => goes_1 (T := T) (G := G) (q := q) HN.out.sh.ok hh)
  have HGE := Lib.hid (fun hg => goes_2 (q := q) (now := D.now) HN.out.sh.ok hg)
  generalize (lookS S q 0).1 = S1 at *
  generalize (lookS S q 0).2 = vb at *
  obtain ⟨v, b⟩ := vb
  simp only at HLK HVL HGE HGO
  obtain ⟨q0, q1, q2⟩ := q_cells HN.out.bq
  go_upto_region 5 with (first | (refine wpList_store_row rfl 39 _ _ rfl (w4.heap.size) (evL ⟨v, A4, c4⟩).toArray rfl rfl 39 _ HB4.out.1 (infoEa _) rfl (evL_one _) ?_) | (go_at_call 22; with_reducible (refine (HLK.out).mono ?_); rintro e w4 ⟨A4, c4, rfl, sl4, nw4, s4, hc4⟩; have HN4 := Lib.hid (HN.out.deed s4 hc4); have HS4 := Lib.hid (And.intro sl4 (nw_up HN.out.sh nw4)); have HB4 := Lib.hid (new_en w4 (evL ⟨v, A4, c4⟩).toArray); clear sl4 nw4 s4 hc4))
  clear q0 q1 q2 HLK HN
  have HO4 := Lib.hid (Nr.mk (HN4.out.low HB4.out.2.2) HB4.out.2.1 (sh_lt HN4.out.sh).1 (HS4.out.1.below' HB4.out.2.2) HS4.out.2)
  clear HS4 HB4 HN4
  generalize (w4.alloc (Obj.cells #[.string ⟨#[]⟩, .int .u16 0, .int .u16 0, .slice none 0 0, .int .i64 0, .int .i64 0, .int .u64 0] 39)).setRow w4.heap.size (evL ⟨v, A4, c4⟩).toArray = w5 at *
  generalize w4.heap.size = r9 at *
  obtain ⟨k0, k1, k2, k3, k8, kr⟩ := d_cells HO4.out.nv.bd
  have HCR := Lib.hid kr
  clear kr
  rw [hk] at k0
  have HP := Lib.hid (look_any HO4.out.nv.sh D.x.e.q HO4.out.nv.rx.q D.now)
  unfold qV evV at HP
  have HL7 := Lib.hid (HGO.out (lookS S1 D.x.e.q D.now).1 [] (by rw [ent_look HO4.out.nv.sh.ok]; simp))
  go_upto_region 15 with (go_at_call 22; with_reducible (refine (HP.out).mono ?_); rintro e w7 ⟨A7, c7, rfl, sl7, nw7, s7, hc7⟩; have HO7 := Lib.hid (HO4.out.deed s7 hc7); have HG7 := Lib.hid (Gs.nil w7 h); clear sl7 nw7 s7 hc7)
  clear k0 k1 k2 k3 k8 HCR
  clear HO4 HP HGO HGE
  generalize (lookS S1 D.x.e.q D.now).1 = T at *
  cases b
  · by_cases hm : q ∈ ([] : List Qu)
    · exact absurd hm (by simp)
    · have hl : (lookS T q 0).2 = (v, false) := by rw [HL7.out, if_neg hm]
      have HLK := Lib.hid (look_0 HO7.out.nv.sh q hq)
      simp only [hl] at HLK
      generalize (lookS T q 0).1 = T2 at *
      obtain ⟨q0, q1, q2⟩ := q_cells HO7.out.nv.bq
      go_upto_region 16 with (first | (refine wpList_store_row rfl 39 _ _ rfl (w8.heap.size) (evL ⟨v, A8, c8⟩).toArray rfl rfl 39 _ HB8.out.1 (infoEa _) rfl (evL_one _) ?_) | (go_at_call 22; with_reducible (refine (HLK.out).mono ?_); rintro e w8 ⟨A8, c8, rfl, sl8, nw8, s8, hc8⟩; have HO8 := Lib.hid (HO7.out.deed s8 hc8); have HG8 := Lib.hid (HG7.out.deed HO7.out.nv.sh hc8); have HS8 := Lib.hid sl8; have HB8 := Lib.hid (new_en w8 (evL ⟨v, A8, c8⟩).toArray); clear sl8 nw8 s8 hc8))
      clear q0 q1 q2 HLK HO7 hl
      have HO9 := Lib.hid (HO8.out.low HB8.out.2.2)
      have HG9 := Lib.hid (HG8.out.low HB8.out.2.2)
      have HS9 := Lib.hid (HS8.out.below' HB8.out.2.2)
      have HB9 := Lib.hid HB8.out.2.1
      clear HO8 HG8 HS8 HB8
      generalize (w8.alloc (Obj.cells #[.string ⟨#[]⟩, .int .u16 0, .int .u16 0, .slice none 0 0, .int .i64 0, .int .i64 0, .int .u64 0] 39)).setRow w8.heap.size (evL ⟨v, A8, c8⟩).toArray = w9 at *
      generalize w8.heap.size = r14 at *
      have HCX := Lib.hid (fun (Wx : World) (hW : Below w9.heap.size w9 Wx) => go_cells (HO9.out.low hW) hk)
      have HHS := Lib.hid (fun (Wx : World) (hW : Below w9.heap.size w9 Wx) => has_q none 0 ([] : List Qu) HG9.out.le q Wx (HG9.out.low hW).sl)
      have hmd : decide (q ∈ ([] : List Qu)) = false := decide_eq_false hm
      simp only [hmd, List.length_nil] at HHS
      clear hmd
      have HBc := Lib.hid (Below.refl w9.heap.size w9)
      have HLO := Lib.hid HO9.out.nv.lo
      obtain ⟨k0, k1, k2, k3, k8, q0, q1, q2, r6⟩ := HCX.out _ HBc.out
      clear HO9 HG9 HS9 HB9
      go_wp2_with (go_at_call 20; with_reducible (refine ((HHS.out _ HBc.out)).mono ?_); rintro e w11 ⟨rfl, hb11⟩; have HB2 := Lib.hid (HBc.out.trans (hb11.mono HBc.out.size)); clear HBc hb11 k0 k1 k2 k3 k8 q0 q1 q2 r6; have HBc := Lib.hid HB2.out; clear HB2; obtain ⟨k0, k1, k2, k3, k8, q0, q1, q2, r6⟩ := HCX.out _ HBc.out)
      go_ret
      exact ⟨rfl, HLO.out.trans (HBc.out.mono HLO.out.size)⟩
  · by_cases hm : q ∈ ([] : List Qu)
    · exact absurd hm (by simp)
    · have hl : (lookS T q 0).2 = (v, true) := by rw [HL7.out, if_neg hm]
      have HLK := Lib.hid (look_0 HO7.out.nv.sh q hq)
      simp only [hl] at HLK
      generalize (lookS T q 0).1 = T2 at *
      obtain ⟨q0, q1, q2⟩ := q_cells HO7.out.nv.bq
      go_upto_region 16 with (first | (refine wpList_store_row rfl 39 _ _ rfl (w8.heap.size) (evL ⟨v, A8, c8⟩).toArray rfl rfl 39 _ HB8.out.1 (infoEa _) rfl (evL_one _) ?_) | (go_at_call 22; with_reducible (refine (HLK.out).mono ?_); rintro e w8 ⟨A8, c8, rfl, sl8, nw8, s8, hc8⟩; have HO8 := Lib.hid (HO7.out.deed s8 hc8); have HG8 := Lib.hid (HG7.out.deed HO7.out.nv.sh hc8); have HS8 := Lib.hid sl8; have HB8 := Lib.hid (new_en w8 (evL ⟨v, A8, c8⟩).toArray); clear sl8 nw8 s8 hc8))
      clear q0 q1 q2 HLK HO7 hl
      have HO9 := Lib.hid (HO8.out.low HB8.out.2.2)
      have HG9 := Lib.hid (HG8.out.low HB8.out.2.2)
      have HS9 := Lib.hid (HS8.out.below' HB8.out.2.2)
      have HB9 := Lib.hid HB8.out.2.1
      clear HO8 HG8 HS8 HB8
      generalize (w8.alloc (Obj.cells #[.string ⟨#[]⟩, .int .u16 0, .int .u16 0, .slice none 0 0, .int .i64 0, .int .i64 0, .int .u64 0] 39)).setRow w8.heap.size (evL ⟨v, A8, c8⟩).toArray = w9 at *
      generalize w8.heap.size = r14 at *
      have HCX := Lib.hid (fun (Wx : World) (hW : Below w9.heap.size w9 Wx) => And.intro (go_cells (HO9.out.low hW) hk) (And.intro (e_cells (HO9.out.low hW).bo) (e_cells (HB9.out.eq (hW.block _ HB9.out.lt)))))
      have HSM := Lib.hid (fun (Wx : World) (hW : Below w9.heap.size w9 Wx) => same_yes v A4 c4 A8 c8 HVL.out Wx (HO9.out.low hW).sl (HS9.out.below' hW))
      unfold evL at HSM
      have HHS := Lib.hid (fun (Wx : World) (hW : Below w9.heap.size w9 Wx) => has_q none 0 ([] : List Qu) HG9.out.le q Wx (HG9.out.low hW).sl)
      have hmd : decide (q ∈ ([] : List Qu)) = false := decide_eq_false hm
      simp only [hmd, List.length_nil] at HHS
      clear hmd
      have HBc := Lib.hid (Below.refl w9.heap.size w9)
      have HLO := Lib.hid HO9.out.nv.lo
      obtain ⟨⟨k0, k1, k2, k3, k8, q0, q1, q2, r6⟩, ⟨a0, a1, a2, a3, a4, a5, a6⟩, ⟨b0, b1, b2, b3, b4, b5, b6⟩⟩ := HCX.out _ HBc.out
      clear HO9 HG9 HS9 HB9
      go_wp2_with (first | (go_at_call 20; with_reducible (refine ((HHS.out _ HBc.out)).mono ?_); rintro e w11 ⟨rfl, hb11⟩; have HB2 := Lib.hid (HBc.out.trans (hb11.mono HBc.out.size)); clear HBc hb11 k0 k1 k2 k3 k8 q0 q1 q2 r6 a0 a1 a2 a3 a4 a5 a6 b0 b1 b2 b3 b4 b5 b6; have HBc := Lib.hid HB2.out; clear HB2; obtain ⟨⟨k0, k1, k2, k3, k8, q0, q1, q2, r6⟩, ⟨a0, a1, a2, a3, a4, a5, a6⟩, ⟨b0, b1, b2, b3, b4, b5, b6⟩⟩ := HCX.out _ HBc.out) | (go_at_call 23; with_reducible (refine ((HSM.out _ HBc.out)).mono ?_); rintro e w11 ⟨rfl, hb11⟩; have HB2 := Lib.hid (HBc.out.trans (hb11.mono HBc.out.size)); clear HBc hb11 k0 k1 k2 k3 k8 q0 q1 q2 r6 a0 a1 a2 a3 a4 a5 a6 b0 b1 b2 b3 b4 b5 b6; have HBc := Lib.hid HB2.out; clear HB2; obtain ⟨⟨k0, k1, k2, k3, k8, q0, q1, q2, r6⟩, ⟨a0, a1, a2, a3, a4, a5, a6⟩, ⟨b0, b1, b2, b3, b4, b5, b6⟩⟩ := HCX.out _ HBc.out))
      go_ret
      exact ⟨rfl, HLO.out.trans (HBc.out.mono HLO.out.size)⟩
end Go.Proofs.Ytjjanogfcfapcaa.D
