/- The law WheelApart: its walk. -/
import Derived.Test.YtdhahienhlknoaaWsb
import Derived.StillTailTactics
namespace Go.Proofs.Ytdhahienhlknoaa
open Go.RowKit
set_option linter.unusedVariables false

theorem Ds.at {w : World} {A : Option Addr} {cap : Nat} {l : List De} (h : Ds w A cap l) (j : Nat) (hj : j < l.length) : ∃ b off, A = some ⟨b, off, none⟩ ∧ b < w.heap.size ∧ w.cell? ⟨b, off + j * 3, none⟩ = some (.int .i64 l[j].k) ∧ w.cell? ⟨b, off + j * 3 + 1, none⟩ = some (.int .i64 l[j].i) ∧ w.cell? ⟨b, off + j * 3 + 2, none⟩ = some (.int .u64 (l[j].t : Nat)) ∧ l[j].t < 18446744073709551616 ∧ (Lit.int .i64 l[j].i).wf = true := by
  obtain ⟨b, off, h1, h2, h3, h4, h5⟩ := h.has j hj
  exact ⟨b, off, h1, h2, h3, h4, h5, h.small _ (List.getElem_mem hj), h.wi _ (List.getElem_mem hj)⟩
theorem keep3 {w w' : World} {b off : Nat} {u v x : Value} (hb : Below w.heap.size w w') (h : w.cell? ⟨b, off, none⟩ = some u ∧ w.cell? ⟨b, off + 1, none⟩ = some v ∧ w.cell? ⟨b, off + 2, none⟩ = some x) :
    w'.cell? ⟨b, off, none⟩ = some u ∧ w'.cell? ⟨b, off + 1, none⟩ = some v ∧ w'.cell? ⟨b, off + 2, none⟩ = some x := by
  have lt : b < w.heap.size := cell_size h.1
  exact ⟨(hb.cell (p := ⟨b, off, none⟩) lt).trans h.1, (hb.cell (p := ⟨b, off + 1, none⟩) lt).trans h.2.1, (hb.cell (p := ⟨b, off + 2, none⟩) lt).trans h.2.2⟩
set_option maxRecDepth 100000 in
set_option maxHeartbeats 4000000 in
theorem apart_walk (k : Nat) (A : Option Addr) (cap : Nat) (l : List De) (id o : Int) (t : Nat) (hk : k < 256) (hwi : (Lit.int .i64 id).wf = true) (hwo : (Lit.int .i64 o).wf = true) (ht : t < 18446744073709551616) (w : World) (hA : Ds w A cap l) :
    Calls Try.prog 7 #[.int .u8 (k : Nat), .slice A l.length cap, .int .i64 id, .int .i64 o, .int .u64 (t : Nat)] w fun e w' => e = .returned (.bool true) ∧ Below w.heap.size w w' := by
  have HA := Lib.hid hA
  have HC0 := Lib.hid (shown_any w)
  have HC1 := Lib.hid (fun w' => new_z (1 + (k : Nat)) (k + 1) (by omega) (by omega) (by omega) w')
  clear hA
  go_enter Try.func7, Try.ntmps7
  go_wp2_with (first
    | (go_at_call 9; with_reducible (refine (HC1.out _).mono ?_); rintro e w1 ⟨g, sb, bm, rfl, hl1, hb1, hg1, hsb1, hm1⟩)
    | (go_at_call 8; with_reducible (refine HC0.out.mono ?_); rintro e w0 ⟨rfl, hb0⟩))
  have HB1 := Lib.hid (hb0.trans (hb1.mono hb0.size))
  have HM := Lib.hid (show ∀ j, j < k + 1 → w.heap.size ≤ bm j from fun j hj => Nat.le_trans hb0.size (hm1 j hj))
  have HL1 := Lib.hid hl1
  clear hb0 hb1 hl1 hm1 hg1 hsb1 HC0 HC1
  go_loopw [13] (fun x wr => ∃ (j n : Nat) (lw : List Ti), x = .int .i64 j ∧ j ≤ l.length ∧ j ≤ 200 ∧ n ≤ j ∧ Wl wr g sb (k + 1) n bm lw ∧ Below w.heap.size w wr) (fun x _ => l.length - (intOf x).toNat)
  case atStart => exact ⟨0, 0, [], rfl, Nat.zero_le _, by omega, Nat.le_refl _, HL1.out, HB1.out⟩
  case round =>
    clear HB1 HL1
    obtain ⟨j, n, lw, rfl, hj, hj2, hn, hl, hb⟩ := hrel
    have HL := Lib.hid hl
    have HB := Lib.hid hb
    clear hl hb
    by_cases hgo : j < l.length ∧ j < 200
    · obtain ⟨hlt, h200⟩ := hgo
      have d1 : decide ((j : Int) < (l.length : Nat)) = true := by simp; omega
      have d2 : decide ((j : Int) < 200) = true := by simp; omega
      obtain ⟨b, off, rfl, hbb, q0, q1, q2, hts, hwd⟩ := HA.out.at j hlt
      have HQ := Lib.hid (And.intro q0 (And.intro q1 q2))
      obtain ⟨c0, c1, c2⟩ := keep3 HB.out HQ.out
      have s0 : (0 : Int) ≤ (j : Nat) := by omega
      have s1 : (j : Int) < (l.length : Nat) := by omega
      clear q0 q1 q2 hbb
      generalize l[j] = d at *
      obtain ⟨kd, i, tt⟩ := d
      simp only at HQ c0 c1 c2 hts hwd
      by_cases e0 : kd = 0
      · subst e0
        go_upto_region 7 with (fail)
        go_still_tail 11, (by kernel_rfl)
        change wpList _ _ _ _ _ wr.drew
        have HS := Lib.hid (set_f i hwd tt hts (HL.out.drewN 1) (by omega))
        have HBd := Lib.hid HB.out.drew
        clear c0 c1 c2
        rw [show wr.drew = wr.drewN 1 from rfl]
        have hke : ∀ w2, Fw bm (k + 1) (wr.drewN 1) w2 → Below w.heap.size w w2 := fun w2 hf => HBd.out.trans (hf.isBelow HM.out HBd.out.size)
        have HK := Lib.hid hke
        clear hke
        generalize wr.drewN 1 = wk at *
        go_wp2_with (go_at_call 16; with_reducible (refine HS.out.mono ?_); rintro e w2 ⟨rfl, hl2, hf2⟩; have hb2 := HK.out w2 hf2; obtain ⟨c0, c1, c2⟩ := keep3 hb2 HQ.out)
        go_roundw
        case rel => exact ⟨j + 1, n + 1, _, by go_num, hlt, h200, by omega, hl2, hb2⟩
        case measure => simp [intOf]; omega
      · have m0 : (kd == 0) = false := by simpa using e0
        have m00 : decide (kd = 0) = false := by simpa using e0
        by_cases e1 : kd = 1
        · subst e1
          have HS := Lib.hid (del_f i hwd HL.out)
          go_wp2_with (go_at_call 17; with_reducible (refine HS.out.mono ?_); rintro e w2 ⟨rfl, hl2, hf2⟩; have hb2 := HB.out.trans (hf2.isBelow HM.out HB.out.size))
          go_roundw
          case rel => exact ⟨j + 1, n, _, by go_num, hlt, h200, by omega, hl2, hb2⟩
          case measure => simp [intOf]; omega
        · have m1 : (kd == 1) = false := by simpa using e1
          have m10 : decide (kd = 1) = false := by simpa using e1
          go_wp2_with fail
          go_roundw
          case rel => exact ⟨j + 1, n, _, by go_num, hlt, h200, by omega, HL.out, HB.out⟩
          case measure => simp [intOf]; omega
    · have hexit : (j < l.length ∧ decide ((j : Int) < (l.length : Nat)) = true ∧ decide ((j : Int) < 200) = false) ∨ (¬ j < l.length ∧ decide ((j : Int) < (l.length : Nat)) = false) := by
        by_cases h1 : j < l.length
        · exact .inl ⟨h1, by simp; omega, by simp; omega⟩
        · exact .inr ⟨h1, by simp; omega⟩
      have hO := HL.out.ord
      by_cases hio : id = o
      · subst hio
        rcases hexit with ⟨hlt, d1, d2⟩ | ⟨hlt, d1⟩
        · go_wp2_with fail
          go_ret
          exact ⟨rfl, HB.out⟩
        · go_wp2_with fail
          go_ret
          exact ⟨rfl, HB.out⟩
      · have m0 : (id == o) = false := by simpa using hio
        have m00 : decide (id = o) = false := by simpa using hio
        have q1 : look (setL lw id t) id = some t := by rw [setL_look hO, if_pos rfl]
        have q2 : look (delL (setL lw id t) id) id = none := by rw [delL_look, if_pos rfl]
        have q3 : look (delL (delL (setL lw id t) id) id) o = look lw o := by rw [delL_look, if_neg (Ne.symm hio), delL_look, if_neg (Ne.symm hio), setL_look hO, if_neg (Ne.symm hio)]
        have HQ := Lib.hid (And.intro q1 (And.intro q2 q3))
        have HK1 := Lib.hid (at_f o hwo HL.out)
        have HT : lkT (some t) = t := rfl
        have HTT := Lib.hid HT
        clear q1 q2 q3 hO HT
        generalize look lw o = lo at *
        rcases hexit with ⟨hlt, d1, d2⟩ | ⟨hlt, d1⟩
        · go_wp2_with (first
            | (go_at_call 12; with_reducible (refine HK6.out.mono ?_); rintro e w8 ⟨rfl, hl8, hf8⟩; have HB8 := Lib.hid (HB7.out.trans (hf8.isBelow HM.out HB7.out.size)); clear hl8 hf8)
            | (go_at_call 17; with_reducible (refine HK5.out.mono ?_); rintro e w7 ⟨rfl, hl7, hf7⟩; have HK6 := Lib.hid (at_f o hwo hl7); rw [HQ.out.2.2] at HK6; have HB7 := Lib.hid (HB6.out.trans (hf7.isBelow HM.out HB6.out.size)); clear hl7 hf7)
            | (go_at_call 17; with_reducible (refine HK4.out.mono ?_); rintro e w6 ⟨rfl, hl6, hf6⟩; have HK5 := Lib.hid (del_f id hwi hl6); rw [HQ.out.2.1] at HK5; have HB6 := Lib.hid (HB5.out.trans (hf6.isBelow HM.out HB5.out.size)); clear hl6 hf6)
            | (go_at_call 12; with_reducible (refine HK3.out.mono ?_); rintro e w5 ⟨rfl, hl5, hf5⟩; have HK4 := Lib.hid (del_f id hwi hl5); rw [HQ.out.1] at HK4; have HB5 := Lib.hid (HB4.out.trans (hf5.isBelow HM.out HB4.out.size)); clear hl5 hf5)
            | (go_at_call 16; with_reducible (refine HK2.out.mono ?_); rintro e w4 ⟨rfl, hl4, hf4⟩; have HK3 := Lib.hid (at_f id hwi hl4); rw [HQ.out.1, HTT.out] at HK3; have HB4 := Lib.hid (HB3.out.trans (hf4.isBelow HM.out HB3.out.size)); clear hl4 hf4)
            | (go_at_call 12; with_reducible (refine HK1.out.mono ?_); rintro e w3 ⟨rfl, hl3, hf3⟩; have HK2 := Lib.hid (set_f id hwi t ht hl3 (by omega)); have HB3 := Lib.hid (HB.out.trans (hf3.isBelow HM.out HB.out.size)); clear hl3 hf3))
          go_ret
          exact ⟨rfl, HB8.out⟩
        · go_wp2_with (first
            | (go_at_call 12; with_reducible (refine HK6.out.mono ?_); rintro e w8 ⟨rfl, hl8, hf8⟩; have HB8 := Lib.hid (HB7.out.trans (hf8.isBelow HM.out HB7.out.size)); clear hl8 hf8)
            | (go_at_call 17; with_reducible (refine HK5.out.mono ?_); rintro e w7 ⟨rfl, hl7, hf7⟩; have HK6 := Lib.hid (at_f o hwo hl7); rw [HQ.out.2.2] at HK6; have HB7 := Lib.hid (HB6.out.trans (hf7.isBelow HM.out HB6.out.size)); clear hl7 hf7)
            | (go_at_call 17; with_reducible (refine HK4.out.mono ?_); rintro e w6 ⟨rfl, hl6, hf6⟩; have HK5 := Lib.hid (del_f id hwi hl6); rw [HQ.out.2.1] at HK5; have HB6 := Lib.hid (HB5.out.trans (hf6.isBelow HM.out HB5.out.size)); clear hl6 hf6)
            | (go_at_call 12; with_reducible (refine HK3.out.mono ?_); rintro e w5 ⟨rfl, hl5, hf5⟩; have HK4 := Lib.hid (del_f id hwi hl5); rw [HQ.out.1] at HK4; have HB5 := Lib.hid (HB4.out.trans (hf5.isBelow HM.out HB4.out.size)); clear hl5 hf5)
            | (go_at_call 16; with_reducible (refine HK2.out.mono ?_); rintro e w4 ⟨rfl, hl4, hf4⟩; have HK3 := Lib.hid (at_f id hwi hl4); rw [HQ.out.1, HTT.out] at HK3; have HB4 := Lib.hid (HB3.out.trans (hf4.isBelow HM.out HB3.out.size)); clear hl4 hf4)
            | (go_at_call 12; with_reducible (refine HK1.out.mono ?_); rintro e w3 ⟨rfl, hl3, hf3⟩; have HK2 := Lib.hid (set_f id hwi t ht hl3 (by omega)); have HB3 := Lib.hid (HB.out.trans (hf3.isBelow HM.out HB.out.size)); clear hl3 hf3))
          go_ret
          exact ⟨rfl, HB8.out⟩
end Go.Proofs.Ytdhahienhlknoaa
