/- The law WheelOnce: its walk. -/
import Derived.Test.YtdhahienhlknoaaWvb
namespace Go.Proofs.Ytdhahienhlknoaa
open Go.RowKit
set_option linter.unusedVariables false
set_option maxRecDepth 100000 in
set_option maxHeartbeats 8000000 in
theorem once_walk (HS : SortC 200) (k : Nat) (A : Option Addr) (cap : Nat) (l : List De) (now : Nat) (hk : k < 256) (hnow : now < 18446744073709551616) (w : World) (hA : Ds w A cap l) :
    Calls Try.prog 5 #[.int .u8 (k : Nat), .slice A l.length cap, .int .u64 (now : Nat)] w fun e w' => e = .returned (.bool true) ∧ Below w.heap.size w w' := by
  have HSS := Lib.hid HS
  have HA := Lib.hid hA
  have HC0 := Lib.hid (shown_any w)
  have HC1 := Lib.hid (fun w' => new_z (1 + (k : Nat)) (k + 1) (by omega) (by omega) (by omega) w')
  clear hA HS
  go_enter Try.func5, Try.ntmps5
  go_wp2_with (first
    | (go_at_call 9; with_reducible (refine (HC1.out _).mono ?_); rintro e w1 ⟨g, sb, bm, rfl, hl1, hb1, hg1, hsb1, hm1⟩)
    | (go_at_call 8; with_reducible (refine HC0.out.mono ?_); rintro e w0 ⟨rfl, hb0⟩))
  have HB1 := Lib.hid (hb0.trans (hb1.mono hb0.size))
  have HM := Lib.hid (show ∀ j, j < k + 1 → w.heap.size ≤ bm j from fun j hj => Nat.le_trans hb0.size (hm1 j hj))
  have HL1 := Lib.hid hl1
  clear hb0 hb1 hl1 hm1 hg1 hsb1 HC0 HC1
  go_loopw [9] (fun x wr => ∃ (j n : Nat) (lw : List Ti), x = .int .i64 j ∧ j ≤ l.length ∧ j ≤ 200 ∧ n ≤ j ∧ lw.length ≤ j ∧ WfL lw ∧ Wl wr g sb (k + 1) n bm lw ∧ Below w.heap.size w wr) (fun x _ => l.length - (intOf x).toNat)
  case atStart => exact ⟨0, 0, [], rfl, Nat.zero_le _, by omega, Nat.le_refl _, Nat.le_refl _, wf_nil, HL1.out, HB1.out⟩
  case round =>
    clear HB1 HL1
    obtain ⟨j, n, lw, rfl, hj, hj2, hn, hlen, hwl, hl, hb⟩ := hrel
    have HL := Lib.hid hl
    have HB := Lib.hid hb
    have HW := Lib.hid hwl
    clear hl hb hwl
    obtain ⟨bq, hbq⟩ : ∃ z, (decide (j < l.length) && decide (j < 200)) = z := ⟨_, rfl⟩
    go_upto_region 4 with fail
    go_cut [31] (fun x wx => x = .bool bq ∧ wx = wr)
    case first =>
      by_cases h1 : j < l.length
      · have d1 : decide ((j : Int) < (l.length : Nat)) = true := by simp; omega
        by_cases h2 : j < 200
        · have d2 : decide ((j : Int) < 200) = true := by simp; omega
          go_wp2_with fail
          go_meet
          exact ⟨by rw [← hbq]; simp [h1, h2], rfl⟩
        · have d2 : decide ((j : Int) < 200) = false := by simp; omega
          go_wp2_with fail
          go_meet
          exact ⟨by rw [← hbq]; simp [h2], rfl⟩
      · have d1 : decide ((j : Int) < (l.length : Nat)) = false := by simp; omega
        go_wp2_with fail
        go_meet
        exact ⟨by rw [← hbq]; simp [h1], rfl⟩
    case rest =>
    obtain ⟨rfl, rfl⟩ := hcut
    cases bq with
    | true =>
      simp only [Bool.and_eq_true, decide_eq_true_eq] at hbq
      obtain ⟨hlt, h200⟩ := hbq
      obtain ⟨b, off, rfl, hbb, q0, q1, q2, hts, hwd⟩ := HA.out.at j hlt
      have HQ := Lib.hid (And.intro q0 (And.intro q1 q2))
      obtain ⟨c0, c1, c2⟩ := keep3 HB.out HQ.out
      have s0 : (0 : Int) ≤ (j : Nat) := by omega
      have s1 : (j : Int) < (l.length : Nat) := by omega
      clear q0 q1 q2 hbb
      generalize l[j] = d at *
      obtain ⟨kd, i, tt⟩ := d
      simp only at HQ c0 c1 c2 hts hwd
      by_cases e0 : kd = 0
      · subst e0
        go_upto_region 7 with (fail)
        go_still_tail 11, (by kernel_rfl)
        change wpList _ _ _ _ _ wc.drew
        have HS := Lib.hid (set_f i hwd tt hts (HL.out.drewN 1) (by omega))
        have HBd := Lib.hid HB.out.drew
        clear c0 c1 c2
        rw [show wc.drew = wc.drewN 1 from rfl]
        have hke : ∀ w2, Fw bm (k + 1) (wc.drewN 1) w2 → Below w.heap.size w w2 := fun w2 hf => HBd.out.trans (hf.isBelow HM.out HBd.out.size)
        have HK := Lib.hid hke
        clear hke
        generalize wc.drewN 1 = wk at *
        have HLe := Lib.hid (setL_le lw i tt)
        go_wp2_with (go_at_call 16; with_reducible (refine HS.out.mono ?_); rintro e w2 ⟨rfl, hl2, hf2⟩; have hb2 := HK.out w2 hf2; obtain ⟨c0, c1, c2⟩ := keep3 hb2 HQ.out)
        go_roundw
        case rel => exact ⟨j + 1, n + 1, _, by go_num, hlt, h200, by omega, by have := HLe.out; omega, HW.out.set hwd tt, hl2, hb2⟩
        case measure => simp [intOf]; omega
      · have m0 : (kd == 0) = false := by simpa using e0
        have m00 : decide (kd = 0) = false := by simpa using e0
        by_cases e1 : kd = 1
        · subst e1
          have HS := Lib.hid (del_f i hwd HL.out)
          have HLe := Lib.hid (delL_le lw i)
          go_wp2_with (go_at_call 17; with_reducible (refine HS.out.mono ?_); rintro e w2 ⟨rfl, hl2, hf2⟩; have hb2 := HB.out.trans (hf2.isBelow HM.out HB.out.size))
          go_roundw
          case rel => exact ⟨j + 1, n, _, by go_num, hlt, h200, by omega, by have := HLe.out; omega, HW.out.del i, hl2, hb2⟩
          case measure => simp [intOf]; omega
        · have m1 : (kd == 1) = false := by simpa using e1
          have m10 : decide (kd = 1) = false := by simpa using e1
          go_wp2_with fail
          go_roundw
          case rel => exact ⟨j + 1, n, _, by go_num, hlt, h200, by omega, by omega, HW.out, HL.out, HB.out⟩
          case measure => simp [intOf]; omega
    | false =>
      have hO := HL.out.ord
      have H1 := Lib.hid (len_f HL.out (by omega))
      have hlen2 : lw.length ≤ 200 := by omega
      obtain ⟨nx, hnx⟩ : ∃ z, nextL lw = z := ⟨_, rfl⟩
      obtain ⟨dl, hdl⟩ : ∃ z, (dueL lw now).length = z := ⟨_, rfl⟩
      have hcs := next_cases now lw
      rw [hnx, hdl] at hcs
      have HCS := Lib.hid hcs
      have hid : ((dueL lw now).map (·.id)).length = dl := by rw [List.length_map, hdl]
      have hrl := due_len lw now
      rw [hdl] at hrl
      have HRN := Lib.hid (fun j hj => rest_due_none hO now j hj)
      have HWD := Lib.hid (fun j hj => HW.out.due now j hj)
      have HD0 := Lib.hid (dueL_rest now lw)
      have HN0 := Lib.hid (next_rest now lw)
      have HDF := Lib.hid (fun w2 (h : Wl w2 g sb (k + 1) n bm lw) => due_f HSS.out now h hlen2)
      have HDR := Lib.hid (fun w2 (h : Wl w2 g sb (k + 1) n bm (restL lw now)) => due_f HSS.out now h (Nat.le_trans (restL_le lw now) hlen2))
      have HLR := Lib.hid (fun w2 (h : Wl w2 g sb (k + 1) n bm (restL lw now)) => len_f h (by omega))
      rw [hdl] at HDF
      clear hcs hO HA hbq
      generalize (dueL lw now).map (·.id) = ids at *
      generalize restL lw now = lr at *
      go_upto_region 13 with (first
        | (go_at_call 19; (with_reducible (refine (HDF.out _ H3.out.1).mono ?_)); rintro e w4 ⟨A4, c4, rfl, hn4, hl4, hf4⟩; have HNs := Lib.hid hn4; have H4 := Lib.hid (And.intro hl4 (H3.out.2.trans (hf4.isBelow HM.out H3.out.2.size))); clear hn4 hl4 hf4)
        | (go_at_call 14; (with_reducible (refine H2.out.1.mono ?_)); rintro e w3 ⟨rfl, hl3, hf3⟩; have H3 := Lib.hid (And.intro hl3 (H2.out.2.trans (hf3.isBelow HM.out H2.out.2.size))); clear hl3 hf3)
        | (go_at_call 10; (with_reducible (refine H1.out.mono ?_)); rintro e w2 ⟨rfl, hl2, hf2⟩; have h2n := next_f hl2; rw [hnx] at h2n; have H2 := Lib.hid (And.intro h2n (HB.out.trans (hf2.isBelow HM.out HB.out.size))); clear hl2 hf2 h2n))
      have HH := Lib.hid hnx
      have HRLs := Lib.hid hrl
      have hdl200 : dl ≤ 200 := by omega
      clear H1 H2 H3 HDF hnx
      go_cut [99] (fun x wx => x = .bool false ∧ wx = w4)
      case first =>
        rcases HCS.out with ⟨e1, e2⟩ | ⟨m, e1, e2, e3⟩ | ⟨m, e1, e2, e3⟩
        · subst e1
          clear HCS HH hdl hid hrl HRN HWD HNs HRLs
          subst e2
          go_wp2_with fail
          go_meet
          exact ⟨by first | rfl | trivial | (simp; done) | (simp; omega), rfl⟩
        · subst e1
          rw [show lkT (some m) = m from rfl]
          clear HCS HH hdl hid hrl HRN HWD HNs HRLs
          have d1 : decide ((0 : Int) < (dl : Nat)) = true := by simp; omega
          have d2 : decide ((now : Int) < (m : Nat)) = false := by simp; omega
          have d3 : decide ((m : Int) ≤ (now : Nat)) = true := by simp; omega
          have d4 : ((dl : Int) == 0) = false := by simp; omega
          have d5 : decide ((dl : Int) = 0) = false := by simp; omega
          go_wp2_with fail
          go_meet
          exact ⟨by first | rfl | trivial | (simp; done) | (simp; omega), rfl⟩
        · subst e1
          rw [show lkT (some m) = m from rfl]
          clear HCS HH hdl hid hrl HRN HWD HNs HRLs
          subst e3
          have d2 : decide ((now : Int) < (m : Nat)) = true := by simp; omega
          have d3 : decide ((m : Int) ≤ (now : Nat)) = false := by simp; omega
          go_wp2_with fail
          go_meet
          exact ⟨by first | rfl | trivial | (simp; done) | (simp; omega), rfl⟩
      case rest =>
        obtain ⟨rfl, rfl⟩ := hcut
        go_wp2_with fail
        clear HCS hrl
        go_loopw [14] (fun x wr => ∃ i : Nat, x = .int .i64 i ∧ i ≤ dl ∧ NsI wr A4 ids ∧ Wl wr g sb (k + 1) n bm lr ∧ Below w.heap.size w wr) (fun x _ => dl - (intOf x).toNat)
        case atStart => exact ⟨0, rfl, Nat.zero_le _, HNs.out, H4.out.1, H4.out.2⟩
        case round =>
          clear HNs H4
          obtain ⟨i, rfl, hi, hns, hl5, hb5⟩ := hrel
          have HNs := Lib.hid hns
          have HL5 := Lib.hid hl5
          have HB5 := Lib.hid hb5
          clear hns hl5 hb5
          by_cases hlt : i < dl
          · have d1 : decide ((i : Int) < (dl : Nat)) = true := by simp; omega
            obtain ⟨b, off, rfl, hbb, c0⟩ := HNs.out i (by omega)
            have hwf := HWD.out i (by omega)
            have hat := HRN.out i (by omega)
            have HAt := Lib.hid (at_f _ hwf HL5.out)
            rw [hat] at HAt
            clear hwf hat hbb
            have s0 : (0 : Int) ≤ (i : Nat) := by omega
            have s1 : (i : Int) < (dl : Nat) := by omega
            generalize ids[i] = qi at HAt c0
            go_wp2_with (go_at_call 12; with_reducible (refine HAt.out.mono ?_); rintro e w6 ⟨rfl, hl6, hf6⟩)
            go_roundw
            case rel => exact ⟨i + 1, by go_num, hlt, HNs.out.fw HL5.out hf6, hl6, HB5.out.trans (hf6.isBelow HM.out HB5.out.size)⟩
            case measure => simp [intOf]; omega
          · have d1 : decide ((i : Int) < (dl : Nat)) = false := by simp; omega
            have H6 := Lib.hid (next_f HL5.out)
            have er : ((lw.length : Nat) : Int) - (dl : Nat) = (lr.length : Nat) := by have := HRLs.out; omega
            have erw : IntKind.i64.wrap (((lw.length : Nat) : Int) - (dl : Nat)) = (lr.length : Nat) := by rw [er, IntKind.wrap_i64]; have := HRLs.out; omega
            have HD9 := HD0.out
            rw [HD9] at HDR
            clear HD9
            simp only [List.length_nil, List.map_nil] at HDR
            rcases HN0.out with hn0 | ⟨m, hn0, hm⟩
            · rw [hn0] at H6
              generalize lw.length = nl at *
              go_wp2_with (first
                | (go_at_call 19; (with_reducible (refine (HDR.out _ H8.out.1).mono ?_)); rintro e w8 ⟨A8, c8, rfl, hn8, hl8, hf8⟩; have HB9 := Lib.hid (H8.out.2.trans (hf8.isBelow HM.out H8.out.2.size)); clear hn8 hl8 hf8)
                | (go_at_call 10; (with_reducible (refine (HLR.out _ H7.out.1).mono ?_)); rintro e w7 ⟨rfl, hl7, hf7⟩; have H8 := Lib.hid (And.intro hl7 (H7.out.2.trans (hf7.isBelow HM.out H7.out.2.size))); clear hl7 hf7)
                | (go_at_call 14; (with_reducible (refine H6.out.mono ?_)); rintro e w6 ⟨rfl, hl6, hf6⟩; have H7 := Lib.hid (And.intro hl6 (HB5.out.trans (hf6.isBelow HM.out HB5.out.size))); clear hl6 hf6))
              go_ret
              exact ⟨by first | rfl | simp, HB9.out⟩
            · rw [hn0, show lkT (some m) = m from rfl] at H6
              have d2 : decide ((now : Int) < (m : Nat)) = true := by simp; omega
              generalize lw.length = nl at *
              go_wp2_with (first
                | (go_at_call 19; (with_reducible (refine (HDR.out _ H8.out.1).mono ?_)); rintro e w8 ⟨A8, c8, rfl, hn8, hl8, hf8⟩; have HB9 := Lib.hid (H8.out.2.trans (hf8.isBelow HM.out H8.out.2.size)); clear hn8 hl8 hf8)
                | (go_at_call 10; (with_reducible (refine (HLR.out _ H7.out.1).mono ?_)); rintro e w7 ⟨rfl, hl7, hf7⟩; have H8 := Lib.hid (And.intro hl7 (H7.out.2.trans (hf7.isBelow HM.out H7.out.2.size))); clear hl7 hf7)
                | (go_at_call 14; (with_reducible (refine H6.out.mono ?_)); rintro e w6 ⟨rfl, hl6, hf6⟩; have H7 := Lib.hid (And.intro hl6 (HB5.out.trans (hf6.isBelow HM.out HB5.out.size))); clear hl6 hf6))
              go_ret
              exact ⟨by first | rfl | simp, HB9.out⟩
end Go.Proofs.Ytdhahienhlknoaa
