/- The law WheelPlays: its walk. -/
import Derived.Test.YtdhahienhlknoaaWvh
import Derived.Test.YtdhahienhlknoaaWvs
namespace Go.Proofs.Ytdhahienhlknoaa
open Go.RowKit
set_option linter.unusedVariables false
/-- A wheel and a slice of the same times. -/
structure Pl (w W : World) (g sb s n : Nat) (bm : Nat → Nat) (l : List Ti) (A : Option Addr) (c : Nat) : Prop where
  cw : Wl W g sb s n bm l
  cs : Ss W A c l
  cb : Below w.heap.size w W
theorem Pl.fw {w W W' : World} {g sb s n n' : Nat} {bm : Nat → Nat} {l : List Ti} {A : Option Addr} {c : Nat} (h : Pl w W g sb s n bm l A c) (hm : ∀ j, j < s → w.heap.size ≤ bm j) (hl : Wl W' g sb s n' bm l) (hf : Fw bm s W W') : Pl w W' g sb s n' bm l A c :=
  ⟨hl, h.cs.fw h.cw hf, h.cb.trans (hf.isBelow hm h.cb.size)⟩
set_option maxRecDepth 100000 in
set_option maxHeartbeats 8000000 in
theorem plays_walk (HS : SortC 200) (z : Int) (A : Option Addr) (cap : Nat) (l : List De) (id : Int) (hwz : (Lit.int .i64 z).wf = true) (hwi : (Lit.int .i64 id).wf = true) (w : World) (hA : Ds w A cap l) :
    Calls Try.prog 3 #[.int .i64 z, .slice A l.length cap, .int .i64 id] w fun e w' => e = .returned (.bool true) ∧ Below w.heap.size w w' := by
  have HSS := Lib.hid HS
  have HA := Lib.hid hA
  have HWI := Lib.hid hwi
  have HC0 := Lib.hid (shown_any w)
  clear hA HS hwi
  by_cases hz : z < 1 ∨ 256 < z
  · have HC1 := Lib.hid (new_none z hz)
    have HL0 := Lib.hid (fun w' : World => len_any (w := w') (p := none) (l := []) (.inl ⟨rfl, rfl⟩) (by simp))
    rcases hz with hz | hz
    · have d1 : decide (z < 1) = true := by simp; omega
      go_enter Try.func3, Try.ntmps3
      go_wp2_with (first
        | (go_at_call 10; (with_reducible (refine (HL0.out _).mono ?_)); rintro e w3 ⟨rfl, hb3⟩; have HB3 := Lib.hid (hb0.trans (hb3.mono hb0.size)))
        | (go_at_call 9; with_reducible (refine (HC1.out _).mono ?_); rintro e w1 ⟨rfl, rfl⟩)
        | (go_at_call 8; with_reducible (refine HC0.out.mono ?_); rintro e w0 ⟨rfl, hb0⟩))
      go_ret
      exact ⟨by first | rfl | simp, HB3.out⟩
    · have d1 : decide (z < 1) = false := by simp; omega
      have d2 : decide (256 < z) = true := by simp; omega
      go_enter Try.func3, Try.ntmps3
      go_wp2_with (first
        | (go_at_call 10; (with_reducible (refine (HL0.out _).mono ?_)); rintro e w3 ⟨rfl, hb3⟩; have HB3 := Lib.hid (hb0.trans (hb3.mono hb0.size)))
        | (go_at_call 9; with_reducible (refine (HC1.out _).mono ?_); rintro e w1 ⟨rfl, rfl⟩)
        | (go_at_call 8; with_reducible (refine HC0.out.mono ?_); rintro e w0 ⟨rfl, hb0⟩))
      go_ret
      exact ⟨by first | rfl | simp, HB3.out⟩
  · obtain ⟨s, hs⟩ : ∃ s : Nat, z = s := ⟨z.toNat, by omega⟩
    have h1 : 1 ≤ s := by omega
    have h2 : s ≤ 256 := by omega
    have HC1 := Lib.hid (fun w' => new_z z s hs h1 h2 w')
    have d1 : decide (z < 1) = false := by simp; omega
    have d2 : decide (256 < z) = false := by simp; omega
    clear hs
    go_enter Try.func3, Try.ntmps3
    go_wp2_with (first
      | (go_at_call 9; with_reducible (refine (HC1.out _).mono ?_); rintro e w1 ⟨g, sb, bm, rfl, hl1, hb1, hg1, hsb1, hm1⟩)
      | (go_at_call 8; with_reducible (refine HC0.out.mono ?_); rintro e w0 ⟨rfl, hb0⟩))
    have HB1 := Lib.hid (hb0.trans (hb1.mono hb0.size))
    have HM := Lib.hid (show ∀ j, j < s → w.heap.size ≤ bm j from fun j hj => Nat.le_trans hb0.size (hm1 j hj))
    have HL1 := Lib.hid hl1
    clear hb0 hb1 hl1 hm1 hg1 hsb1 HC0 HC1 d1 d2
    go_loopw [9, 10] (fun v x wr => ∃ (j n : Nat) (lw : List Ti) (Ax : Option Addr) (cx : Nat), x = .int .i64 j ∧ v = .slice Ax lw.length cx ∧ j ≤ l.length ∧ j ≤ 200 ∧ n ≤ j ∧ lw.length ≤ j ∧ cx ≤ maxLen ∧ Pl w wr g sb s n bm lw Ax cx) (fun _ x _ => l.length - (intOf x).toNat)
    case atStart => exact ⟨0, 0, [], none, 0, rfl, rfl, Nat.zero_le _, by omega, Nat.le_refl _, Nat.le_refl _, Nat.zero_le _, HL1.out, Ss.nil _, HB1.out⟩
    case round =>
      clear HB1 HL1
      obtain ⟨j, n, lw, Ax, cx, rfl, rfl, hj, hj2, hn, hlen, hcx, hP⟩ := hrel
      have HP := Lib.hid hP
      have HCX := Lib.hid hcx
      clear hP hcx
      obtain ⟨bq, hbq⟩ : ∃ z, (decide (j < l.length) && decide (j < 200)) = z := ⟨_, rfl⟩
      go_upto_region 7 with fail
      go_cut [47] (fun x wx => x = .bool bq ∧ wx = wr)
      case first =>
        by_cases h1 : j < l.length
        · have d1 : decide ((j : Int) < (l.length : Nat)) = true := by simp; omega
          by_cases h2 : j < 200
          · have d2 : decide ((j : Int) < 200) = true := by simp; omega
            go_wp2_with fail
            go_meet
            exact ⟨by rw [← hbq]; simp [h1, h2], rfl⟩
          · have d2 : decide ((j : Int) < 200) = false := by simp; omega
            go_wp2_with fail
            go_meet
            exact ⟨by rw [← hbq]; simp [h2], rfl⟩
        · have d1 : decide ((j : Int) < (l.length : Nat)) = false := by simp; omega
          go_wp2_with fail
          go_meet
          exact ⟨by rw [← hbq]; simp [h1], rfl⟩
      case rest =>
      obtain ⟨rfl, rfl⟩ := hcut
      cases bq with
      | true =>
        simp only [Bool.and_eq_true, decide_eq_true_eq] at hbq
        obtain ⟨hlt, h200⟩ := hbq
        obtain ⟨b, off, rfl, hbb, q0, q1, q2, hts, hwd⟩ := HA.out.at j hlt
        have HQ := Lib.hid (And.intro q0 (And.intro q1 q2))
        obtain ⟨c0, c1, c2⟩ := keep3 HP.out.cb HQ.out
        have s0 : (0 : Int) ≤ (j : Nat) := by omega
        have s1 : (j : Int) < (l.length : Nat) := by omega
        clear q0 q1 q2 hbb
        generalize l[j] = d at *
        obtain ⟨kd, i, tt⟩ := d
        simp only at HQ c0 c1 c2 hts hwd
        have HDo := Lib.hid (do_any HSS.out kd i tt hwd hts Ax cx HCX.out (by omega) (by omega) HP.out.cw HP.out.cs)
        have HLe := Lib.hid (doL_le kd i tt lw)
        have hle2 : (doL kd i tt lw).length ≤ 201 := by have := HLe.out; omega
        clear hwd hts
        generalize doL kd i tt lw = l2 at *
        have HAt := Lib.hid (fun m W (h : Wl W g sb s m bm l2) => at_f id HWI.out h)
        have HRa := Lib.hid (fun A2 c2 W (h : Ss W A2 c2 l2) => rat_any A2 c2 l2 id (by omega) W h)
        have HNx := Lib.hid (fun m W (h : Wl W g sb s m bm l2) => next_f h)
        have HRn := Lib.hid (fun A2 c2 W (h : Ss W A2 c2 l2) => rnext_any A2 c2 l2 (by omega) W h)
        have HLn := Lib.hid (fun m W (h : Wl W g sb s m bm l2) => len_f h (by omega))
        generalize lkT (look l2 id) = a1 at *
        generalize (look l2 id).isSome = a2 at *
        generalize lkT (nextL l2) = a3 at *
        generalize (nextL l2).isSome = a4 at *
        go_upto_region 10 with (go_at_call 11; (with_reducible (refine HDo.out.mono ?_)); rintro e w2 ⟨A2, cc2, n2, hn2, rfl, hs2, hc2, hl2, hf2⟩; have HPa := Lib.hid (And.intro (show Pl w w2 g sb s n2 bm l2 A2 cc2 from ⟨hl2, hs2, HP.out.cb.trans (hf2.isBelow HM.out HP.out.cb.size)⟩) (And.intro hc2 hn2)); clear hs2 hc2 hl2 hf2 hn2)
        clear c0 c1 c2 HDo HP HCX
        go_wp2_with (first
          | (go_at_call 12; (with_reducible (refine (HAt.out _ _ HPa.out.1.cw).mono ?_)); rintro e w3 ⟨rfl, hl3, hf3⟩; have HPb := Lib.hid (HPa.out.1.fw HM.out hl3 hf3); clear hl3 hf3)
          | (go_at_call 13; (with_reducible (refine (HRa.out _ _ _ HPb.out.cs).mono ?_)); rintro e w4 ⟨rfl, rfl⟩)
          | (go_at_call 14; (with_reducible (refine (HNx.out _ _ HPb.out.cw).mono ?_)); rintro e w5 ⟨rfl, hl5, hf5⟩; have HPc := Lib.hid (HPb.out.fw HM.out hl5 hf5); clear hl5 hf5)
          | (go_at_call 15; (with_reducible (refine (HRn.out _ _ _ HPc.out.cs).mono ?_)); rintro e w6 ⟨rfl, rfl⟩)
          | (go_at_call 10; (with_reducible (refine (HLn.out _ _ HPc.out.cw).mono ?_)); rintro e w7 ⟨rfl, hl7, hf7⟩; have HPd := Lib.hid (HPc.out.fw HM.out hl7 hf7); clear hl7 hf7))
        go_roundw
        case rel => exact ⟨j + 1, n2, l2, A2, cc2, by go_num, rfl, hlt, h200, by have := HPa.out.2.2; omega, by have := HLe.out; omega, HPa.out.2.1, HPd.out⟩
        case measure => simp [intOf]; omega
      | false =>
        clear hbq
        go_wp2_with fail
        go_ret
        exact ⟨rfl, HP.out.cb⟩
theorem plays_fin (z : Int) (A : Option Addr) (cap : Nat) (l : List De) (id : Int) (hwz : (Lit.int .i64 z).wf = true) (hwi : (Lit.int .i64 id).wf = true) (w : World) (hA : Ds w A cap l) :
    Calls Try.prog 3 #[.int .i64 z, .slice A l.length cap, .int .i64 id] w fun e w' => e = .returned (.bool true) ∧ Below w.heap.size w w' := plays_walk sort200 z A cap l id hwz hwi w hA
end Go.Proofs.Ytdhahienhlknoaa
