/- The law SlotsTouched: its walk. -/
import Derived.Test.YtpoienhmnaeaiaaSop
namespace Go.Proofs.Ytpoienhmnaeaiaa
open Go.RowKit
set_option linter.unusedVariables false

set_option maxRecDepth 100000 in
set_option maxHeartbeats 4000000 in
theorem touched_walk (A : Option Addr) (cap : Nat) (l : List De) (k m : Nat) (hk : k < 256) (hm : m < 256) (w : World) (hA : Ds w A cap l) : Calls Try.prog 5 #[.slice A l.length cap, .int .u8 (k : Nat), .int .u8 (m : Nat)] w fun e w' => e = .returned (.bool true) ∧ Below w.heap.size w w' := by
  have HC0 := Lib.hid (shown_any w)
  have HA := Lib.hid hA
  obtain ⟨i, hi⟩ : ∃ i : Nat, k % 8 = i := ⟨_, rfl⟩
  have ei : ((k : Nat) : Int) % 8 = (i : Nat) := by omega
  have HE := Lib.hid ei
  clear hA ei hi
  go_enter Try.func5, Try.ntmps5
  go_upto_region 4 with (first
    | (go_at_call 18; with_reducible (refine HC1.out.mono ?_); rintro e w1 ⟨g, b, M, rfl, hs1, hM, hb, hb1⟩)
    | (go_at_call 9; with_reducible (refine HC0.out.mono ?_); rintro e w0 ⟨rfl, hb0⟩; have HB0 := Lib.hid hb0; have HC1 := Lib.hid (ran_any A cap l w0 (HA.out.below hb0)); clear hb0))
  rw [HE.out]
  have G1 := go1_of HB0.out hs1 hb hb1
  clear HC0 HC1 hs1 hb hb1 HB0 HA HE
  have HL := Lib.hid (len_any G1.sp)
  have HG := Lib.hid G1
  have HP := Lib.hid (ph_init M)
  clear G1
  obtain ⟨n0, hn0⟩ : ∃ n0, (allM M).length = n0 := ⟨_, rfl⟩
  rw [hn0] at HL HP
  have h08 : n0 ≤ 8 := by rw [← hn0, ← hM]; exact allC_le _ _
  have HN0 := Lib.hid hn0
  clear hn0
  go_upto_region 5 with (go_at_call 11; with_reducible (refine HL.out.mono ?_); rintro e w2 ⟨rfl, hb2⟩)
  have G2 := Lib.hid (HG.out.bel hb2)
  clear hb2 HG HL
  go_loopw [10] (fun v wr => ∃ (n : Nat) (M' : Ms), v = .int .i64 n ∧ n ≤ n0 ∧ Go1 g b w.heap.size w wr M' ∧ M'.c.length = 8 ∧ allM M' = allM M ∧ Ph M' n) (fun v _ => (intOf v).toNat)
  case atStart => exact ⟨n0, M, rfl, Nat.le_refl _, G2.out, hM, rfl, HP.out⟩
  case round =>
    obtain ⟨n, M', rfl, hn, hG, hM', hall, hP⟩ := hrel
    by_cases h0 : 0 < n
    · have d1 : decide ((0 : Int) < (n : Nat)) = true := by simp; omega
      have hne : allM M' ≠ [] := by
        rw [hall]
        intro e
        have := HN0.out
        rw [e] at this
        simp at this
        omega
      obtain ⟨v, hv⟩ := vicM_some hG.sp.ok hne
      obtain ⟨n', rfl⟩ : ∃ n', n = n' + 1 := ⟨n - 1, by omega⟩
      have HV := Lib.hid (vic_any hG.sp)
      have HX := Lib.hid (show (vicM M').1.c.length = 8 ∧ allM (vicM M').1 = allM M ∧ Ph (vicM M').1 n' from ⟨by rw [vicM_len hG.sp.ok, hM'], by rw [vicM_all hG.sp.ok, hall], ph_vic hG.sp.ok hP hv⟩)
      have HG := Lib.hid hG
      clear hG hM' hall hP hne hv
      go_wp2_with (go_at_call 19; with_reducible (refine HV.out.mono ?_); rintro e w3 ⟨rfl, hs3, hf3⟩; have HG3 := Lib.hid (HG.out.fp hs3 hf3); clear hs3 hf3)
      go_roundw
      case rel => exact ⟨n', (vicM M').1, by go_num, by omega, HG3.out, HX.out⟩
      case measure => simp [intOf]
    · obtain rfl : n = 0 := by omega
      have hS := ph_still hP
      have hok := hG.sp.ok
      have HLN := Lib.hid (len_any hG.sp)
      have HG := Lib.hid hG
      obtain ⟨ln, hln⟩ : ∃ ln, (allM M').length = ln := ⟨_, rfl⟩
      rw [hln] at HLN
      clear hG hall hP
      by_cases h2 : ln < 2
      · have d1 : decide ((ln : Int) < 2) = true := by simp; omega
        clear hln hS hok
        go_wp2_with (go_at_call 11; with_reducible (refine HLN.out.mono ?_); rintro e w3 ⟨rfl, hb3⟩; have HG3 := Lib.hid (HG.out.bel hb3); clear hb3)
        go_ret
        exact ⟨rfl, HG3.out.bl⟩
      · have d1 : decide ((ln : Int) < 2) = false := by simp; omega
        have h22 := two_all (show 2 ≤ (allM M').length by omega) i
        have HT := Lib.hid (fun W hs => touch_any (i : Int) (w := W) (g := g) (b := b) (M := M') hs)
        cases hh : hasM M' i with
        | false =>
          rw [hh] at HT
          clear hln hS hok h22
          go_wp2_with (first | (go_at_call 20; with_reducible (refine (HT.out _ HG3.out.sp).mono ?_); rintro e w4 ⟨rfl, hs4, hf4⟩; have HG4 := Lib.hid (HG3.out.fp hs4 hf4); clear hs4 hf4) | (go_at_call 11; with_reducible (refine HLN.out.mono ?_); rintro e w3 ⟨rfl, hb3⟩; have HG3 := Lib.hid (HG.out.bel hb3); clear hb3))
          go_ret
          exact ⟨rfl, HG4.out.bl⟩
        | true =>
          rw [hh] at HT
          have HX := Lib.hid (show hasM M' i = true ∧ But (touM M' i) i ∧ Two2 (touM M' i) i from ⟨hh, but_tou hh (still_but hS), two_tou hh h22⟩)
          clear hln hS hok h22 hh
          go_upto_region 10 with (first | (go_at_call 20; with_reducible (refine (HT.out _ HG3.out.sp).mono ?_); rintro e w4 ⟨rfl, hs4, hf4⟩; have HG4 := Lib.hid (HG3.out.fp hs4 hf4); clear hs4 hf4) | (go_at_call 11; with_reducible (refine HLN.out.mono ?_); rintro e w3 ⟨rfl, hb3⟩; have HG3 := Lib.hid (HG.out.bel hb3); clear hb3))
          clear HT HLN HG HG3
          go_wp2_with fail
          go_loopw [11, 12, 13] (fun v _ _ wr => ∃ (q : Nat) (N : Ms), v = .int .i64 q ∧ q ≤ m ∧ Go1 g b w.heap.size w wr (touM N i) ∧ hasM N i = true ∧ But (touM N i) i ∧ Two2 (touM N i) i) (fun v _ _ _ => m - (intOf v).toNat)
          case atStart => exact ⟨0, M', rfl, Nat.zero_le _, HG4.out, HX.out⟩
          case round =>
            clear HX HG4
            obtain ⟨q, N, rfl, hq, hG, hh, hB, hT2⟩ := hrel
            by_cases hlt : q < m
            · have d2 : decide ((q : Int) < (m : Nat)) = true := by simp; omega
              have hok := hG.sp.ok
              have hht := has_tou hh
              have hokN : N.Ok := ⟨by rw [← tou_len N i]; exact hok.n1, by rw [← tou_len N i]; exact hok.n64, by have := hok.hn; rw [tou_len] at this; unfold touM at this; rw [hh] at this; exact this⟩
              obtain ⟨v, hv, hne⟩ := vic_other hokN hht hh hB hT2
              have HV := Lib.hid (vic_any hG.sp)
              rw [vicI_of hv, vicB_of hv] at HV
              have e1 : decide ((v : Int) = (i : Nat)) = false := by simp; omega
              have e2 : ((v : Int) == (i : Nat)) = false := by simp; omega
              have hhv := has_vic hok hht
              have HT := Lib.hid (fun W hs => touch_any (i : Int) (w := W) (g := g) (b := b) (M := (vicM (touM N i)).1) hs)
              rw [hhv] at HT
              have HX := Lib.hid (show hasM (vicM (touM N i)).1 i = true ∧ But (touM (vicM (touM N i)).1 i) i ∧ Two2 (touM (vicM (touM N i)).1 i) i from ⟨hhv, but_tou hhv (but_vic hok hB), two_tou hhv (two_vic hok hT2)⟩)
              have HG := Lib.hid hG
              clear hok hht hokN hv hne hhv hG hh hB hT2
              generalize (vicM (touM N i)).1 = N2 at *
              go_wp2_with (first | (go_at_call 20; with_reducible (refine (HT.out _ HG5.out.sp).mono ?_); rintro e w6 ⟨rfl, hs6, hf6⟩; have HG6 := Lib.hid (HG5.out.fp hs6 hf6); clear hs6 hf6) | (go_at_call 19; with_reducible (refine HV.out.mono ?_); rintro e w5 ⟨rfl, hs5, hf5⟩; have HG5 := Lib.hid (HG.out.fp hs5 hf5); clear hs5 hf5))
              go_roundw
              case rel => exact ⟨q + 1, N2, by go_num, hlt, HG6.out, HX.out⟩
              case measure => simp [intOf]; omega
            · have d2 : decide ((q : Int) < (m : Nat)) = false := by simp; omega
              have HG := Lib.hid hG.bl
              clear hG hh hB hT2
              go_wp2_with fail
              go_ret
              exact ⟨rfl, HG.out⟩
end Go.Proofs.Ytpoienhmnaeaiaa
