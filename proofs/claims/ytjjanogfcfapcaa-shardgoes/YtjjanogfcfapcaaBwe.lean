/- Joined texts: Wqi Wqj Wqk Wql Wvs Vwd. -/
import Derived.Test.YtjjanogfcfapcaaBwb
import Derived.Test.YtjjanogfcfapcaaBwc
import Derived.Test.YtjjanogfcfapcaaBwd
import Derived.Sort.Walk13a
import Derived.Deep.RegionHeld3

/- The walk of pdqsortCmpFunc. -/
namespace Go.Proofs.Ytjjanogfcfapcaa.W
open Go.RowKit Go.Shelf Go.Sort
open Go.Proofs (SW Row1 ltOf)
set_option linter.unusedVariables false
/-- A round of the sort, by letters. -/
theorem rd_lay {lt : Ik → Ik → Bool} (h : SWO lt) {d : Array Ik} {a b lim : Nat} {wb wp : Bool} (h12 : ¬ b - a ≤ 12) (hl : ¬ lim = 0) (hb : b ≤ d.size) (hB : Below lt a b d) :
    ∃ (l1 : Nat) (e1 : Array Ik) (cp : Nat) (ch : Hint) (e2 : Array Ik) (pv : Nat) (ht : Hint) (e3 : Array Ik) (pb : Bool),
      (wb = false → breakPatterns d a b = e1 ∧ lim - 1 = l1) ∧ (wb = true → d = e1 ∧ lim = l1) ∧ choosePivot lt e1 a b = (cp, ch) ∧
      (ch = .decreasing → reverseRange e1 a b = e2 ∧ (b - 1) - (cp - a) = pv ∧ ht = .increasing) ∧ (ch ≠ .decreasing → e1 = e2 ∧ cp = pv ∧ ht = ch) ∧
      ((wb && wp && decide (ht = .increasing)) = true → partialInsertionSort lt e2 a b = (e3, pb)) ∧ ((wb && wp && decide (ht = .increasing)) = false → e2 = e3 ∧ pb = false) ∧
      e1.size = d.size ∧ (a ≤ cp ∧ cp < b) ∧ e2.size = d.size ∧ (a ≤ pv ∧ pv < b) ∧ e3.size = d.size ∧ l1 ≤ lim ∧
      (pb = true → pdq lt d a b lim wb wp = e3) ∧
      (pb = false → 0 < a → lt e3[a - 1]! e3[pv]! = false → ∃ mid d4, partitionEqual lt e3 a b pv = (mid, d4) ∧ a < mid ∧ mid ≤ b ∧ Below lt mid b d4 ∧ pdq lt d4 mid b l1 wb wp = pdq lt d a b lim wb wp) ∧
      (pb = false → (0 < a → lt e3[a - 1]! e3[pv]! = true) → ∃ mid ap d4, partition lt e3 a b pv = (mid, ap, d4) ∧ a ≤ mid ∧ mid < b ∧ Below lt a mid d4 ∧ Below lt (mid + 1) b d4 ∧
        (mid - a < b - mid → ∃ dL, pdq lt d4 a mid l1 true true = dL ∧ dL.size = d.size ∧ Below lt (mid + 1) b dL ∧ pdq lt dL (mid + 1) b l1 (decide ((b - a) / 8 ≤ mid - a)) ap = pdq lt d a b lim wb wp) ∧
        (¬ mid - a < b - mid → ∃ dL, pdq lt d4 (mid + 1) b l1 true true = dL ∧ dL.size = d.size ∧ Below lt a mid dL ∧ pdq lt dL a mid l1 (decide ((b - a) / 8 ≤ b - mid)) ap = pdq lt d a b lim wb wp)) := by
  obtain ⟨s1, B1, hc1, s2, B2, hpv, s3, B3⟩ := rd_facts (limit := lim) (wb := wb) (wp := wp) h partialInsertionSort_holds reverseRange_holds (show a < b by omega) hb hB
  refine ⟨(rd lt d a b lim wb wp).lim, (rd lt d a b lim wb wp).d1, (rd lt d a b lim wb wp).c.1, (rd lt d a b lim wb wp).c.2, (rd lt d a b lim wb wp).d2, (rd lt d a b lim wb wp).pivot, (rd lt d a b lim wb wp).hint, (rd lt d a b lim wb wp).pi.1, (rd lt d a b lim wb wp).pi.2,
    ?_, ?_, rfl, ?_, ?_, ?_, ?_, s1, hc1, s2, hpv, s3, rd_lim_le, ?_, ?_, ?_⟩
  · rintro rfl; exact ⟨rfl, rfl⟩
  · rintro rfl; exact ⟨rfl, rfl⟩
  · intro hh; obtain ⟨x, y, z⟩ := rd_dec hh; exact ⟨x.symm, y.symm, z⟩
  · intro hh; obtain ⟨x, y, z⟩ := rd_not hh; exact ⟨x.symm, y.symm, z⟩
  · intro hh; rw [rd_pi_yes hh]
  · intro hh; rw [rd_pi_no hh]; exact ⟨rfl, rfl⟩
  · exact fun hh => pdq_done h12 hl hh
  · intro hh ha hlt
    obtain ⟨mid, d4, hx⟩ : ∃ mid d4, partitionEqual lt (rd lt d a b lim wb wp).pi.1 a b (rd lt d a b lim wb wp).pivot = (mid, d4) := ⟨(partitionEqual lt (rd lt d a b lim wb wp).pi.1 a b (rd lt d a b lim wb wp).pivot).1, (partitionEqual lt (rd lt d a b lim wb wp).pi.1 a b (rd lt d a b lim wb wp).pivot).2, rfl⟩
    obtain ⟨r1, r2, r3, r4, _⟩ := round_eq h (partitionEqual_holds lt) ha hpv.1 hpv.2 (by rw [s3]; exact hb) B3 hlt hx
    have q := pdq_eq h12 hl hh (by rw [hlt]; simp [ha]) (by rw [hx]; exact ⟨r1, r2⟩)
    rw [hx] at q
    exact ⟨mid, d4, hx, r1, r2, r4, q.symm⟩
  · intro hh hlt
    have h2 : (decide (a > 0) && !lt (rd lt d a b lim wb wp).pi.1[a - 1]! (rd lt d a b lim wb wp).pi.1[(rd lt d a b lim wb wp).pivot]!) = false := by
      rcases Nat.eq_zero_or_pos a with h0 | h0
      · simp [h0]
      · rw [hlt h0]; simp
    obtain ⟨mid, ap, d4, hx⟩ : ∃ mid ap d4, partition lt (rd lt d a b lim wb wp).pi.1 a b (rd lt d a b lim wb wp).pivot = (mid, ap, d4) := ⟨(partition lt (rd lt d a b lim wb wp).pi.1 a b (rd lt d a b lim wb wp).pivot).1, (partition lt (rd lt d a b lim wb wp).pi.1 a b (rd lt d a b lim wb wp).pivot).2.1, (partition lt (rd lt d a b lim wb wp).pi.1 a b (rd lt d a b lim wb wp).pivot).2.2, rfl⟩
    obtain ⟨r1, r2, r3, r4, r5, r6, r7⟩ := round_part h (partition_holds lt) hpv.1 hpv.2 (by rw [s3]; exact hb) B3 hx
    refine ⟨mid, ap, d4, hx, r1, r2, r4, r5, fun h4 => ?_, fun h4 => ?_⟩
    · obtain ⟨pL, sL⟩ := pdq_sorts lt h d4 a mid (rd lt d a b lim wb wp).lim true true r1 (by omega) r4
      have q := pdq_left h12 hl hh h2 (by rw [hx]; exact ⟨r1, r2⟩) (by rw [hx]; exact h4)
      rw [hx] at q
      exact ⟨_, rfl, by rw [pL.1, r3, s3], (r6 _ pL sL).1, q.symm⟩
    · obtain ⟨pL, sL⟩ := pdq_sorts lt h d4 (mid + 1) b (rd lt d a b lim wb wp).lim true true (by omega) (by omega) r5
      have q := pdq_right h12 hl hh h2 (by rw [hx]; exact ⟨r1, r2⟩) (by rw [hx]; exact h4)
      rw [hx] at q
      exact ⟨_, rfl, by rw [pL.1, r3, s3], (r7 _ pL sL).1, q.symm⟩
variable {cf : Ik → Ik → Int} {g blk off n : Nat} {w0 W : World} {d0 dk : Array Ik}
theorem hintI_dec {h : Hint} (e : h = .decreasing) : hintI h = 2 := by rw [e]; rfl
theorem hintI_not {h : Hint} (e : h ≠ .decreasing) : decide (hintI h = 2) = false := by cases h <;> simp_all [hintI]
theorem hintI_inc (h : Hint) : decide (hintI h = 1) = decide (h = .increasing) := by cases h <;> simp [hintI]
set_option maxRecDepth 1000000 in
set_option maxHeartbeats 30000000 in
theorem pdq_s (HC : CmpB cf g blk off n w0) (R : Row1 eK w0 blk off d0) (h0 : d0.size = n) (hn : n ≤ 100000) (hO : SWO (ltOf cf)) (cap : Nat) : ∀ (N a b limit : Nat) (d : Array Ik) (w : World), b - a < N → d.size = n → SW eK w0 blk off d w → a ≤ b → b ≤ n → limit ≤ 100000 → Below (ltOf cf) a b d →
    Calls Try.prog 65 #[.slice (some ⟨blk, off, none⟩) n cap, .int .i64 (a : Nat), .int .i64 (b : Nat), .int .i64 (limit : Nat), fvB g] w fun e w' => e = .returned (.tuple #[]) ∧ SW eK w0 blk off (pdq (ltOf cf) d a b limit true true) w' := by
  intro N
  induction N with
  | zero => intro _ _ _ _ _ h; exact absurd h (Nat.not_lt_zero _)
  | succ N ih =>
    intro a b limit d w hN hs S hab hb hlimit hBel
    obtain ⟨R0, hR0⟩ : ∃ x, pdq (ltOf cf) d a b limit true true = x := ⟨_, rfl⟩
    rw [hR0]
    have mixed : Try.prog.follows .mixedOrders = true := by kernel_rfl
    have hcl0 := eK_one.cells
    simp only [Value.cells] at hcl0
    have hst := eK_one.store Try.prog
    have HH := Lib.hid HC
    have RR := Lib.hid R
    have S0 := Lib.hid (And.intro hs S)
    have H0 := Lib.hid h0
    have IH := Lib.hid ih
    have OO := Lib.hid hO
    have HR0 := Lib.hid hR0
    have BB := Lib.hid hBel
    clear HC R hs S h0 ih hO hR0 hBel
    go_enter Try.func65, Try.ntmps65
    go_wp2_with fail
    go_loopw [1, 2, 3, 10, 11] (fun s1 s2 s3 s10 s11 wr => ∃ (x y lim : Nat) (wb wp : Bool) (dk : Array Ik), s1 = .int .i64 x ∧ s2 = .int .i64 y ∧ s3 = .int .i64 lim ∧ s10 = .bool wb ∧ s11 = .bool wp ∧ x ≤ y ∧ y ≤ n ∧ y - x ≤ b - a ∧ lim ≤ 100000 ∧ Below (ltOf cf) x y dk ∧ (dk.size = n ∧ SW eK w0 blk off dk wr) ∧ pdq (ltOf cf) dk x y lim wb wp = R0) (fun s1 s2 _ _ _ _ => (intOf s2 - intOf s1).toNat)
    case atStart => exact ⟨a, b, limit, true, true, d, rfl, rfl, rfl, rfl, rfl, hab, hb, Nat.le_refl _, hlimit, BB.out, S0.out, HR0.out⟩
    case round =>
      clear S0 HR0 BB
      obtain ⟨x, y, lim, wb, wp, dk, rfl, rfl, rfl, rfl, rfl, hxy, hyn, hkN, hlim, hBk, hS, ho⟩ := hrel
      have HS := Lib.hid hS
      have HO := Lib.hid ho
      have BK := Lib.hid hBk
      clear hS ho hBk
      obtain ⟨m, hm⟩ : ∃ z, y - x = z := ⟨_, rfl⟩
      have em : (y : Int) - (x : Nat) = (m : Nat) := by omega
      by_cases h12 : m ≤ 12
      · have d1 : decide ((m : Int) ≤ 12) = true := by simp; omega
        have hc := ins_s HH.out RR.out H0.out hn cap x y dk wr HS.out.1 HS.out.2 hxy hyn
        rw [show insertionSort (ltOf cf) dk x y = R0 from by rw [← HO.out]; exact (pdq_small (by omega)).symm] at hc
        go_wp2_with (go_at_call 70; with_reducible (refine hc.mono ?_); rintro e w1 ⟨rfl, hq⟩)
        (try simp only [Exit.inBlock, Exit.then]); refine bodyPost_ret (results_none rfl _ _ _) rfl ?_
        exact ⟨rfl, hq⟩
      · have d1 : decide ((m : Int) ≤ 12) = false := by simp; omega
        by_cases hl0 : lim = 0
        · subst hl0
          have hc := heap_s HH.out RR.out H0.out hn cap x y dk wr HS.out.1 HS.out.2 hxy hyn
          rw [show heapSort (ltOf cf) dk x y = R0 from by rw [← HO.out]; exact (pdq_heap (by omega) rfl).symm] at hc
          go_wp2_with (go_at_call 71; with_reducible (refine hc.mono ?_); rintro e w1 ⟨rfl, hq⟩)
          (try simp only [Exit.inBlock, Exit.then]); refine bodyPost_ret (results_none rfl _ _ _) rfl ?_
          exact ⟨rfl, hq⟩
        · have d2 : ((lim : Int) == 0) = false := by simp; omega
          have d20 : decide ((lim : Int) = 0) = false := by simp; omega
          obtain ⟨l1, e1, cp, ch, e2, pv, ht, e3, pb, k1, k2, k3, k4, k5, k6, k7, s1, ⟨hcp1, hcp2⟩, s2, ⟨hpv1, hpv2⟩, s3, hl1, k8, k9, k10⟩ := rd_lay (lim := lim) (wb := wb) (wp := wp) OO.out (show ¬ y - x ≤ 12 by omega) hl0 (by rw [HS.out.1]; exact hyn) BK.out
          rw [HS.out.1] at s1 s2 s3
          rw [HO.out] at k8 k9 k10
          rw [HS.out.1] at k10
          have K1 := Lib.hid k1
          have K2 := Lib.hid k2
          have K3 := Lib.hid k3
          have K4 := Lib.hid k4
          have K5 := Lib.hid k5
          have K6 := Lib.hid k6
          have K7 := Lib.hid k7
          have K8 := Lib.hid k8
          have K9 := Lib.hid k9
          have K10 := Lib.hid k10
          have Z1 := Lib.hid s1
          have Z2 := Lib.hid s2
          have Z3 := Lib.hid s3
          clear k1 k2 k3 k4 k5 k6 k7 k8 k9 k10 s1 s2 s3 HO BK
          go_upto_if 39 with fail
          go_cut [3] (fun s3 wx => s3 = .int .i64 (l1 : Nat) ∧ (e1.size = n ∧ SW eK w0 blk off e1 wx))
          case first =>
            cases wb with
            | false =>
              have hc := brk_s (fvB g) RR.out H0.out hn cap x y dk wr HS.out.1 HS.out.2 hxy hyn (by omega)
              obtain ⟨q1, q2⟩ := K1.out rfl
              rw [q1] at hc
              have el : ((lim : Nat) : Int) - 1 = (l1 : Nat) := by omega
              have ewl : IntKind.i64.wrap (l1 : Nat) = (l1 : Nat) := by rw [wrapI] <;> omega
              clear K1 K2 q1 HS
              go_wp2_with (go_at_call 72; with_reducible (refine hc.mono ?_); rintro e w1 ⟨rfl, hq1, hq2⟩)
              go_meet
              case rel => exact ⟨by first | rfl | go_num, hq1, hq2⟩
            | true =>
              obtain ⟨q1, q2⟩ := K2.out rfl
              subst q2
              subst q1
              have HS2 := HS
              clear K1 K2 HS
              go_wp2_with fail
              go_meet
              case rel => exact ⟨rfl, HS2.out⟩
          case rest =>
            clear HS K1 K2
            obtain ⟨rfl, hS⟩ := hcut
            have HS := Lib.hid hS
            clear hS
            have hc := piv_s HH.out RR.out H0.out hn cap x y e1 wc HS.out.1 HS.out.2 (by omega) hyn
            rw [K3.out] at hc
            clear K3
            go_upto_if 56 with (go_at_call 73; with_reducible (refine hc.mono ?_); rintro e w2 ⟨rfl, hq⟩)
            have HQ := Lib.hid (And.intro HS.out.1 hq)
            clear hq HS
            go_cut [13, 14] (fun s13 s14 wx => s13 = .int .i64 (pv : Nat) ∧ s14 = .int .i64 (hintI ht) ∧ (e2.size = n ∧ SW eK w0 blk off e2 wx))
            case first =>
              by_cases hh : ch = .decreasing
              · obtain ⟨q1, q2, q3⟩ := K4.out hh
                have dh := hintI_dec hh
                have hc := rev_s (fvB g) RR.out H0.out hn cap x y e1 w2 HQ.out.1 HQ.out.2 (by omega) hyn
                rw [q1] at hc
                subst q3
                clear K4 K5 q1 hh HQ
                rw [dh]
                have ep : ((y : Nat) : Int) - 1 - ((cp : Nat) - (x : Nat)) = (pv : Nat) := by omega
                have ew1 : IntKind.i64.wrap (((y : Nat) : Int) - 1) = ((y : Nat) : Int) - 1 := by rw [wrapI] <;> omega
                have ew2 : IntKind.i64.wrap (((cp : Nat) : Int) - (x : Nat)) = ((cp : Nat) : Int) - (x : Nat) := by rw [wrapI] <;> omega
                have ew3 : IntKind.i64.wrap (pv : Nat) = (pv : Nat) := by rw [wrapI] <;> omega
                go_wp2_with (go_at_call 74; with_reducible (refine hc.mono ?_); rintro e w1 ⟨rfl, hq⟩)
                go_meet
                case rel => exact ⟨by first | rfl | go_num, rfl, Z2.out, hq⟩
              · obtain ⟨q1, q2, q3⟩ := K5.out hh
                have dh := hintI_not hh
                subst q2 q3
                subst q1
                have HQ2 := HQ
                clear K4 K5 hh HQ
                generalize hintI ht = hv at *
                have dh2 : (hv == 2) = false := by simpa using dh
                first | rw [dh2] | rw [dh] | skip
                go_wp2_with fail
                go_meet
                case rel => exact ⟨rfl, rfl, HQ2.out⟩
            case rest =>
              clear HQ K4 K5
              obtain ⟨rfl, rfl, hS⟩ := hcut
              have HS := Lib.hid hS
              clear hS
              go_upto_region 15 with fail
              go_cut [75] (fun s75 wx => s75 = .bool (wb && wp && decide (ht = .increasing)) ∧ (e2.size = n ∧ SW eK w0 blk off e2 wx))
              case first =>
                have di := hintI_inc ht
                clear K6 K7 K8 K9 K10 Z1 Z2 Z3
                generalize decide (ht = .increasing) = hb at *
                generalize hintI ht = hv at *
                cases wb <;> cases wp <;> cases hb <;> (go_wp2_with fail; go_meet; case rel => exact ⟨by first | rfl | trivial | (congr 1; done) | (congr 1; simpa using di), HS.out⟩)
              case rest =>
                clear HS
                obtain ⟨rfl, hS⟩ := hcut
                have HS := Lib.hid hS
                clear hS
                go_upto_if 75 with fail
                go_cut [] (fun wx => pb = false ∧ (e3.size = n ∧ SW eK w0 blk off e3 wx))
                case first =>
                  cases h75 : (wb && wp && decide (ht = .increasing)) with
                  | true =>
                    have hc := pin_s HH.out RR.out H0.out hn cap x y e2 wc HS.out.1 HS.out.2 (by omega) hyn
                    rw [K6.out h75] at hc
                    have K8' := Lib.hid K8.out
                    clear K6 K7 K8 K9 K10 HS
                    cases pb with
                    | true =>
                      have HR8 := Lib.hid (K8'.out rfl)
                      clear K8'
                      go_wp2_with (go_at_call 75; with_reducible (refine hc.mono ?_); rintro e w1 ⟨rfl, hz, hq⟩)
                      (try simp only [Exit.inBlock, Exit.then]); refine bodyPost_ret (results_none rfl _ _ _) rfl ?_
                      exact ⟨rfl, by rw [HR8.out]; exact hq⟩
                    | false =>
                      clear K8'
                      go_wp2_with (go_at_call 75; with_reducible (refine hc.mono ?_); rintro e w1 ⟨rfl, hz, hq⟩)
                      go_meet
                      case rel => exact ⟨by first | rfl | trivial, hz, hq⟩
                  | false =>
                    obtain ⟨q1, q2⟩ := K7.out h75
                    subst q1
                    clear K6 K7 K8 K9 K10
                    go_wp2_with fail
                    go_meet
                    case rel => exact ⟨by first | exact q2 | trivial, HS.out⟩
                case rest =>
                  clear HS
                  obtain ⟨hpb, hS⟩ := hcut
                  have HS := Lib.hid hS
                  clear hS
                  have K9' := Lib.hid (K9.out hpb)
                  have K10' := Lib.hid (K10.out hpb)
                  clear K9 K10 K8 K6 K7 Z1 Z2
                  obtain ⟨bq, hbq⟩ : ∃ z, (decide (0 < x) && !(ltOf cf) e3[x - 1]! e3[pv]!) = z := ⟨_, rfl⟩
                  have BQ := Lib.hid hbq
                  clear hbq
                  go_upto_region 17 with fail
                  go_cut [97] (fun s97 wx => s97 = .bool bq ∧ (e3.size = n ∧ SW eK w0 blk off e3 wx))
                  case first =>
                    obtain ⟨xp, hxp⟩ : ∃ z, x - 1 = z := ⟨_, rfl⟩
                    rw [hxp] at BQ
                    clear K9' K10'
                    have szpv : (0 : Int) ≤ (pv : Nat) := by omega
                    have snpv : ((pv : Nat) : Int) < (n : Nat) := by omega
                    have szxp : (0 : Int) ≤ (xp : Nat) := by omega
                    have snxp : ((xp : Nat) : Int) < (n : Nat) := by omega
                    obtain ⟨la, lb⟩ := two_cells RR.out H0.out HS.out.1 HS.out.2 xp pv (by omega) (by omega)
                    have hc := HH.out.at HS.out.2 HS.out.1 e3[xp]! e3[pv]!
                    have SG := Lib.hid (fun q os => And.intro HS.out.1 (HS.out.2.grown q os))
                    by_cases hx0 : 0 < x
                    · have d5 : decide ((0 : Int) < (x : Nat)) = true := by simp; omega
                      have d6 : decide (((x : Nat) : Int) > 0) = true := by simp; omega
                      have ep : ((x : Nat) : Int) - 1 = (xp : Nat) := by omega
                      have ewp : IntKind.i64.wrap (xp : Nat) = (xp : Nat) := by rw [wrapI] <;> omega
                      have ewp2 : IntKind.i64.wrap (((x : Nat) : Int) - 1) = (xp : Nat) := by rw [ep]; exact ewp
                      cases hlv : (ltOf cf) e3[xp]! e3[pv]! with
                      | true =>
                        have hd := lt_true hlv
                        have HB := Lib.hid (show bq = false from by rw [← BQ.out, hlv]; simp)
                        clear hlv HS BQ
                        generalize e3[xp]! = xa at la hc hd
                        generalize e3[pv]! = xb at lb hc hd
                        go_quiet_grown (first | (go_at_call 59; exact hc _ _))
                        have S2 := Lib.hid (SG.out nq osq)
                        clear la lb hc SG hd
                        generalize grow (wc.drewN nq) osq = w2 at *
                        go_wp2_with fail
                        go_meet
                        case rel => exact ⟨by rw [HB.out], S2.out⟩
                      | false =>
                        have hd := lt_false hlv
                        have HB := Lib.hid (show bq = true from by rw [← BQ.out, hlv]; simp [hx0])
                        clear hlv HS BQ
                        generalize e3[xp]! = xa at la hc hd
                        generalize e3[pv]! = xb at lb hc hd
                        go_quiet_grown (first | (go_at_call 59; exact hc _ _))
                        have S2 := Lib.hid (SG.out nq osq)
                        clear la lb hc SG hd
                        generalize grow (wc.drewN nq) osq = w2 at *
                        go_wp2_with fail
                        go_meet
                        case rel => exact ⟨by rw [HB.out], S2.out⟩
                    · have d5 : decide ((0 : Int) < (x : Nat)) = false := by simp; omega
                      have d6 : decide (((x : Nat) : Int) > 0) = false := by simp; omega
                      have HB := Lib.hid (show bq = false from by rw [← BQ.out]; simp [hx0])
                      have S2 := Lib.hid (And.intro HS.out.1 HS.out.2.drew)
                      clear HS BQ la lb hc SG
                      first | (go_region) | fail
                      go_wp2_with fail
                      go_meet
                      case rel => exact ⟨by rw [HB.out], S2.out⟩
                  case rest =>
                    clear HS
                    obtain ⟨rfl, hS⟩ := hcut
                    have HS := Lib.hid hS
                    clear hS
                    cases bq with
                    | true =>
                      have hb2 := BQ.out
                      simp only [Bool.and_eq_true, decide_eq_true_eq, Bool.not_eq_true'] at hb2
                      obtain ⟨mid, d4, hx, r1, r2, r3, r4⟩ := K9'.out hb2.1 hb2.2
                      have hc := peq_s HH.out RR.out H0.out hn cap x y pv e3 wc HS.out.1 HS.out.2 hpv1 hpv2 hyn
                      rw [hx] at hc
                      have X3 := Lib.hid r3
                      have X4 := Lib.hid r4
                      clear K9' K10' hx r3 r4 HS BQ hb2
                      go_wp2_with (go_at_call 76; with_reducible (refine hc.mono ?_); rintro e w1 ⟨rfl, hz, hq⟩)
                      go_roundw
                      case rel => exact ⟨mid, y, l1, wb, wp, d4, rfl, rfl, rfl, rfl, rfl, r2, hyn, by omega, by omega, X3.out, ⟨hz, hq⟩, X4.out⟩
                      case measure => simp [intOf]; omega
                    | false =>
                      obtain ⟨mid, ap, d4, hx, r1, r2, r3, r4, r5, r6⟩ := K10'.out (fun h0 => by
                        have := BQ.out
                        cases hq : (ltOf cf) e3[x - 1]! e3[pv]! with
                        | true => rfl
                        | false => rw [hq] at this; simp [h0] at this)
                      have hc := par_s HH.out RR.out H0.out hn cap x y pv e3 wc HS.out.1 HS.out.2 hpv1 hpv2 hyn
                      rw [hx] at hc
                      have X3 := Lib.hid r3
                      have X4 := Lib.hid r4
                      have X5 := Lib.hid r5
                      have X6 := Lib.hid r6
                      clear K9' K10' hx r3 r4 r5 r6 HS BQ
                      obtain ⟨q8, hq8⟩ : ∃ z, m / 8 = z := ⟨_, rfl⟩
                      have eq8 : ((m : Nat) : Int).tdiv 8 = (q8 : Nat) := by rw [Int.tdiv_eq_ediv_of_nonneg (by omega)]; omega
                      have eq82 : ((m : Nat) : Int) / 8 = (q8 : Nat) := by omega
                      obtain ⟨ll, hll⟩ : ∃ z, mid - x = z := ⟨_, rfl⟩
                      obtain ⟨lr, hlr⟩ : ∃ z, y - mid = z := ⟨_, rfl⟩
                      have ell : ((mid : Nat) : Int) - (x : Nat) = (ll : Nat) := by omega
                      have elr : ((y : Nat) : Int) - (mid : Nat) = (lr : Nat) := by omega
                      rw [hll, hlr, hm, hq8] at X5 X6
                      by_cases h4 : ll < lr
                      · have d5 : decide ((ll : Int) < (lr : Nat)) = true := by simp; omega
                        obtain ⟨dL, hL, zL, bL, oL⟩ := X5.out h4
                        have IH2 := Lib.hid (fun W hz hq => IH.out x mid l1 d4 W (by omega) hz hq r1 (by omega) (by omega) X3.out)
                        rw [hL] at IH2
                        have B2 := Lib.hid bL
                        have O2 := Lib.hid oL
                        clear X3 X4 X5 X6 hL bL oL
                        go_upto_if 125 with (go_at_call 77; with_reducible (refine hc.mono ?_); rintro e w1 ⟨rfl, hz, hq⟩)
                        have hc2 := IH2.out w1 hz hq
                        clear hc IH2
                        go_wp2_with (go_at_call 65; with_reducible (refine hc2.mono ?_); rintro e w2 ⟨rfl, hq2⟩)
                        go_roundw
                        case rel => exact ⟨mid + 1, y, l1, decide (q8 ≤ ll), ap, dL, by first | rfl | go_num, rfl, rfl, by first | rfl | (congr 1; exact decide_eq_decide.2 (by omega)), rfl, by omega, hyn, by omega, by omega, B2.out, ⟨zL, hq2⟩, O2.out⟩
                        case measure => simp [intOf]; omega
                      · have d5 : decide ((ll : Int) < (lr : Nat)) = false := by simp; omega
                        obtain ⟨dL, hL, zL, bL, oL⟩ := X6.out h4
                        obtain ⟨mp, hmp⟩ : ∃ z, mid + 1 = z := ⟨_, rfl⟩
                        have emp : ((mid : Nat) : Int) + 1 = (mp : Nat) := by omega
                        have ewmp : IntKind.i64.wrap (mp : Nat) = (mp : Nat) := by rw [wrapI] <;> omega
                        rw [hmp] at hL
                        have IH2 := Lib.hid (fun W hz hq => IH.out mp y l1 d4 W (by omega) hz hq (by omega) (by omega) (by omega) (hmp ▸ X4.out))
                        rw [hL] at IH2
                        have B2 := Lib.hid bL
                        have O2 := Lib.hid oL
                        clear X3 X4 X5 X6 hL bL oL
                        go_upto_if 125 with (go_at_call 77; with_reducible (refine hc.mono ?_); rintro e w1 ⟨rfl, hz, hq⟩)
                        have hc2 := IH2.out w1 hz hq
                        clear hc IH2
                        go_wp2_with (go_at_call 65; with_reducible (refine hc2.mono ?_); rintro e w2 ⟨rfl, hq2⟩)
                        go_roundw
                        case rel => exact ⟨x, mid, l1, decide (q8 ≤ lr), ap, dL, by first | rfl | go_num, rfl, rfl, by first | rfl | (congr 1; exact decide_eq_decide.2 (by omega)), rfl, r1, by omega, by omega, by omega, B2.out, ⟨zL, hq2⟩, O2.out⟩
                        case measure => simp [intOf]; omega
end Go.Proofs.Ytjjanogfcfapcaa.W

/- The wheel's order, a method value: its contract in whatever has grown behind the wheel. -/
namespace Go.Proofs.Ytjjanogfcfapcaa.W
open Go.RowKit Go.Shelf Go.Sort
open Go.Maps (Keyed)
set_option linter.unusedVariables false
/-- -1, 0 or 1. -/
def cmpZ (a b : Int) : Int := if a < b then -1 else if b < a then 1 else 0
set_option maxHeartbeats 1000000 in
theorem nanU (a : Nat) (w : World) : Calls Try.prog 80 #[.int .u64 (a : Nat)] w fun e w' => e = .returned (.bool false) ∧ w' = w := by
  go_enter Try.func80, Try.ntmps80
  go_wp2_with fail
  go_ret
  first | exact ⟨by simp, rfl⟩ | exact ⟨rfl, rfl⟩
set_option maxHeartbeats 1000000 in
theorem nanI (a : Int) (w : World) : Calls Try.prog 81 #[.int .i64 a] w fun e w' => e = .returned (.bool false) ∧ w' = w := by
  go_enter Try.func81, Try.ntmps81
  go_wp2_with fail
  go_ret
  first | exact ⟨by simp, rfl⟩ | exact ⟨rfl, rfl⟩
set_option maxHeartbeats 1000000 in
theorem cmpU (a b : Nat) (w : World) : Calls Try.prog 68 #[.int .u64 (a : Nat), .int .u64 (b : Nat)] w fun e w' => e = .returned (.int .i64 (cmpZ (a : Nat) (b : Nat))) ∧ w' = w := by
  have H1 := Lib.hid (nanU a w)
  have H2 := Lib.hid (nanU b w)
  obtain ⟨r, hr⟩ : ∃ r, cmpZ (a : Nat) (b : Nat) = r := ⟨_, rfl⟩
  rw [hr]
  have HR := Lib.hid hr
  clear hr
  by_cases h1 : a < b
  · have d1 : decide ((a : Int) < (b : Nat)) = true := by simp; omega
    have HG := Lib.hid (show (-1 : Int) = r from by rw [← HR.out]; unfold cmpZ; rw [if_pos (by omega)])
    clear HR
    go_enter Try.func68, Try.ntmps68
    go_wp2_with (first
      | (go_at_call 80; with_reducible (refine H1.out.mono ?_); rintro e w' ⟨rfl, rfl⟩)
      | (go_at_call 80; with_reducible (refine H2.out.mono ?_); rintro e w' ⟨rfl, rfl⟩)
      | fail)
    go_ret
    exact ⟨by have := HG.out; subst this; rfl, rfl⟩
  · have d1 : decide ((a : Int) < (b : Nat)) = false := by simp; omega
    by_cases h2 : b < a
    · have d2 : decide ((b : Int) < (a : Nat)) = true := by simp; omega
      have HG := Lib.hid (show (1 : Int) = r from by rw [← HR.out]; unfold cmpZ; rw [if_neg (by omega), if_pos (by omega)])
      clear HR
      go_enter Try.func68, Try.ntmps68
      go_wp2_with (first
        | (go_at_call 80; with_reducible (refine H1.out.mono ?_); rintro e w' ⟨rfl, rfl⟩)
        | (go_at_call 80; with_reducible (refine H2.out.mono ?_); rintro e w' ⟨rfl, rfl⟩)
        | fail)
      go_ret
      exact ⟨by have := HG.out; subst this; rfl, rfl⟩
    · have d2 : decide ((b : Int) < (a : Nat)) = false := by simp; omega
      have HG := Lib.hid (show (0 : Int) = r from by rw [← HR.out]; unfold cmpZ; rw [if_neg (by omega), if_neg (by omega)])
      clear HR
      go_enter Try.func68, Try.ntmps68
      go_wp2_with (first
        | (go_at_call 80; with_reducible (refine H1.out.mono ?_); rintro e w' ⟨rfl, rfl⟩)
        | (go_at_call 80; with_reducible (refine H2.out.mono ?_); rintro e w' ⟨rfl, rfl⟩)
        | fail)
      go_ret
      exact ⟨by have := HG.out; subst this; rfl, rfl⟩
set_option maxHeartbeats 1000000 in
theorem cmpI (a b : Int) (w : World) : Calls Try.prog 69 #[.int .i64 a, .int .i64 b] w fun e w' => e = .returned (.int .i64 (cmpZ a b)) ∧ w' = w := by
  have H1 := Lib.hid (nanI a w)
  have H2 := Lib.hid (nanI b w)
  obtain ⟨r, hr⟩ : ∃ r, cmpZ a b = r := ⟨_, rfl⟩
  rw [hr]
  have HR := Lib.hid hr
  clear hr
  by_cases h1 : a < b
  · have d1 : decide (a < b) = true := by simp; omega
    have HG := Lib.hid (show (-1 : Int) = r from by rw [← HR.out]; unfold cmpZ; rw [if_pos (by omega)])
    clear HR h1
    go_enter Try.func69, Try.ntmps69
    go_wp2_with (first
      | (go_at_call 81; with_reducible (refine H1.out.mono ?_); rintro e w' ⟨rfl, rfl⟩)
      | (go_at_call 81; with_reducible (refine H2.out.mono ?_); rintro e w' ⟨rfl, rfl⟩)
      | fail)
    go_ret
    exact ⟨by have := HG.out; subst this; rfl, rfl⟩
  · have d1 : decide (a < b) = false := by simp; omega
    by_cases h2 : b < a
    · have d2 : decide (b < a) = true := by simp; omega
      have HG := Lib.hid (show (1 : Int) = r from by rw [← HR.out]; unfold cmpZ; rw [if_neg (by omega), if_pos (by omega)])
      clear HR h1 h2
      go_enter Try.func69, Try.ntmps69
      go_wp2_with (first
        | (go_at_call 81; with_reducible (refine H1.out.mono ?_); rintro e w' ⟨rfl, rfl⟩)
        | (go_at_call 81; with_reducible (refine H2.out.mono ?_); rintro e w' ⟨rfl, rfl⟩)
        | fail)
      go_ret
      exact ⟨by have := HG.out; subst this; rfl, rfl⟩
    · have d2 : decide (b < a) = false := by simp; omega
      have HG := Lib.hid (show (0 : Int) = r from by rw [← HR.out]; unfold cmpZ; rw [if_neg (by omega), if_neg (by omega)])
      clear HR h1 h2
      go_enter Try.func69, Try.ntmps69
      go_wp2_with (first
        | (go_at_call 81; with_reducible (refine H1.out.mono ?_); rintro e w' ⟨rfl, rfl⟩)
        | (go_at_call 81; with_reducible (refine H2.out.mono ?_); rintro e w' ⟨rfl, rfl⟩)
        | fail)
      go_ret
      exact ⟨by have := HG.out; subst this; rfl, rfl⟩
/-- The first of two that is not 0. -/
def orZ (x y : Int) : Int := if x = 0 then y else x
set_option maxHeartbeats 1000000 in
theorem or_two (x y : Int) (b : Nat) (w : World) (h0 : w.cell? ⟨b, 0, none⟩ = some (.int .i64 x)) (h1 : w.cell? ⟨b, 1, none⟩ = some (.int .i64 y)) :
    Calls Try.prog 67 #[.slice (some ⟨b, 0, none⟩) 2 2] w fun e w' => e = .returned (.int .i64 (orZ x y)) ∧ w' = w := by
  obtain ⟨r, hr⟩ : ∃ r, orZ x y = r := ⟨_, rfl⟩
  rw [hr]
  have HR := Lib.hid hr
  clear hr
  by_cases hx : x = 0
  · have HG := Lib.hid (show y = r from by rw [← HR.out]; unfold orZ; rw [if_pos hx])
    subst hx
    clear HR
    by_cases hy : y = 0
    · subst hy
      go_enter Try.func67, Try.ntmps67
      go_wp2_with fail
      refine wp_loop_rounds 3 ?_
      rw [rounds_succ]
      go_wp2_with fail
      rw [rounds_succ]
      go_wp2_with fail
      rw [rounds_succ]
      go_wp2_with fail
      go_ret
      exact ⟨by have := HG.out; subst this; rfl, rfl⟩
    · have d1 : (y == 0) = false := by simpa using hy
      have d2 : decide (y = 0) = false := by simpa using hy
      have d3 : (y != 0) = true := by simpa using hy
      clear hy
      go_enter Try.func67, Try.ntmps67
      go_wp2_with fail
      refine wp_loop_rounds 3 ?_
      rw [rounds_succ]
      go_wp2_with fail
      rw [rounds_succ]
      go_wp2_with fail
      go_ret
      exact ⟨by have := HG.out; subst this; rfl, rfl⟩
  · have HG := Lib.hid (show x = r from by rw [← HR.out]; unfold orZ; rw [if_neg hx])
    have d1 : (x == 0) = false := by simpa using hx
    have d2 : decide (x = 0) = false := by simpa using hx
    have d3 : (x != 0) = true := by simpa using hx
    clear HR hx
    go_enter Try.func67, Try.ntmps67
    go_wp2_with fail
    refine wp_loop_rounds 3 ?_
    rw [rounds_succ]
    go_wp2_with fail
    go_ret
    exact ⟨by have := HG.out; subst this; rfl, rfl⟩
end Go.Proofs.Ytjjanogfcfapcaa.W

/- The wheel's order by its contract. -/
namespace Go.Proofs.Ytjjanogfcfapcaa.W
open Go.RowKit Go.Shelf Go.Sort
open Go.Maps (Keyed)
open Go.Proofs (SW Row1 ltOf)
set_option linter.unusedVariables false
/-- Only draws and new blocks. -/
def Gr (w w' : World) : Prop := ∃ (q : Nat) (os : Array Obj), w' = grow (w.drewN q) os
theorem Gr.refl (w : World) : Gr w w := ⟨0, #[], by rw [grow_empty]; rfl⟩
theorem Gr.drewN {w w' : World} (h : Gr w w') (k : Nat) : Gr w (w'.drewN k) := by
  obtain ⟨q, os, rfl⟩ := h
  exact ⟨q + k, os, by show grow ((w.drewN q).drewN k) os = _; rw [World.drewN_drewN]⟩
theorem Gr.drew {w w' : World} (h : Gr w w') : Gr w w'.drew := h.drewN 1
theorem Gr.alloc {w w' : World} (h : Gr w w') (o : Obj) : Gr w (w'.alloc o) := by
  obtain ⟨q, os, rfl⟩ := h
  exact ⟨q, os ++ #[o], by rw [alloc_eq_grow, grow_grow]⟩
theorem Gr.grown {w w' : World} (h : Gr w w') : w.grownBy w' none := by
  obtain ⟨q, os, rfl⟩ := h
  exact ⟨rfl, rfl, rfl, by rw [size_grow]; exact Nat.le_add_right _ _, fun i hi _ => heap_grow_old _ _ hi⟩
theorem Wl.gr {w w' : World} {g sb s n : Nat} {bm : Nat → Nat} {l : List Ti} (h : Wl w g sb s n bm l) (hg : Gr w w') : Wl w' g sb s n bm l := h.keptBut hg.grown (by simp) (by simp) (fun _ _ => by simp)
theorem Mp.run {P : Program} {k e t : TypeId} {w : World} {b n : Nat} {l : List Ti} (h : Mp P k e w b n l) (K : Keyed P k) (ht : P.underlying t = some (.map k e)) (hk : P.underlying k = some (.int .i64)) (he : P.underlying e = some (.int .u64)) (hz : (zeroValue e).run P w = .ok (.int .u64 0) w)
    (id : Int) (hw : (Lit.int .i64 id).wf = true) : (Instr.lookup t (.map (some b)) (.int .i64 id) false).run P w = .ok (.int .u64 (((look l id).getD 0 : Nat) : Int)) w := by
  obtain ⟨D, hown, T⟩ := h
  obtain ⟨c, hrun, hat, _⟩ := hown.lookup_int K ht he hz (Maps.keyOf_int_mk hk hw)
  rw [T.at_] at hat
  cases hl : look l id with
  | none => rw [hl] at hat; cases hat; exact hrun
  | some v => rw [hl] at hat; cases hat; exact hrun
theorem Wl.run {w : World} {g sb s n : Nat} {bm : Nat → Nat} {l : List Ti} (h : Wl w g sb s n bm l) (id : Int) (hw : (Lit.int .i64 id).wf = true) : (Instr.lookup 99 (.map (some (bm (spk s id)))) (.int .i64 id) false).run Try.prog w = .ok (.int .u64 (((look l id).getD 0 : Nat) : Int)) w := by
  have q := (h.mp _ (spk_lt h.pos id)).run keyedI Try.underlying99 Try.underlying3 Try.underlying37 (zeroU _) id hw
  rw [part_look (l := l) (fun i => spk s i == spk s id) id, if_pos (by simp)] at q
  exact q
theorem cellA (w : World) (a b : Value) (T : TypeId) : (w.alloc (.cells #[a, b] T)).cell? ⟨w.heap.size, 0, none⟩ = some a := by
  have e : (w.alloc (.cells #[a, b] T)).heap[w.heap.size]? = some (.cells #[a, b] T) := by rw [alloc_eq_grow]; unfold grow; simp
  unfold World.cell?
  simp only [e]
  rfl
theorem cellB (w : World) (a b : Value) (T : TypeId) : (w.alloc (.cells #[a, b] T)).cell? ⟨w.heap.size, 1, none⟩ = some b := by
  have e : (w.alloc (.cells #[a, b] T)).heap[w.heap.size]? = some (.cells #[a, b] T) := by rw [alloc_eq_grow]; unfold grow; simp
  unfold World.cell?
  simp only [e]
  rfl
/-- What the order says. -/
def cfW (l : List Ti) (x y : Ik) : Int := orZ (cmpZ ((look l x.1).getD 0 : Nat) ((look l y.1).getD 0 : Nat)) (cmpZ x.1 y.1)
set_option maxRecDepth 1000000 in
set_option maxHeartbeats 4000000 in
theorem order_any (x y : Ik) {w : World} {g sb s n : Nat} {bm : Nat → Nat} {l : List Ti} (h : Wl w g sb s n bm l) :
    Calls Try.prog 59 #[.pointer (some ⟨g, 0, none⟩), eK x, eK y] w fun e w' => e = .returned (.int .i64 (cfW l x y)) ∧ Gr w w' := by
  obtain ⟨x, hx⟩ := x
  obtain ⟨y, hy⟩ := y
  unfold cfW eK
  simp only
  have HC1 := Lib.hid (fun w' (q : (Gr w w' ∧ (Instr.lookup 99 (.map (some (bm (spk s x)))) (.int .i64 x) false).run Try.prog w' = .ok (.int .u64 (((look l x).getD 0 : Nat) : Int)) w' ∧ (Instr.lookup 99 (.map (some (bm (spk s y)))) (.int .i64 y) false).run Try.prog w' = .ok (.int .u64 (((look l y).getD 0 : Nat) : Int)) w')) => (spoke_any x (h.gr q.1)).mono (R' := fun e w'' => e = .returned (.map (some (bm (spk s x)))) ∧ Gr w w'') (by rintro e w2 ⟨rfl, k, rfl⟩; exact ⟨rfl, q.1.drewN k⟩))
  have HC2 := Lib.hid (fun w' (q : (Gr w w' ∧ (Instr.lookup 99 (.map (some (bm (spk s x)))) (.int .i64 x) false).run Try.prog w' = .ok (.int .u64 (((look l x).getD 0 : Nat) : Int)) w' ∧ (Instr.lookup 99 (.map (some (bm (spk s y)))) (.int .i64 y) false).run Try.prog w' = .ok (.int .u64 (((look l y).getD 0 : Nat) : Int)) w')) => (spoke_any y (h.gr q.1)).mono (R' := fun e w'' => e = .returned (.map (some (bm (spk s y)))) ∧ Gr w w'') (by rintro e w2 ⟨rfl, k, rfl⟩; exact ⟨rfl, q.1.drewN k⟩))
  have HF := Lib.hid (fun w' (q : Gr w w') => And.intro q (And.intro ((h.gr q).run x hx) ((h.gr q).run y hy)))
  clear h
  generalize spk s x = jx at *
  generalize spk s y = jy at *
  generalize (look l x).getD 0 = tx at *
  generalize (look l y).getD 0 = ty at *
  generalize bm jx = mx at *
  generalize bm jy = my at *
  have HK1 := Lib.hid (cmpU tx ty)
  have HK2 := Lib.hid (cmpI x y)
  generalize cmpZ (tx : Nat) (ty : Nat) = z1 at *
  generalize cmpZ x y = z2 at *
  have G0 := Lib.hid (Gr.refl w).drew
  clear hx hy
  go_enter Try.func59, Try.ntmps59
  go_wp2_with fail
  go_region_held3 (fun w' => Gr w w' ∧ (Instr.lookup 99 (.map (some mx)) (.int .i64 x) false).run Try.prog w' = .ok (.int .u64 ((tx : Nat) : Int)) w' ∧ (Instr.lookup 99 (.map (some my)) (.int .i64 y) false).run Try.prog w' = .ok (.int .u64 ((ty : Nat) : Int)) w') (first | exact HF.out _ G0.out | exact HF.out _ (by assumption) | exact HF.out _ (Gr.alloc (by assumption) _)) (first
    | (go_at_call 60; with_reducible (refine (HC1.out _ (by assumption)).mono ?_); rintro e w2 ⟨rfl, hg2⟩)
    | (go_at_call 60; with_reducible (refine (HC2.out _ (by assumption)).mono ?_); rintro e w3 ⟨rfl, hg3⟩)
    | (go_at_call 68; with_reducible (refine (HK1.out _).mono ?_); rintro e w4 ⟨rfl, rfl⟩)
    | (go_at_call 69; with_reducible (refine (HK2.out _).mono ?_); rintro e w5 ⟨rfl, rfl⟩)
    | (go_at_call 67; refine (or_two z1 z2 _ _ (cellA _ _ _ _) (cellB _ _ _ _)).mono ?_; rintro e w6 ⟨rfl, rfl⟩))
  all_goals (go_wp2_with fail)
  all_goals (go_ret; exact ⟨rfl, Gr.alloc (by assumption) _⟩)
end Go.Proofs.Ytjjanogfcfapcaa.W

/- slices.SortFunc by a wheel's order, over pdqsort's contract: what Due asks of it. -/
namespace Go.Proofs.Ytjjanogfcfapcaa.W
open Go.RowKit Go.Shelf Go.Sort
open Go.Proofs (SW Row1 ltOf)
set_option linter.unusedVariables false
def PdqAll : Prop := ∀ (cf : Ik → Ik → Int) (g blk off n : Nat) (w0 : World) (d0 : Array Ik), CmpB cf g blk off n w0 → Row1 eK w0 blk off d0 → d0.size = n → n ≤ 100000 → SWO (ltOf cf) → ∀ (cap limit : Nat) (d : Array Ik) (w : World), d.size = n → SW eK w0 blk off d w → limit ≤ 100000 →
  Calls Try.prog 65 #[.slice (some ⟨blk, off, none⟩) n cap, .int .i64 0, .int .i64 (n : Nat), .int .i64 (limit : Nat), fvB g] w fun e w' => e = .returned (.tuple #[]) ∧ SW eK w0 blk off (pdq (ltOf cf) d 0 n limit true true) w'
set_option maxHeartbeats 1000000 in
theorem sortfunc_s (HP : PdqAll) (cf : Ik → Ik → Int) (g blk off n : Nat) (w : World) (d : Array Ik) (HC : CmpB cf g blk off n w) (R : Row1 eK w blk off d) (hs : d.size = n) (hn : n ≤ 100000) (hO : SWO (ltOf cf)) (cap : Nat) :
    Calls Try.prog 58 #[.slice (some ⟨blk, off, none⟩) n cap, fvB g] w fun e w' => e = .returned (.tuple #[]) ∧ SW eK w blk off (pdq (ltOf cf) d 0 n (Lib.bitLen n) true true) w' := by
  have hlim : Lib.bitLen n ≤ 62 := Lib.bitLen_le n 62 (by omega) (by omega)
  have HL := Lib.hid (bits_len n (by omega) w)
  have HQ := Lib.hid (HP cf g blk off n w d HC R hs hn hO cap (Lib.bitLen n) d w hs (SW.start R.hH) (by omega))
  have d2 : IntKind.u64.wrap (n : Int) = (n : Nat) := by rw [IntKind.wrap_u64]; omega
  generalize pdq (ltOf cf) d 0 n (Lib.bitLen n) true true = d' at *
  generalize Lib.bitLen n = bl at *
  clear HC R hO hs
  go_enter Try.func58, Try.ntmps58
  go_wp2_with (first
    | (go_at_call 66; with_reducible (refine HL.out.mono ?_); rintro e w' ⟨rfl, rfl⟩)
    | (go_at_call 65; with_reducible (refine HQ.out.mono ?_); rintro e w2 ⟨rfl, hq⟩)
    | fail)
  go_end0
  exact ⟨rfl, hq⟩
/-- The order is the pairs'. -/
theorem cfW_lt (l : List Ti) (x y : Ik) : ltOf (cfW l) x y = decide (ltT (tiOf l x.1) (tiOf l y.1)) := by
  unfold ltOf cfW ltT tiOf orZ cmpZ
  simp only
  generalize (look l x.1).getD 0 = a
  generalize (look l y.1).getD 0 = b
  apply decide_eq_decide.2
  by_cases h1 : a < b
  · simp [show ((a : Nat) : Int) < (b : Nat) by omega, h1]
  · by_cases h2 : b < a
    · have e1 : ¬ ((a : Nat) : Int) < (b : Nat) := by omega
      have e2 : ((b : Nat) : Int) < (a : Nat) := by omega
      simp only [if_neg e1, if_pos e2]
      constructor
      · intro h; omega
      · intro h; omega
    · have e1 : ¬ ((a : Nat) : Int) < (b : Nat) := by omega
      have e2 : ¬ ((b : Nat) : Int) < (a : Nat) := by omega
      simp only [if_neg e1, if_neg e2]
      constructor
      · intro h
        right
        refine ⟨by omega, ?_⟩
        by_cases h3 : x.1 < y.1
        · exact h3
        · by_cases h4 : y.1 < x.1 <;> simp [h3, h4] at h
      · intro h
        rcases h with h | ⟨_, h⟩
        · omega
        · simp [h]
theorem cfW_swo (l : List Ti) : SWO (ltOf (cfW l)) where
  irrefl x := by rw [cfW_lt]; exact decide_eq_false (ltT_irrefl _)
  trans x y z h1 h2 := by rw [cfW_lt] at *; exact decide_eq_true (ltT_trans (of_decide_eq_true h1) (of_decide_eq_true h2))
  ntrans x y z h1 h2 := by
    rw [cfW_lt] at *
    have a1 := of_decide_eq_false h1
    have a2 := of_decide_eq_false h2
    refine decide_eq_false fun h => ?_
    rcases ltT_tri (tiOf l x.1) (tiOf l y.1) with c | c | c
    · exact a1 c
    · rw [c] at h; exact a2 h
    · exact a2 (ltT_trans c h)
theorem sw_grown {w0 W : World} {blk off : Nat} {d : Array Ik} (S : SW eK w0 blk off d W) : w0.grownBy W (some blk) := by
  obtain ⟨m, os, rfl⟩ := S
  refine ⟨rfl, rfl, rfl, by unfold sortWorld; simp, fun k hk hne => ?_⟩
  unfold sortWorld
  rw [heap_grow_old _ _ (by simpa using hk)]
  have : blk ≠ k := fun e => hne (by rw [e])
  simp [putRow, mapBlock, Sort.ahead, Array.getElem?_modify, this]
theorem sw_heap {w0 W : World} {blk : Nat} {d : Array Ik} (S : SW eK w0 blk 0 d W) {cur : Array Value} {e : TypeId} {fr : Nat × Nat} (hb : w0.heap[blk]? = some (.cells cur e fr)) : W.heap[blk]? = some (.cells (putCells eK 0 d cur) e fr) := by
  obtain ⟨m, os, rfl⟩ := S
  have hg : blk < w0.heap.size := (Array.getElem?_eq_some_iff.1 hb).1
  unfold sortWorld
  rw [heap_grow_old _ _ (by simpa using hg)]
  simp [putRow, mapBlock, Sort.ahead, Array.getElem?_modify, hb, onCells]
theorem take_putK (cur : Array Value) (d : Array Ik) (h : d.size ≤ cur.size) : (putCells eK 0 d cur).toList.take d.size = d.toList.map eK := by
  apply List.ext_getElem?
  intro j
  by_cases hj : j < d.size
  · rw [List.getElem?_take_of_lt hj, Array.getElem?_toList]
    simp [putCells, hj, show j < cur.size by omega]
  · rw [List.getElem?_take_eq_none (by omega), List.getElem?_eq_none (by simp; omega)]
theorem holdsK {w : World} {g : Nat} {cur : Array Value} {e : TypeId} {d : Array Ik} (hb : w.heap[g]? = some (.cells cur e (0, 0))) (ht : cur.toList.take d.size = d.toList.map eK) : Holds eK w g 0 d := by
  intro j hj
  refine ⟨?_, by simp [World.frozen?, hb]⟩
  have h1 : (cur.toList.take d.size)[j]? = (d.toList.map eK)[j]? := by rw [ht]
  rw [List.getElem?_take_of_lt hj] at h1
  simp only [World.cell?, hb, Nat.zero_add]
  simp only [Option.isSome_none, Bool.false_eq_true, if_false]
  rw [← Array.getElem?_toList, h1]
  simp [hj]
theorem map_eK (d : Array Ik) : d.toList.map eK = valI (d.toList.map (·.1)) := by
  unfold valI
  rw [List.map_map]
  rfl
theorem ext_all (d : Array Ik) (n : Nat) (h : d.size = n) : d.extract 0 n = d := by subst h; simp
set_option maxHeartbeats 1000000 in
theorem sortC_any (HP : PdqAll) (k : Nat) (hk : k ≤ 100000) : SortC k := by
  intro w g sb s n bm l ids A cap B h hL hB hlen hnd hwf ho
  rcases ho.2 with ⟨he, h0⟩ | ⟨blk, cap', cur, he, hbase, hb, h1, h2, h3, h4⟩
  · have e0 : ids = [] := List.eq_nil_of_length_eq_zero h0
    subst e0
    exact sortC_one w g sb s n bm l [] A cap B h hL hB (by simp) hnd hwf ho
  · cases he
    obtain ⟨d, hd⟩ : ∃ d : Array Ik, d.toList.map (·.1) = ids := by
      refine ⟨(ids.attach.map fun i => (⟨i.1, hwf i.1 i.2⟩ : Ik)).toArray, ?_⟩
      simp
    have hs : d.size = ids.length := by rw [← hd]; simp
    have hH : Holds eK w blk 0 d := holdsK hb (by rw [map_eK, hd, hs]; rw [Nat.mul_one] at h4; exact h4)
    have hblk : blk < w.heap.size := (Array.getElem?_eq_some_iff.1 hb).1
    have R : Row1 eK w blk 0 d := ⟨eK_one, hH, hblk⟩
    have HC : CmpB (cfW l) g blk 0 ids.length w := by
      intro W dk hdk S x y
      have hW : Wl W g sb s n bm l := h.keptBut (sw_grown S) (fun e => by have := hL.g; cases e; omega) (fun e => by have := hL.b; cases e; omega) (fun j hj e => by have := hL.m j hj; cases e; omega)
      exact order_any x y hW
    refine (sortfunc_s HP (cfW l) g blk 0 ids.length w d HC R hs (by omega) (cfW_swo l) cap).mono ?_
    rintro e w' ⟨rfl, S⟩
    obtain ⟨hp, hso⟩ := pdq_sorts (ltOf (cfW l)) (cfW_swo l) d 0 ids.length (Lib.bitLen ids.length) true true (Nat.zero_le _) (by omega) (Or.inl rfl)
    generalize pdq (ltOf (cfW l)) d 0 ids.length (Lib.bitLen ids.length) true true = d' at *
    have hs' : d'.size = ids.length := hp.1.trans hs
    have hperm : (d'.toList.map (·.1)).Perm ids := by
      have := hp.2.2
      rw [ext_all d' _ hs', ext_all d _ hs] at this
      rw [← hd]
      exact this.map _
    refine ⟨rfl, d'.toList.map (·.1), hperm, ?_, ?_, sw_grown S⟩
    · have hnd' : (d'.toList.map (·.1)).Nodup := hperm.nodup_iff.2 hnd
      rw [List.pairwise_iff_getElem]
      intro i j hi hj hij
      simp only [List.length_map, Array.length_toList] at hi hj
      have hso' := hso i j (Nat.zero_le _) hij (by omega)
      rw [cfW_lt] at hso'
      have hn := of_decide_eq_false hso'
      simp only [List.getElem_map, Array.getElem_toList]
      rw [getElem!_pos d' i hi, getElem!_pos d' j hj] at hn
      rcases ltT_tri (tiOf l d'[i].1) (tiOf l d'[j].1) with c | c | c
      · exact c
      · exfalso
        have c1 : d'[i].1 = d'[j].1 := congrArg Ti.id c
        have := (List.pairwise_iff_getElem.1 hnd') i j (by simpa using hi) (by simpa using hj) hij
        simp only [List.getElem_map, Array.getElem_toList] at this
        exact this c1
      · exact absurd c hn
    · refine ⟨by rw [← map_eK]; simp [hs'], .inr ⟨blk, cap, _, rfl, hbase, sw_heap S hb, h1, h2, by simp [putCells, h3], ?_⟩⟩
      rw [Nat.mul_one, ← map_eK, ← hs']
      exact take_putK cur d' (by rw [h3, Nat.mul_one, hs']; exact h1)
end Go.Proofs.Ytjjanogfcfapcaa.W

/- The sort of 200 ids: what Due asks of it is so. -/
namespace Go.Proofs.Ytjjanogfcfapcaa.W
open Go.RowKit Go.Shelf Go.Sort
open Go.Proofs (SW Row1 ltOf)
set_option linter.unusedVariables false
theorem pdq_all : PdqAll := fun cf g blk off n w0 d0 HC R h0 hn hO cap limit d w hs S hl =>
  pdq_s HC R h0 hn hO cap (n + 1) 0 n limit d w (by omega) hs S (Nat.zero_le _) (Nat.le_refl _) hl (Or.inl rfl)
theorem sort200 : SortC 200 := sortC_any pdq_all 200 (by omega)
end Go.Proofs.Ytjjanogfcfapcaa.W

/- The contract of Due, which tells besides that its list is new. -/
namespace Go.Proofs.Ytjjanogfcfapcaa.W
open Go.RowKit Go.Shelf
open Go.Maps (Keyed)
set_option linter.unusedVariables false
attribute [local go_sem] Oper.semAt_some

set_option maxRecDepth 100000 in
set_option maxHeartbeats 4000000 in
theorem due_new (k : Nat) (HS : SortC k) (hk : k ≤ 100000) (now : Nat) {w : World} {g sb s n : Nat} {bm : Nat → Nat} {l : List Ti} (h : Wl w g sb s n bm l) (hl : (dueL l now).length ≤ k) (hl2 : l.length ≤ 100000) :
    Calls Try.prog 44 #[.pointer (some ⟨g, 0, none⟩), .int .u64 (now : Nat)] w fun e w' => ∃ A c, e = .returned (.slice A (dueL l now).length c) ∧ NsI w' A ((dueL l now).map (·.id)) ∧ (∀ b off, A = some ⟨b, off, none⟩ → w.heap.size ≤ b) ∧ Wl w' g sb s n bm (restL l now) ∧ Fw bm s w w' := by
  obtain ⟨i0, hi, hz0, hz1, hz2⟩ := el_of elI
  have HW := Lib.hid h
  have HN := Lib.hid (show WlN w (some ⟨g, 0, none⟩) l from .inr ⟨g, sb, s, n, bm, rfl, h⟩)
  have HSS := Lib.hid HS
  clear h HS
  refine (callsIn_wide (n := 3)).1 ?_
  refine callsIn_of_wp_marks Try.func44 rfl trivial ?_ rfl
  simp only [Try.ntmps44, List.size_toArray, List.length_cons, List.length_nil, Nat.reduceAdd, Nat.reduceSub, Array.replicate_succ, Array.replicate_zero, List.push_toArray, List.append_toArray, List.nil_append, List.cons_append]
  gi_wp2_with (refine ⟨trivial, ?_⟩; gi_at_call 57; refine (all_gives 2 _ _).mono ?_; rintro e w' ⟨rfl, rfl⟩)
  have bT := Boxed.new w 37 (.int .u64 (now : Nat))
  have bD := Boxed.new (w.alloc (.cells #[.int .u64 (now : Nat)] 37)) 79 (.slice none 0 0)
  rw [World.size_alloc] at bD
  have bN := Boxed.new ((w.alloc (.cells #[.int .u64 (now : Nat)] 37)).alloc (.cells #[.slice none 0 0] 79)) 67 (.pointer (some ⟨g, 0, none⟩))
  rw [World.size_alloc, World.size_alloc] at bN
  have hB0 : Below w.heap.size w (((w.alloc (.cells #[.int .u64 (now : Nat)] 37)).alloc (.cells #[.slice none 0 0] 79)).alloc (.cells #[.pointer (some ⟨g, 0, none⟩)] 67)) := (((Below.refl _ w).alloc (Nat.le_refl _) _).alloc (by simp) _).alloc (by simp; omega) _
  refine wpIn_rangeFunc_ownG rfl (by omega) (gf := 64) (lb := #[.pointer (some ⟨w.heap.size + 1 + 1, 0, none⟩)]) rfl trivial (enters_of Try.func64 (by kernel_rfl) rfl)
    (HN.out.stops 2 (by omega) (w.heap.size + 1 + 1) _ hB0 (by simp) bN.cell) kpw_t (kpw_b (by simp; omega)) (Below.refl _ _) (fun _ => rfl)
    (fun pre W => (Boxed W w.heap.size 37 (.int .u64 (now : Nat)) ∧ ∃ v, Boxed W (w.heap.size + 1) 79 v ∧ W.ownsRow w.heap.size 3 1 v (dueI now pre).length (valI (dueI now pre)) ∧ True) ∧ Below w.heap.size w W)
    (fun _ _ _ => False)
    (OwnFrom.and (OwnFrom.and (Own.from (boxed_own _ _ _) _) (Own.from (holdsRow_own w.heap.size (w.heap.size + 1) 79 3 1 (fun pre => (dueI now pre).length) (fun pre => valI (dueI now pre)) (fun _ _ => True)) _)) (ownFrom_below (Nat.le_refl _) (by simp; omega)))
    (fun _ _ _ _ _ hs _ _ => hs)
    ⟨⟨(bT.alloc _).alloc _, _, bD.alloc _, World.ownsRow_nil _ _ _ _, trivial⟩, hB0⟩
    (fun x => { tmps := #[.pointer (some ⟨g, 0, none⟩), .int .u64 (now : Nat), undef, .pointer (some ⟨w.heap.size, 0, none⟩), .slice none 0 0, .pointer (some ⟨w.heap.size + 1, 0, none⟩), .int .i64 x.id, .int .u64 (x.t : Nat), undef, undef, .pointer (some ⟨g, 0, none⟩), .func (.func 64) #[] #[.pointer (some ⟨w.heap.size + 1 + 1, 0, none⟩)], .int .i64 x.id, .int .u64 (x.t : Nat), undef, undef, undef, undef, undef, undef, undef, undef, undef, undef, undef, undef, undef, undef, undef, undef, undef, undef, undef, undef, undef, undef, undef], defers := [] }) ?assign ?body ?done ?stop
  case assign =>
    intro lp x W K hK
    gi_wp2
    exact hK
  case body =>
    rintro lp pre x W ⟨⟨b1, v, b2, hrow, _⟩, hB⟩ hlt
    have c1 := b1.cell
    have c2 := b2.cell
    have hpl := dueI_len now pre
    have HB1 := Lib.hid b1
    by_cases ht : x.t ≤ now
    · have d1 : decide ((x.t : Int) ≤ (now : Nat)) = true := by simp; omega
      have hne : 79 ≠ 3 := by decide
      gi_wp2_with (gi_at_builtin; refine wpListIn_append_own _ rfl _ _ 79 rfl w.heap.size 3 i0 (.int .i64 0) 1 8 Try.underlying79 hi hz0 hz1 hz2 rfl (by decide) _ _ _ rfl (hrow.alloc _) ⟨W.heap.size, 0, none⟩ 1 1 [.int .i64 x.id] rfl rfl (cell_one_new _ _ _) (by simp [Value.oneCell']) (by unfold maxLen; omega) (by omega) (by have := hB.size; simp; omega) ?_; intro v' w1 hown' hgrow _; obtain ⟨g', cap', rfl⟩ := ownsRow_succ hown'; obtain ⟨hv1, hv2, hr2, hk2, hb2⟩ := b2.appended hne hrow hB.size (by omega) hown' hgrow; have hc1 := hv1.cell; have hf1 := hv1.frozen)
      refine ⟨hk2.from _, ⟨hb2, hk2.walks⟩, ⟨?_, _, hv2, by rw [dueI_hit pre ht, valI_snoc]; simpa using hr2, trivial⟩, hB.trans hb2⟩
      exact ((HB1.out.alloc _).kept hgrow (HB1.out.not_row (by decide) hrow)).other (B' := w.heap.size + 1) (by omega) _
    · have d1 : decide ((x.t : Int) ≤ (now : Nat)) = false := by simp; omega
      gi_wp2
      exact ⟨KeepsFrom.refl _ _, kpw_refl _ _, ⟨HB1.out, v, b2, by rw [dueI_miss pre ht]; exact hrow, trivial⟩, hB⟩
  case done =>
    rintro D ys W hD hA ⟨⟨b1, v, b2, hrow, _⟩, hB⟩ hK
    obtain ⟨Av, cv, rfl⟩ := ownR_form hrow
    have hO := HW.out.ord
    have hpm := dueI_perm (now := now) hA hO
    have hlen : (dueI now ys).length = (dueL l now).length := by rw [hpm.length_eq, List.length_map]
    have hwf : ∀ i ∈ dueI now ys, (Lit.int .i64 i).wf = true := fun i hi => by
      obtain ⟨x, hx, rfl⟩ := List.mem_map.1 hi
      exact hA.wf x (List.mem_filter.1 hx).1
    have HSo := Lib.hid (HSS.out W g sb s n bm l (dueI now ys) Av cv w.heap.size (HW.out.low HW.out.isLow hB) HW.out.isLow hB.size (by omega) (dueI_nodup hA hO) hwf hrow)
    have HI := Lib.hid (And.intro hrow (And.intro b2 (And.intro hB (And.intro hK (And.intro hpm hwf)))))
    clear hA hpm hrow b1 b2 hB hwf
    generalize dueI now ys = ids at *
    rw [hlen] at HSo HI
    have c2 := HI.out.2.1.cell
    clear hlen
    have hDD : w.heap.size ≤ D := by simp at hD; omega
    clear hD
    generalize hm : (dueL l now).length = m at *
    have hml : m ≤ k := hl
    gi_wp2_with (refine ⟨trivial, ?_⟩; gi_at_call 58; with_reducible (refine (callsIn_wide.2 HSo.out).mono ?_); rintro e w2 ⟨rfl, ids', hp, hso, hrow2, hg2⟩; have c3 := (HI.out.2.1.kept hg2 (HI.out.2.1.not_row (by decide) HI.out.1)).cell)
    have hids : ids' = (dueL l now).map (·.id) := due_sorted hO (hp.trans HI.out.2.2.2.2.1) hso
    have hlen : ids'.length = m := by rw [hids, List.length_map, hm]
    have hnrow : ∀ r, (Value.slice Av m cv).ownBlock = some r → w.heap.size ≤ r := fun r e => (HI.out.1.lt r e).1
    have hW2 := (HW.out.low HW.out.isLow HI.out.2.2.1).keptBut hg2 (fun e => by have := hnrow _ e; have := HW.out.isLow.g; omega) (fun e => by have := hnrow _ e; have := HW.out.isLow.b; omega) (fun j hj e => by have := hnrow _ e; have := HW.out.isLow.m j hj; omega)
    have hF2 : Fw bm s w w2 := (Fw.bel HI.out.2.2.1).grown hg2 (fun r e => .inl (hnrow r e))
    have hb2 := HI.out.2.1.kept hg2 (HI.out.2.1.not_row (by decide) HI.out.1)
    have hK2 : w2.heap[D]? = some (.deferred (some [])) := (hg2.block D (heap_lt hK) (own_ne_def HI.out.1 hK rfl)).trans hK
    have hwf2 : ∀ i ∈ ids', (Lit.int .i64 i).wf = true := fun i hi => HI.out.2.2.2.2.2 i (hp.mem_iff.1 hi)
    have HS2 := Lib.hid (And.intro hW2 (And.intro hrow2 (And.intro hF2 (And.intro hb2 hK2))))
    clear hW2 hrow2 hF2 hb2 hK2 HI HSo hg2 hso hp hK
    have HE := Lib.hid hids
    clear hids
    gi_loopw [9, 27] (fun _ x wr => ∃ j : Nat, j ≤ m ∧ x = .int .i64 j ∧ Wl wr g sb s n bm (delAll l (ids'.take j)) ∧ wr.ownsRow w.heap.size 3 1 (.slice Av m cv) m (valI ids') ∧ Fw bm s w wr ∧ Boxed wr (w.heap.size + 1) 79 (.slice Av m cv) ∧ wr.heap[D]? = some (.deferred (some []))) (fun _ x _ => m - (intOf x).toNat)
    case atStart => exact ⟨0, Nat.zero_le _, rfl, HS2.out⟩
    case round =>
      clear HS2
      obtain ⟨j, hj, rfl, hWl, hrw, hF, hbx, hKr⟩ := hrel
      by_cases hlt : j < m
      · have d1 : decide ((j : Int) < (m : Nat)) = true := by simp; omega
        have hrw' := hrw
        rw [← hlen] at hrw'
        obtain ⟨A3, c3', e3, hN3⟩ := nsI_own hrw'
        cases e3
        obtain ⟨bb, off, rfl, hbb, hcb⟩ := hN3 j (by omega)
        have s0 : (0 : Int) ≤ (j : Nat) := by omega
        have s1 : (j : Int) < (m : Nat) := by omega
        have hwi := hwf2 ids'[j] (List.getElem_mem _)
        have hj2 := spk_lt hWl.pos ids'[j]
        have HC := Lib.hid (spoke_any ids'[j] hWl)
        have HM := Lib.hid (hWl.mp _ hj2)
        have hsn : ids'.take (j + 1) = ids'.take j ++ [ids'[j]] := by rw [List.take_add_one, List.getElem?_eq_getElem (by omega)]; rfl
        have HT := Lib.hid (show ∀ w4, wr.grownBy w4 (some (bm (spk s ids'[j]))) → Mq w4 (bm (spk s ids'[j])) n (delL ((delAll l (ids'.take j)).filter fun x => spk s x.id == spk s ids'[j]) ids'[j]) → Wl w4 g sb s n bm (delAll l (ids'.take (j + 1))) ∧ w4.ownsRow w.heap.size 3 1 (.slice (some ⟨bb, off, none⟩) m cv) m (valI ids') ∧ Fw bm s w w4 ∧ Boxed w4 (w.heap.size + 1) 79 (.slice (some ⟨bb, off, none⟩) m cv) ∧ w4.heap[D]? = some (.deferred (some [])) from fun w4 hg4 hm4 => by
          have hbl := HW.out.isLow.m _ hj2
          refine ⟨?_, hrw.kept hg4 (.inr fun e => ?_), hF.grown hg4 (fun q e => by cases e; exact .inr ⟨_, hj2, rfl⟩), hbx.kept hg4 (fun e => by have := Option.some.inj e; omega), (hg4.block D (heap_lt hKr) (fun e => by have := Option.some.inj e; omega)).trans hKr⟩
          · rw [hsn, delAll_snoc]
            exact hWl.step hj2 hg4 (delL_ord hWl.ord _) (by rw [part_del _ (fun i => spk s i == spk s ids'[j]) ids'[j]]; exact hm4) (fun i hi hne => part_del_other (p := fun x => spk s x == i) (by simp; omega)) (Nat.le_refl n)
          · have := (hrw.lt _ e).1
            omega)
        clear hWl hrw hrw' hF hbx hKr hN3 hsn
        generalize ids'[j] = id at *
        generalize spk s id = jj at *
        generalize ((delAll l (ids'.take j)).filter fun x => spk s x.id == jj) = lj at *
        gi_wp2_with (first
          | (refine ⟨trivial, ?_⟩; gi_at_call 60; with_reducible (refine (callsIn_wide.2 HC.out).mono ?_); rintro e w3 ⟨rfl, q, rfl⟩)
          | (gi_at_delete; refine wpListIn_mp_del rfl _ _ _ rfl keyedI Try.underlying99 Try.underlying3 id rfl (HM.out.drewN _) rfl hwi ?_; intro w4 hm4 ht4)
          | gi_in)
        have HT4 := Lib.hid (HT.out w4 ⟨ht4.grown.os, ht4.grown.tape, ht4.grown.output, ht4.grown.size, ht4.grown.block⟩ hm4)
        clear hm4 ht4
        go_roundw
        case rel => exact ⟨j + 1, hlt, by go_num, HT4.out⟩
        case measure => simp [intOf]; omega
      · have e : j = m := by omega
        subst e
        have d1 : decide ((j : Int) < (j : Nat)) = false := by simp
        have c4 := hbx.cell
        rw [← hlen, List.take_length, HE.out, delAll_due hO] at hWl
        rw [HE.out] at hrw
        have hrp := ownsRow_putObj hrw (.deferred none) hKr rfl
        have hlm : ((dueL l now).map (·.id)).length = j := by rw [List.length_map, hm]
        have hNf : NsI (wr.putObj D (.deferred none)) Av ((dueL l now).map (·.id)) := by
          rw [← hlm] at hrp
          obtain ⟨A3, c3', e3, hN3⟩ := nsI_own hrp
          cases e3
          exact hN3
        have hWf := hWl.low HW.out.isLow (belowK_b (n₀ := w.heap.size) (w := w) (Nat.le_refl _) wr D _ (.deferred none) hDD hKr rfl rfl)
        have hFf := hF.grown (grownBy_putObj' wr D (.deferred none)) (fun q e => by cases e; exact .inl hDD)
        have hNw : ∀ b off, Av = some ⟨b, off, none⟩ → w.heap.size ≤ b := fun b off e => (hrp.lt b (by rw [e]; rfl)).1
        have HF := Lib.hid (And.intro hNf (And.intro hNw (And.intro hWf hFf)))
        clear hrw hrp hNf hNw hWf hFf hWl hF hbx hlm
        gi_wp2
        refine ⟨by simp, .inl ⟨_, _, rfl, run_takeDeferred hKr, ?_⟩⟩
        exact ⟨_, results_tmp rfl _ _ _, Av, cv, by rw [hm]; rfl, HF.out⟩
  case stop =>
    rintro D c pre W _ _ h _
    exact h.elim
end Go.Proofs.Ytjjanogfcfapcaa.W
