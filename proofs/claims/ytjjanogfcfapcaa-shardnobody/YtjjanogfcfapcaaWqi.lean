/- The walk of pdqsortCmpFunc. -/
import Derived.Test.YtjjanogfcfapcaaWqc
import Derived.Test.YtjjanogfcfapcaaWqe
import Derived.Test.YtjjanogfcfapcaaWqf
import Derived.Test.YtjjanogfcfapcaaWqg
import Derived.Test.YtjjanogfcfapcaaWqh
import Derived.Sort.Walk13a
namespace Go.Proofs.Ytjjanogfcfapcaa.W
open Go.RowKit Go.Shelf Go.Sort
open Go.Proofs (SW Row1 ltOf)
set_option linter.unusedVariables false
/-- A round of the sort, by letters. -/
theorem rd_lay {lt : Ik → Ik → Bool} (h : SWO lt) {d : Array Ik} {a b lim : Nat} {wb wp : Bool} (h12 : ¬ b - a ≤ 12) (hl : ¬ lim = 0) (hb : b ≤ d.size) (hB : Below lt a b d) :
    ∃ (l1 : Nat) (e1 : Array Ik) (cp : Nat) (ch : Hint) (e2 : Array Ik) (pv : Nat) (ht : Hint) (e3 : Array Ik) (pb : Bool),
      (wb = false → breakPatterns d a b = e1 ∧ lim - 1 = l1) ∧ (wb = true → d = e1 ∧ lim = l1) ∧ choosePivot lt e1 a b = (cp, ch) ∧
      (ch = .decreasing → reverseRange e1 a b = e2 ∧ (b - 1) - (cp - a) = pv ∧ ht = .increasing) ∧ (ch ≠ .decreasing → e1 = e2 ∧ cp = pv ∧ ht = ch) ∧
      ((wb && wp && decide (ht = .increasing)) = true → partialInsertionSort lt e2 a b = (e3, pb)) ∧ ((wb && wp && decide (ht = .increasing)) = false → e2 = e3 ∧ pb = false) ∧
      e1.size = d.size ∧ (a ≤ cp ∧ cp < b) ∧ e2.size = d.size ∧ (a ≤ pv ∧ pv < b) ∧ e3.size = d.size ∧ l1 ≤ lim ∧
      (pb = true → pdq lt d a b lim wb wp = e3) ∧
      (pb = false → 0 < a → lt e3[a - 1]! e3[pv]! = false → ∃ mid d4, partitionEqual lt e3 a b pv = (mid, d4) ∧ a < mid ∧ mid ≤ b ∧ Below lt mid b d4 ∧ pdq lt d4 mid b l1 wb wp = pdq lt d a b lim wb wp) ∧
      (pb = false → (0 < a → lt e3[a - 1]! e3[pv]! = true) → ∃ mid ap d4, partition lt e3 a b pv = (mid, ap, d4) ∧ a ≤ mid ∧ mid < b ∧ Below lt a mid d4 ∧ Below lt (mid + 1) b d4 ∧
        (mid - a < b - mid → ∃ dL, pdq lt d4 a mid l1 true true = dL ∧ dL.size = d.size ∧ Below lt (mid + 1) b dL ∧ pdq lt dL (mid + 1) b l1 (decide ((b - a) / 8 ≤ mid - a)) ap = pdq lt d a b lim wb wp) ∧
        (¬ mid - a < b - mid → ∃ dL, pdq lt d4 (mid + 1) b l1 true true = dL ∧ dL.size = d.size ∧ Below lt a mid dL ∧ pdq lt dL a mid l1 (decide ((b - a) / 8 ≤ b - mid)) ap = pdq lt d a b lim wb wp)) := by
  obtain ⟨s1, B1, hc1, s2, B2, hpv, s3, B3⟩ := rd_facts (limit := lim) (wb := wb) (wp := wp) h partialInsertionSort_holds reverseRange_holds (show a < b by omega) hb hB
  refine ⟨(rd lt d a b lim wb wp).lim, (rd lt d a b lim wb wp).d1, (rd lt d a b lim wb wp).c.1, (rd lt d a b lim wb wp).c.2, (rd lt d a b lim wb wp).d2, (rd lt d a b lim wb wp).pivot, (rd lt d a b lim wb wp).hint, (rd lt d a b lim wb wp).pi.1, (rd lt d a b lim wb wp).pi.2,
    ?_, ?_, rfl, ?_, ?_, ?_, ?_, s1, hc1, s2, hpv, s3, rd_lim_le, ?_, ?_, ?_⟩
  · rintro rfl; exact ⟨rfl, rfl⟩
  · rintro rfl; exact ⟨rfl, rfl⟩
  · intro hh; obtain ⟨x, y, z⟩ := rd_dec hh; exact ⟨x.symm, y.symm, z⟩
  · intro hh; obtain ⟨x, y, z⟩ := rd_not hh; exact ⟨x.symm, y.symm, z⟩
  · intro hh; rw [rd_pi_yes hh]
  · intro hh; rw [rd_pi_no hh]; exact ⟨rfl, rfl⟩
  · exact fun hh => pdq_done h12 hl hh
  · intro hh ha hlt
    obtain ⟨mid, d4, hx⟩ : ∃ mid d4, partitionEqual lt (rd lt d a b lim wb wp).pi.1 a b (rd lt d a b lim wb wp).pivot = (mid, d4) := ⟨(partitionEqual lt (rd lt d a b lim wb wp).pi.1 a b (rd lt d a b lim wb wp).pivot).1, (partitionEqual lt (rd lt d a b lim wb wp).pi.1 a b (rd lt d a b lim wb wp).pivot).2, rfl⟩
    obtain ⟨r1, r2, r3, r4, _⟩ := round_eq h (partitionEqual_holds lt) ha hpv.1 hpv.2 (by rw [s3]; exact hb) B3 hlt hx
    have q := pdq_eq h12 hl hh (by rw [hlt]; simp [ha]) (by rw [hx]; exact ⟨r1, r2⟩)
    rw [hx] at q
    exact ⟨mid, d4, hx, r1, r2, r4, q.symm⟩
  · intro hh hlt
    have h2 : (decide (a > 0) && !lt (rd lt d a b lim wb wp).pi.1[a - 1]! (rd lt d a b lim wb wp).pi.1[(rd lt d a b lim wb wp).pivot]!) = false := by
      rcases Nat.eq_zero_or_pos a with h0 | h0
      · simp [h0]
      · rw [hlt h0]; simp
    obtain ⟨mid, ap, d4, hx⟩ : ∃ mid ap d4, partition lt (rd lt d a b lim wb wp).pi.1 a b (rd lt d a b lim wb wp).pivot = (mid, ap, d4) := ⟨(partition lt (rd lt d a b lim wb wp).pi.1 a b (rd lt d a b lim wb wp).pivot).1, (partition lt (rd lt d a b lim wb wp).pi.1 a b (rd lt d a b lim wb wp).pivot).2.1, (partition lt (rd lt d a b lim wb wp).pi.1 a b (rd lt d a b lim wb wp).pivot).2.2, rfl⟩
    obtain ⟨r1, r2, r3, r4, r5, r6, r7⟩ := round_part h (partition_holds lt) hpv.1 hpv.2 (by rw [s3]; exact hb) B3 hx
    refine ⟨mid, ap, d4, hx, r1, r2, r4, r5, fun h4 => ?_, fun h4 => ?_⟩
    · obtain ⟨pL, sL⟩ := pdq_sorts lt h d4 a mid (rd lt d a b lim wb wp).lim true true r1 (by omega) r4
      have q := pdq_left h12 hl hh h2 (by rw [hx]; exact ⟨r1, r2⟩) (by rw [hx]; exact h4)
      rw [hx] at q
      exact ⟨_, rfl, by rw [pL.1, r3, s3], (r6 _ pL sL).1, q.symm⟩
    · obtain ⟨pL, sL⟩ := pdq_sorts lt h d4 (mid + 1) b (rd lt d a b lim wb wp).lim true true (by omega) (by omega) r5
      have q := pdq_right h12 hl hh h2 (by rw [hx]; exact ⟨r1, r2⟩) (by rw [hx]; exact h4)
      rw [hx] at q
      exact ⟨_, rfl, by rw [pL.1, r3, s3], (r7 _ pL sL).1, q.symm⟩
variable {cf : Ik → Ik → Int} {g blk off n : Nat} {w0 W : World} {d0 dk : Array Ik}
theorem hintI_dec {h : Hint} (e : h = .decreasing) : hintI h = 2 := by rw [e]; rfl
theorem hintI_not {h : Hint} (e : h ≠ .decreasing) : decide (hintI h = 2) = false := by cases h <;> simp_all [hintI]
theorem hintI_inc (h : Hint) : decide (hintI h = 1) = decide (h = .increasing) := by cases h <;> simp [hintI]
set_option maxRecDepth 1000000 in
set_option maxHeartbeats 30000000 in
theorem pdq_s (HC : CmpB cf g blk off n w0) (R : Row1 eK w0 blk off d0) (h0 : d0.size = n) (hn : n ≤ 100000) (hO : SWO (ltOf cf)) (cap : Nat) : ∀ (N a b limit : Nat) (d : Array Ik) (w : World), b - a < N → d.size = n → SW eK w0 blk off d w → a ≤ b → b ≤ n → limit ≤ 100000 → Below (ltOf cf) a b d →
    Calls Try.prog 65 #[.slice (some ⟨blk, off, none⟩) n cap, .int .i64 (a : Nat), .int .i64 (b : Nat), .int .i64 (limit : Nat), fvB g] w fun e w' => e = .returned (.tuple #[]) ∧ SW eK w0 blk off (pdq (ltOf cf) d a b limit true true) w' := by
  intro N
  induction N with
  | zero => intro _ _ _ _ _ h; exact absurd h (Nat.not_lt_zero _)
  | succ N ih =>
    intro a b limit d w hN hs S hab hb hlimit hBel
    obtain ⟨R0, hR0⟩ : ∃ x, pdq (ltOf cf) d a b limit true true = x := ⟨_, rfl⟩
    rw [hR0]
    have mixed : Try.prog.follows .mixedOrders = true := by kernel_rfl
    have hcl0 := eK_one.cells
    simp only [Value.cells] at hcl0
    have hst := eK_one.store Try.prog
    have HH := Lib.hid HC
    have RR := Lib.hid R
    have S0 := Lib.hid (And.intro hs S)
    have H0 := Lib.hid h0
    have IH := Lib.hid ih
    have OO := Lib.hid hO
    have HR0 := Lib.hid hR0
    have BB := Lib.hid hBel
    clear HC R hs S h0 ih hO hR0 hBel
    go_enter Try.func65, Try.ntmps65
    go_wp2_with fail
    go_loopw [1, 2, 3, 10, 11] (fun s1 s2 s3 s10 s11 wr => ∃ (x y lim : Nat) (wb wp : Bool) (dk : Array Ik), s1 = .int .i64 x ∧ s2 = .int .i64 y ∧ s3 = .int .i64 lim ∧ s10 = .bool wb ∧ s11 = .bool wp ∧ x ≤ y ∧ y ≤ n ∧ y - x ≤ b - a ∧ lim ≤ 100000 ∧ Below (ltOf cf) x y dk ∧ (dk.size = n ∧ SW eK w0 blk off dk wr) ∧ pdq (ltOf cf) dk x y lim wb wp = R0) (fun s1 s2 _ _ _ _ => (intOf s2 - intOf s1).toNat)
    case atStart => exact ⟨a, b, limit, true, true, d, rfl, rfl, rfl, rfl, rfl, hab, hb, Nat.le_refl _, hlimit, BB.out, S0.out, HR0.out⟩
    case round =>
      clear S0 HR0 BB
      obtain ⟨x, y, lim, wb, wp, dk, rfl, rfl, rfl, rfl, rfl, hxy, hyn, hkN, hlim, hBk, hS, ho⟩ := hrel
      have HS := Lib.hid hS
      have HO := Lib.hid ho
      have BK := Lib.hid hBk
      clear hS ho hBk
      obtain ⟨m, hm⟩ : ∃ z, y - x = z := ⟨_, rfl⟩
      have em : (y : Int) - (x : Nat) = (m : Nat) := by omega
      by_cases h12 : m ≤ 12
      · have d1 : decide ((m : Int) ≤ 12) = true := by simp; omega
        have hc := ins_s HH.out RR.out H0.out hn cap x y dk wr HS.out.1 HS.out.2 hxy hyn
        rw [show insertionSort (ltOf cf) dk x y = R0 from by rw [← HO.out]; exact (pdq_small (by omega)).symm] at hc
        go_wp2_with (go_at_call 70; with_reducible (refine hc.mono ?_); rintro e w1 ⟨rfl, hq⟩)
        (try simp only [Exit.inBlock, Exit.then]); refine bodyPost_ret (results_none rfl _ _ _) rfl ?_
        exact ⟨rfl, hq⟩
      · have d1 : decide ((m : Int) ≤ 12) = false := by simp; omega
        by_cases hl0 : lim = 0
        · subst hl0
          have hc := heap_s HH.out RR.out H0.out hn cap x y dk wr HS.out.1 HS.out.2 hxy hyn
          rw [show heapSort (ltOf cf) dk x y = R0 from by rw [← HO.out]; exact (pdq_heap (by omega) rfl).symm] at hc
          go_wp2_with (go_at_call 71; with_reducible (refine hc.mono ?_); rintro e w1 ⟨rfl, hq⟩)
          (try simp only [Exit.inBlock, Exit.then]); refine bodyPost_ret (results_none rfl _ _ _) rfl ?_
          exact ⟨rfl, hq⟩
        · have d2 : ((lim : Int) == 0) = false := by simp; omega
          have d20 : decide ((lim : Int) = 0) = false := by simp; omega
          obtain ⟨l1, e1, cp, ch, e2, pv, ht, e3, pb, k1, k2, k3, k4, k5, k6, k7, s1, ⟨hcp1, hcp2⟩, s2, ⟨hpv1, hpv2⟩, s3, hl1, k8, k9, k10⟩ := rd_lay (lim := lim) (wb := wb) (wp := wp) OO.out (show ¬ y - x ≤ 12 by omega) hl0 (by rw [HS.out.1]; exact hyn) BK.out
          rw [HS.out.1] at s1 s2 s3
          rw [HO.out] at k8 k9 k10
          rw [HS.out.1] at k10
          have K1 := Lib.hid k1
          have K2 := Lib.hid k2
          have K3 := Lib.hid k3
          have K4 := Lib.hid k4
          have K5 := Lib.hid k5
          have K6 := Lib.hid k6
          have K7 := Lib.hid k7
          have K8 := Lib.hid k8
          have K9 := Lib.hid k9
          have K10 := Lib.hid k10
          have Z1 := Lib.hid s1
          have Z2 := Lib.hid s2
          have Z3 := Lib.hid s3
          clear k1 k2 k3 k4 k5 k6 k7 k8 k9 k10 s1 s2 s3 HO BK
          go_upto_if 39 with fail
          go_cut [3] (fun s3 wx => s3 = .int .i64 (l1 : Nat) ∧ (e1.size = n ∧ SW eK w0 blk off e1 wx))
          case first =>
            cases wb with
            | false =>
              have hc := brk_s (fvB g) RR.out H0.out hn cap x y dk wr HS.out.1 HS.out.2 hxy hyn (by omega)
              obtain ⟨q1, q2⟩ := K1.out rfl
              rw [q1] at hc
              have el : ((lim : Nat) : Int) - 1 = (l1 : Nat) := by omega
              have ewl : IntKind.i64.wrap (l1 : Nat) = (l1 : Nat) := by rw [wrapI] <;> omega
              clear K1 K2 q1 HS
              go_wp2_with (go_at_call 72; with_reducible (refine hc.mono ?_); rintro e w1 ⟨rfl, hq1, hq2⟩)
              go_meet
              case rel => exact ⟨by first | rfl | go_num, hq1, hq2⟩
            | true =>
              obtain ⟨q1, q2⟩ := K2.out rfl
              subst q2
              subst q1
              have HS2 := HS
              clear K1 K2 HS
              go_wp2_with fail
              go_meet
              case rel => exact ⟨rfl, HS2.out⟩
          case rest =>
            clear HS K1 K2
            obtain ⟨rfl, hS⟩ := hcut
            have HS := Lib.hid hS
            clear hS
            have hc := piv_s HH.out RR.out H0.out hn cap x y e1 wc HS.out.1 HS.out.2 (by omega) hyn
            rw [K3.out] at hc
            clear K3
            go_upto_if 56 with (go_at_call 73; with_reducible (refine hc.mono ?_); rintro e w2 ⟨rfl, hq⟩)
            have HQ := Lib.hid (And.intro HS.out.1 hq)
            clear hq HS
            go_cut [13, 14] (fun s13 s14 wx => s13 = .int .i64 (pv : Nat) ∧ s14 = .int .i64 (hintI ht) ∧ (e2.size = n ∧ SW eK w0 blk off e2 wx))
            case first =>
              by_cases hh : ch = .decreasing
              · obtain ⟨q1, q2, q3⟩ := K4.out hh
                have dh := hintI_dec hh
                have hc := rev_s (fvB g) RR.out H0.out hn cap x y e1 w2 HQ.out.1 HQ.out.2 (by omega) hyn
                rw [q1] at hc
                subst q3
                clear K4 K5 q1 hh HQ
                rw [dh]
                have ep : ((y : Nat) : Int) - 1 - ((cp : Nat) - (x : Nat)) = (pv : Nat) := by omega
                have ew1 : IntKind.i64.wrap (((y : Nat) : Int) - 1) = ((y : Nat) : Int) - 1 := by rw [wrapI] <;> omega
                have ew2 : IntKind.i64.wrap (((cp : Nat) : Int) - (x : Nat)) = ((cp : Nat) : Int) - (x : Nat) := by rw [wrapI] <;> omega
                have ew3 : IntKind.i64.wrap (pv : Nat) = (pv : Nat) := by rw [wrapI] <;> omega
                go_wp2_with (go_at_call 74; with_reducible (refine hc.mono ?_); rintro e w1 ⟨rfl, hq⟩)
                go_meet
                case rel => exact ⟨by first | rfl | go_num, rfl, Z2.out, hq⟩
              · obtain ⟨q1, q2, q3⟩ := K5.out hh
                have dh := hintI_not hh
                subst q2 q3
                subst q1
                have HQ2 := HQ
                clear K4 K5 hh HQ
                generalize hintI ht = hv at *
                have dh2 : (hv == 2) = false := by simpa using dh
                first | rw [dh2] | rw [dh] | skip
                go_wp2_with fail
                go_meet
                case rel => exact ⟨rfl, rfl, HQ2.out⟩
            case rest =>
              clear HQ K4 K5
              obtain ⟨rfl, rfl, hS⟩ := hcut
              have HS := Lib.hid hS
              clear hS
              go_upto_region 15 with fail
              go_cut [75] (fun s75 wx => s75 = .bool (wb && wp && decide (ht = .increasing)) ∧ (e2.size = n ∧ SW eK w0 blk off e2 wx))
              case first =>
                have di := hintI_inc ht
                clear K6 K7 K8 K9 K10 Z1 Z2 Z3
                generalize decide (ht = .increasing) = hb at *
                generalize hintI ht = hv at *
                cases wb <;> cases wp <;> cases hb <;> (go_wp2_with fail; go_meet; case rel => exact ⟨by first | rfl | trivial | (congr 1; done) | (congr 1; simpa using di), HS.out⟩)
              case rest =>
                clear HS
                obtain ⟨rfl, hS⟩ := hcut
                have HS := Lib.hid hS
                clear hS
                go_upto_if 75 with fail
                go_cut [] (fun wx => pb = false ∧ (e3.size = n ∧ SW eK w0 blk off e3 wx))
                case first =>
                  cases h75 : (wb && wp && decide (ht = .increasing)) with
                  | true =>
                    have hc := pin_s HH.out RR.out H0.out hn cap x y e2 wc HS.out.1 HS.out.2 (by omega) hyn
                    rw [K6.out h75] at hc
                    have K8' := Lib.hid K8.out
                    clear K6 K7 K8 K9 K10 HS
                    cases pb with
                    | true =>
                      have HR8 := Lib.hid (K8'.out rfl)
                      clear K8'
                      go_wp2_with (go_at_call 75; with_reducible (refine hc.mono ?_); rintro e w1 ⟨rfl, hz, hq⟩)
                      (try simp only [Exit.inBlock, Exit.then]); refine bodyPost_ret (results_none rfl _ _ _) rfl ?_
                      exact ⟨rfl, by rw [HR8.out]; exact hq⟩
                    | false =>
                      clear K8'
                      go_wp2_with (go_at_call 75; with_reducible (refine hc.mono ?_); rintro e w1 ⟨rfl, hz, hq⟩)
                      go_meet
                      case rel => exact ⟨by first | rfl | trivial, hz, hq⟩
                  | false =>
                    obtain ⟨q1, q2⟩ := K7.out h75
                    subst q1
                    clear K6 K7 K8 K9 K10
                    go_wp2_with fail
                    go_meet
                    case rel => exact ⟨by first | exact q2 | trivial, HS.out⟩
                case rest =>
                  clear HS
                  obtain ⟨hpb, hS⟩ := hcut
                  have HS := Lib.hid hS
                  clear hS
                  have K9' := Lib.hid (K9.out hpb)
                  have K10' := Lib.hid (K10.out hpb)
                  clear K9 K10 K8 K6 K7 Z1 Z2
                  obtain ⟨bq, hbq⟩ : ∃ z, (decide (0 < x) && !(ltOf cf) e3[x - 1]! e3[pv]!) = z := ⟨_, rfl⟩
                  have BQ := Lib.hid hbq
                  clear hbq
                  go_upto_region 17 with fail
                  go_cut [97] (fun s97 wx => s97 = .bool bq ∧ (e3.size = n ∧ SW eK w0 blk off e3 wx))
                  case first =>
                    obtain ⟨xp, hxp⟩ : ∃ z, x - 1 = z := ⟨_, rfl⟩
                    rw [hxp] at BQ
                    clear K9' K10'
                    have szpv : (0 : Int) ≤ (pv : Nat) := by omega
                    have snpv : ((pv : Nat) : Int) < (n : Nat) := by omega
                    have szxp : (0 : Int) ≤ (xp : Nat) := by omega
                    have snxp : ((xp : Nat) : Int) < (n : Nat) := by omega
                    obtain ⟨la, lb⟩ := two_cells RR.out H0.out HS.out.1 HS.out.2 xp pv (by omega) (by omega)
                    have hc := HH.out.at HS.out.2 HS.out.1 e3[xp]! e3[pv]!
                    have SG := Lib.hid (fun q os => And.intro HS.out.1 (HS.out.2.grown q os))
                    by_cases hx0 : 0 < x
                    · have d5 : decide ((0 : Int) < (x : Nat)) = true := by simp; omega
                      have d6 : decide (((x : Nat) : Int) > 0) = true := by simp; omega
                      have ep : ((x : Nat) : Int) - 1 = (xp : Nat) := by omega
                      have ewp : IntKind.i64.wrap (xp : Nat) = (xp : Nat) := by rw [wrapI] <;> omega
                      have ewp2 : IntKind.i64.wrap (((x : Nat) : Int) - 1) = (xp : Nat) := by rw [ep]; exact ewp
                      cases hlv : (ltOf cf) e3[xp]! e3[pv]! with
                      | true =>
                        have hd := lt_true hlv
                        have HB := Lib.hid (show bq = false from by rw [← BQ.out, hlv]; simp)
                        clear hlv HS BQ
                        generalize e3[xp]! = xa at la hc hd
                        generalize e3[pv]! = xb at lb hc hd
                        go_quiet_grown (first | (go_at_call 59; exact hc _ _))
                        have S2 := Lib.hid (SG.out nq osq)
                        clear la lb hc SG hd
                        generalize grow (wc.drewN nq) osq = w2 at *
                        go_wp2_with fail
                        go_meet
                        case rel => exact ⟨by rw [HB.out], S2.out⟩
                      | false =>
                        have hd := lt_false hlv
                        have HB := Lib.hid (show bq = true from by rw [← BQ.out, hlv]; simp [hx0])
                        clear hlv HS BQ
                        generalize e3[xp]! = xa at la hc hd
                        generalize e3[pv]! = xb at lb hc hd
                        go_quiet_grown (first | (go_at_call 59; exact hc _ _))
                        have S2 := Lib.hid (SG.out nq osq)
                        clear la lb hc SG hd
                        generalize grow (wc.drewN nq) osq = w2 at *
                        go_wp2_with fail
                        go_meet
                        case rel => exact ⟨by rw [HB.out], S2.out⟩
                    · have d5 : decide ((0 : Int) < (x : Nat)) = false := by simp; omega
                      have d6 : decide (((x : Nat) : Int) > 0) = false := by simp; omega
                      have HB := Lib.hid (show bq = false from by rw [← BQ.out]; simp [hx0])
                      have S2 := Lib.hid (And.intro HS.out.1 HS.out.2.drew)
                      clear HS BQ la lb hc SG
                      first | (go_region) | fail
                      go_wp2_with fail
                      go_meet
                      case rel => exact ⟨by rw [HB.out], S2.out⟩
                  case rest =>
                    clear HS
                    obtain ⟨rfl, hS⟩ := hcut
                    have HS := Lib.hid hS
                    clear hS
                    cases bq with
                    | true =>
                      have hb2 := BQ.out
                      simp only [Bool.and_eq_true, decide_eq_true_eq, Bool.not_eq_true'] at hb2
                      obtain ⟨mid, d4, hx, r1, r2, r3, r4⟩ := K9'.out hb2.1 hb2.2
                      have hc := peq_s HH.out RR.out H0.out hn cap x y pv e3 wc HS.out.1 HS.out.2 hpv1 hpv2 hyn
                      rw [hx] at hc
                      have X3 := Lib.hid r3
                      have X4 := Lib.hid r4
                      clear K9' K10' hx r3 r4 HS BQ hb2
                      go_wp2_with (go_at_call 76; with_reducible (refine hc.mono ?_); rintro e w1 ⟨rfl, hz, hq⟩)
                      go_roundw
                      case rel => exact ⟨mid, y, l1, wb, wp, d4, rfl, rfl, rfl, rfl, rfl, r2, hyn, by omega, by omega, X3.out, ⟨hz, hq⟩, X4.out⟩
                      case measure => simp [intOf]; omega
                    | false =>
                      obtain ⟨mid, ap, d4, hx, r1, r2, r3, r4, r5, r6⟩ := K10'.out (fun h0 => by
                        have := BQ.out
                        cases hq : (ltOf cf) e3[x - 1]! e3[pv]! with
                        | true => rfl
                        | false => rw [hq] at this; simp [h0] at this)
                      have hc := par_s HH.out RR.out H0.out hn cap x y pv e3 wc HS.out.1 HS.out.2 hpv1 hpv2 hyn
                      rw [hx] at hc
                      have X3 := Lib.hid r3
                      have X4 := Lib.hid r4
                      have X5 := Lib.hid r5
                      have X6 := Lib.hid r6
                      clear K9' K10' hx r3 r4 r5 r6 HS BQ
                      obtain ⟨q8, hq8⟩ : ∃ z, m / 8 = z := ⟨_, rfl⟩
                      have eq8 : ((m : Nat) : Int).tdiv 8 = (q8 : Nat) := by rw [Int.tdiv_eq_ediv_of_nonneg (by omega)]; omega
                      have eq82 : ((m : Nat) : Int) / 8 = (q8 : Nat) := by omega
                      obtain ⟨ll, hll⟩ : ∃ z, mid - x = z := ⟨_, rfl⟩
                      obtain ⟨lr, hlr⟩ : ∃ z, y - mid = z := ⟨_, rfl⟩
                      have ell : ((mid : Nat) : Int) - (x : Nat) = (ll : Nat) := by omega
                      have elr : ((y : Nat) : Int) - (mid : Nat) = (lr : Nat) := by omega
                      rw [hll, hlr, hm, hq8] at X5 X6
                      by_cases h4 : ll < lr
                      · have d5 : decide ((ll : Int) < (lr : Nat)) = true := by simp; omega
                        obtain ⟨dL, hL, zL, bL, oL⟩ := X5.out h4
                        have IH2 := Lib.hid (fun W hz hq => IH.out x mid l1 d4 W (by omega) hz hq r1 (by omega) (by omega) X3.out)
                        rw [hL] at IH2
                        have B2 := Lib.hid bL
                        have O2 := Lib.hid oL
                        clear X3 X4 X5 X6 hL bL oL
                        go_upto_if 125 with (go_at_call 77; with_reducible (refine hc.mono ?_); rintro e w1 ⟨rfl, hz, hq⟩)
                        have hc2 := IH2.out w1 hz hq
                        clear hc IH2
                        go_wp2_with (go_at_call 65; with_reducible (refine hc2.mono ?_); rintro e w2 ⟨rfl, hq2⟩)
                        go_roundw
                        case rel => exact ⟨mid + 1, y, l1, decide (q8 ≤ ll), ap, dL, by first | rfl | go_num, rfl, rfl, by first | rfl | (congr 1; exact decide_eq_decide.2 (by omega)), rfl, by omega, hyn, by omega, by omega, B2.out, ⟨zL, hq2⟩, O2.out⟩
                        case measure => simp [intOf]; omega
                      · have d5 : decide ((ll : Int) < (lr : Nat)) = false := by simp; omega
                        obtain ⟨dL, hL, zL, bL, oL⟩ := X6.out h4
                        obtain ⟨mp, hmp⟩ : ∃ z, mid + 1 = z := ⟨_, rfl⟩
                        have emp : ((mid : Nat) : Int) + 1 = (mp : Nat) := by omega
                        have ewmp : IntKind.i64.wrap (mp : Nat) = (mp : Nat) := by rw [wrapI] <;> omega
                        rw [hmp] at hL
                        have IH2 := Lib.hid (fun W hz hq => IH.out mp y l1 d4 W (by omega) hz hq (by omega) (by omega) (by omega) (hmp ▸ X4.out))
                        rw [hL] at IH2
                        have B2 := Lib.hid bL
                        have O2 := Lib.hid oL
                        clear X3 X4 X5 X6 hL bL oL
                        go_upto_if 125 with (go_at_call 77; with_reducible (refine hc.mono ?_); rintro e w1 ⟨rfl, hz, hq⟩)
                        have hc2 := IH2.out w1 hz hq
                        clear hc IH2
                        go_wp2_with (go_at_call 65; with_reducible (refine hc2.mono ?_); rintro e w2 ⟨rfl, hq2⟩)
                        go_roundw
                        case rel => exact ⟨x, mid, l1, decide (q8 ≤ lr), ap, dL, by first | rfl | go_num, rfl, rfl, by first | rfl | (congr 1; exact decide_eq_decide.2 (by omega)), rfl, r1, by omega, by omega, by omega, B2.out, ⟨zL, hq2⟩, O2.out⟩
                        case measure => simp [intOf]; omega
end Go.Proofs.Ytjjanogfcfapcaa.W
