/- Joined texts: Wqh. -/
import Derived.Test.YtjjanogfcfapcaaBwb
import Derived.Deep.CutBlock
import Derived.Deep.DeepCutAuto

/- The walk of partialInsertionSortCmpFunc (written by tools/gen_wq.py). -/
namespace Go.Proofs.Ytjjanogfcfapcaa.W
open Go.RowKit Go.Shelf Go.Sort
open Go.Proofs (SW Row1 ltOf)
set_option linter.unusedVariables false
variable {cf : Ik → Ik → Int} {g blk off n : Nat} {w0 W : World} {d0 dk : Array Ik}
theorem ss_go {b ii pp : Nat} (hle : ii < b) (hpp : ii - 1 = pp) (h : (ltOf cf) dk[ii]! dk[pp]! = false) : scanSorted (ltOf cf) dk b ii = scanSorted (ltOf cf) dk b (ii + 1) := by
  subst hpp
  rw [scanSorted, if_pos (by simp [hle, h])]
theorem ss_end {b ii pp : Nat} (hpp : ii - 1 = pp) (h : ¬ ii < b ∨ (ltOf cf) dk[ii]! dk[pp]! = true) : scanSorted (ltOf cf) dk b ii = ii := by
  subst hpp
  rw [scanSorted, if_neg (by rcases h with h | h <;> simp [h])]
theorem sdn_go {p : Nat} (h : (ltOf cf) dk[p + 1]! dk[p]! = true) : shiftDown (ltOf cf) (p + 1) dk = shiftDown (ltOf cf) p (swp dk (p + 1) p) := by
  rw [shiftDown, h]; rfl
theorem sdn_end {p : Nat} (h : (ltOf cf) dk[p + 1]! dk[p]! = false) : shiftDown (ltOf cf) (p + 1) dk = dk := by
  rw [shiftDown, h]; rfl
theorem sup_go {b j p : Nat} (hj : j < b) (hp : j - 1 = p) (h : (ltOf cf) dk[j]! dk[p]! = true) : shiftUp (ltOf cf) b j dk = shiftUp (ltOf cf) b (j + 1) (swp dk j p) := by
  subst hp
  rw [shiftUp, if_pos hj, h]; rfl
theorem sup_stop {b j p : Nat} (hj : j < b) (hp : j - 1 = p) (h : (ltOf cf) dk[j]! dk[p]! = false) : shiftUp (ltOf cf) b j dk = dk := by
  subst hp
  rw [shiftUp, if_pos hj, h]; rfl
theorem sup_end {b j : Nat} (hj : ¬ j < b) : shiftUp (ltOf cf) b j dk = dk := by
  rw [shiftUp, if_neg hj]
/-- One step: what is found. -/
theorem pin_step (a b s i : Nat) (d : Array Ik) {i1 : Nat} (hi : scanSorted (ltOf cf) d b i = i1) : partialIns (ltOf cf) a b (s + 1) i d =
    (if i1 = b then (d, true) else if b - a < 50 then (d, false) else
      partialIns (ltOf cf) a b s i1 (if b - i1 ≥ 2 then shiftUp (ltOf cf) b (i1 + 1) (if i1 - a ≥ 2 then shiftDown (ltOf cf) (i1 - 1) (swp d i1 (i1 - 1)) else swp d i1 (i1 - 1)) else (if i1 - a ≥ 2 then shiftDown (ltOf cf) (i1 - 1) (swp d i1 (i1 - 1)) else swp d i1 (i1 - 1)))) := by
  rw [partialIns, hi]
set_option maxRecDepth 1000000 in
set_option maxHeartbeats 4000000 in
theorem pin_s (HC : CmpB cf g blk off n w0) (R : Row1 eK w0 blk off d0) (h0 : d0.size = n) (hn : n ≤ 100000) (cap a b : Nat) (d : Array Ik) (w : World) (hs : d.size = n) (S : SW eK w0 blk off d w) (hab : a < b) (hb : b ≤ n) :
    Calls Try.prog 75 #[.slice (some ⟨blk, off, none⟩) n cap, .int .i64 (a : Nat), .int .i64 (b : Nat), fvB g] w fun e w' => e = .returned (.bool (partialInsertionSort (ltOf cf) d a b).2) ∧ (partialInsertionSort (ltOf cf) d a b).1.size = n ∧ SW eK w0 blk off (partialInsertionSort (ltOf cf) d a b).1 w' := by
  obtain ⟨R0, hR0⟩ : ∃ x, partialInsertionSort (ltOf cf) d a b = x := ⟨_, rfl⟩
  rw [hR0]
  have mixed : Try.prog.follows .mixedOrders = true := by kernel_rfl
  have hcl0 := eK_one.cells
  simp only [Value.cells] at hcl0
  have hst := eK_one.store Try.prog
  have HH := Lib.hid HC
  have RR := Lib.hid R
  have S0 := Lib.hid (And.intro hs S)
  have H0 := Lib.hid h0
  clear HC R hs S h0
  have HR0 := Lib.hid (show partialIns (ltOf cf) a b 5 (a + 1) d = R0 from hR0)
  clear hR0
  go_enter Try.func75, Try.ntmps75
  go_wp2_with fail
  go_loopw [9, 10] (fun x y wr => ∃ (i s : Nat) (dk : Array Ik), x = .int .i64 i ∧ y = .int .i64 (5 - (s : Int)) ∧ s ≤ 5 ∧ a < i ∧ i ≤ b ∧ (dk.size = n ∧ SW eK w0 blk off dk wr) ∧ partialIns (ltOf cf) a b s i dk = R0) (fun _ y _ => (5 - intOf y).toNat)
  case atStart => exact ⟨a + 1, 5, d, by go_num, by first | rfl | go_num, Nat.le_refl _, by omega, by omega, S0.out, HR0.out⟩
  case round =>
    clear S0 HR0
    obtain ⟨i, s, dk, rfl, hy, hs5, hai, hib, hS, ho⟩ := hrel
    have HS := Lib.hid hS
    cases s with
    | zero =>
      obtain rfl : u10 = .int .i64 5 := by rw [hy]; rfl
      clear hy hS
      have HR := Lib.hid (show R0 = (dk, false) from by rw [← ho]; rfl)
      clear ho
      go_wp2_with fail
      go_ret
      rw [HR.out]
      exact ⟨rfl, HS.out⟩
    | succ s =>
      obtain ⟨z, hz⟩ : ∃ z : Nat, (5 : Int) - ((s + 1 : Nat) : Int) = (z : Nat) := ⟨4 - s, by omega⟩
      rw [hz] at hy
      subst hy
      have d1 : decide (((z : Nat) : Int) < 5) = true := by simp; omega
      clear hS
      obtain ⟨i1, hi1⟩ : ∃ x, scanSorted (ltOf cf) dk b i = x := ⟨_, rfl⟩
      have HL := Lib.hid (show _ = R0 from (pin_step (cf := cf) a b s i dk hi1).symm.trans ho)
      have HI1 := Lib.hid hi1
      clear ho hi1
      go_upto_block 2 with fail
      go_cut [9] (fun x wx => x = .int .i64 (i1 : Nat) ∧ (i ≤ i1 ∧ i1 ≤ b) ∧ (dk.size = n ∧ SW eK w0 blk off dk wx))
      case first =>
        go_wp2_with fail
        go_loopw [9] (fun x wr => ∃ ii : Nat, x = .int .i64 ii ∧ i ≤ ii ∧ ii ≤ b ∧ (dk.size = n ∧ SW eK w0 blk off dk wr) ∧ scanSorted (ltOf cf) dk b ii = i1) (fun x _ => b - (intOf x).toNat)
        case atStart => exact ⟨i, rfl, by omega, by omega, HS.out, HI1.out⟩
        case round =>
          clear HS HI1
          obtain ⟨ii, rfl, h1, h2, hS, ho⟩ := hrel
          have HQ := Lib.hid hS
          have HO := Lib.hid ho
          clear hS ho
          obtain ⟨pp, hpp⟩ : ∃ x, ii - 1 = x := ⟨_, rfl⟩
          by_cases hle : ii < b
          · have d3 : decide (((ii : Nat) : Int) < (b : Nat)) = true := by simp; omega
            have ep : ((ii : Nat) : Int) - 1 = (pp : Nat) := by omega
            have ewp : IntKind.i64.wrap (pp : Nat) = (pp : Nat) := by rw [wrapI] <;> omega
            have ewp2 : IntKind.i64.wrap (((ii : Nat) : Int) - 1) = (pp : Nat) := by rw [ep]; exact ewp
            have szii : (0 : Int) ≤ (ii : Nat) := by omega
            have snii : ((ii : Nat) : Int) < (n : Nat) := by omega
            have szpp : (0 : Int) ≤ (pp : Nat) := by omega
            have snpp : ((pp : Nat) : Int) < (n : Nat) := by omega
            obtain ⟨la, lb⟩ := two_cells RR.out H0.out HQ.out.1 HQ.out.2 ii pp (by omega) (by omega)
            have hc := HH.out.at HQ.out.2 HQ.out.1 dk[ii]! dk[pp]!
            cases hlv : (ltOf cf) dk[ii]! dk[pp]! with
            | true =>
              have hd := lt_true hlv
              have HG := Lib.hid (show ii = i1 from by rw [← HO.out]; exact (ss_end hpp (.inr hlv)).symm)
              clear HO
              have SG := Lib.hid (fun q os => And.intro HQ.out.1 (HQ.out.2.grown q os))
              clear hlv HQ
              generalize dk[ii]! = xa at la hc hd
              generalize dk[pp]! = xb at lb hc hd
              go_wp2_with fail
              go_quiet_grown (first | (go_at_call 59; exact hc _ _))
              have S2 := Lib.hid (SG.out nq osq)
              clear la lb hc SG hd
              generalize grow (wr.drewN nq) osq = w2 at *
              go_wp2_with fail
              go_meet
              case rel => exact ⟨by rw [HG.out], ⟨by have := HG.out; omega, by have := HG.out; omega⟩, S2.out⟩
            | false =>
              have hd := lt_false hlv
              have HG := Lib.hid (show scanSorted (ltOf cf) dk b (ii + 1) = i1 from by rw [← HO.out]; exact (ss_go hle hpp hlv).symm)
              clear HO
              have SG := Lib.hid (fun q os => And.intro HQ.out.1 (HQ.out.2.grown q os))
              clear hlv HQ
              generalize dk[ii]! = xa at la hc hd
              generalize dk[pp]! = xb at lb hc hd
              go_wp2_with fail
              go_quiet_grown (first | (go_at_call 59; exact hc _ _))
              have S2 := Lib.hid (SG.out nq osq)
              clear la lb hc SG hd
              generalize grow (wr.drewN nq) osq = w2 at *
              go_wp2_with fail
              go_roundw
              case rel => exact ⟨ii + 1, by go_num, by omega, by omega, S2.out, HG.out⟩
              case measure => simp [intOf]; omega
          · have d3 : decide (((ii : Nat) : Int) < (b : Nat)) = false := by simp; omega
            have S2 := Lib.hid (And.intro HQ.out.1 HQ.out.2.drew)
            have HG := Lib.hid (show ii = i1 from by rw [← HO.out]; exact (ss_end hpp (.inl hle)).symm)
            clear HO HQ
            go_wp2_with fail
            go_region
            generalize wr.drew = w2 at *
            go_wp2_with fail
            go_meet
            case rel => exact ⟨by rw [HG.out], ⟨by have := HG.out; omega, by have := HG.out; omega⟩, S2.out⟩
      case rest =>
        clear HS HI1
        obtain ⟨rfl, ⟨hii1, hi1b⟩, hS⟩ := hcut
        have HS := Lib.hid hS
        clear hS
        by_cases hend : i1 = b
        · have d2 : ((i1 : Int) == (b : Nat)) = true := by simp [hend]
          have d20 : decide ((i1 : Int) = (b : Nat)) = true := by simp [hend]
          have HR := Lib.hid (show R0 = (dk, true) from by rw [← HL.out, if_pos hend])
          clear HL
          subst hend
          go_wp2_with fail
          go_ret
          rw [HR.out]
          exact ⟨rfl, HS.out⟩
        · have d2 : ((i1 : Int) == (b : Nat)) = false := by simp; omega
          have d20 : decide ((i1 : Int) = (b : Nat)) = false := by simp; omega
          obtain ⟨m, hm⟩ : ∃ x, b - a = x := ⟨_, rfl⟩
          have em : (b : Int) - (a : Nat) = (m : Nat) := by omega
          by_cases h50 : m < 50
          · have d3 : decide ((m : Int) < 50) = true := by simp; omega
            have HR := Lib.hid (show R0 = (dk, false) from by rw [← HL.out, if_neg hend, if_pos (by omega)])
            clear HL
            go_wp2_with fail
            go_ret
            rw [HR.out]
            exact ⟨rfl, HS.out⟩
          · have d3 : decide ((m : Int) < 50) = false := by simp; omega
            obtain ⟨p1, hp1⟩ : ∃ x, i1 - 1 = x := ⟨_, rfl⟩
            have ep : ((i1 : Nat) : Int) - 1 = (p1 : Nat) := by omega
            have ewp : IntKind.i64.wrap (p1 : Nat) = (p1 : Nat) := by rw [wrapI] <;> omega
            have ewp2 : IntKind.i64.wrap (((i1 : Nat) : Int) - 1) = (p1 : Nat) := by rw [ep]; exact ewp
            obtain ⟨dA, hdA⟩ : ∃ x, swp dk i1 p1 = x := ⟨_, rfl⟩
            obtain ⟨dB, hdB⟩ : ∃ x, (if i1 - a ≥ 2 then shiftDown (ltOf cf) p1 dA else dA) = x := ⟨_, rfl⟩
            obtain ⟨dC, hdC⟩ : ∃ x, (if b - i1 ≥ 2 then shiftUp (ltOf cf) b (i1 + 1) dB else dB) = x := ⟨_, rfl⟩
            have HN := Lib.hid (show partialIns (ltOf cf) a b s i1 dC = R0 from by rw [← HL.out, if_neg hend, if_neg (by omega), hp1, hdA, hdB, hdC])
            have HA := Lib.hid hdA
            have HB := Lib.hid hdB
            have HCc := Lib.hid hdC
            clear HL hdB hdC hdA
            have szi1 : (0 : Int) ≤ (i1 : Nat) := by omega
            have sni1 : ((i1 : Nat) : Int) < (n : Nat) := by omega
            have szp1 : (0 : Int) ≤ (p1 : Nat) := by omega
            have snp1 : ((p1 : Nat) : Int) < (n : Nat) := by omega
            obtain ⟨cz1, cz2, fz1, fz2, ⟨u, cz3⟩, q3, hs3⟩ := two_swap (W := wc) RR.out H0.out HS.out.1 HS.out.2 i1 p1 (by omega) (by omega)
            have S3 := Lib.hid (And.intro hs3 q3)
            clear HS q3 hs3
            generalize dk[i1]! = ya at cz1 S3
            generalize dk[p1]! = yb at cz2 cz3 S3
            go_wp2_with fail
            go_region
            clear cz1 cz2 cz3 fz1 fz2
            generalize ((wc.setCell ⟨blk, off + i1, none⟩ (eK yb)).setCell ⟨blk, off + p1, none⟩ (eK ya)).drew = w5 at *
            rw [HA.out] at S3
            obtain ⟨m1, hm1⟩ : ∃ x, i1 - a = x := ⟨_, rfl⟩
            have em1 : (i1 : Int) - (a : Nat) = (m1 : Nat) := by omega
            obtain ⟨m2, hm2⟩ : ∃ x, b - i1 = x := ⟨_, rfl⟩
            have em2 : (b : Int) - (i1 : Nat) = (m2 : Nat) := by omega
            rw [hm1] at HB
            rw [hm2] at HCc
            go_upto_if 65 with fail
            go_cut [] (fun wx => dB.size = n ∧ SW eK w0 blk off dB wx)
            case first =>
              by_cases h2 : 2 ≤ m1
              · have d4 : decide ((2 : Int) ≤ (m1 : Nat)) = true := by simp; omega
                rw [d4]
                have HB2 := Lib.hid (show shiftDown (ltOf cf) p1 dA = dB from by rw [← HB.out, if_pos h2])
                clear HB HCc HN HA
                go_wp2_with fail
                go_loopw [11] (fun x wr => ∃ (jj : Nat) (dj : Array Ik), x = .int .i64 jj ∧ jj ≤ p1 ∧ (dj.size = n ∧ SW eK w0 blk off dj wr) ∧ shiftDown (ltOf cf) jj dj = dB) (fun x _ => (intOf x).toNat)
                case atStart => exact ⟨p1, dA, by first | rfl | go_num, Nat.le_refl _, S3.out, HB2.out⟩
                case round =>
                  clear S3 HB2
                  obtain ⟨jj, dj, rfl, hjp, hS, ho⟩ := hrel
                  cases jj with
                  | zero =>
                    have HG := Lib.hid (show dj = dB from ho)
                    have S2 := Lib.hid hS
                    clear ho hS
                    have d5 : decide ((1 : Int) ≤ ((0 : Nat) : Int)) = false := by decide
                    go_wp2_with fail
                    go_meet
                    case rel => exact HG.out ▸ S2.out
                  | succ k =>
                    have HQ := Lib.hid hS
                    have HO := Lib.hid ho
                    clear ho hS
                    obtain ⟨q1, hq1⟩ : ∃ x, k + 1 = x := ⟨_, rfl⟩
                    rw [hq1]
                    have d5 : decide ((1 : Int) ≤ (q1 : Nat)) = true := by simp; omega
                    have ek : ((q1 : Nat) : Int) - 1 = (k : Nat) := by omega
                    have ewk : IntKind.i64.wrap (k : Nat) = (k : Nat) := by rw [wrapI] <;> omega
                    have ewk2 : IntKind.i64.wrap (((q1 : Nat) : Int) - 1) = (k : Nat) := by rw [ek]; exact ewk
                    have szq1 : (0 : Int) ≤ (q1 : Nat) := by omega
                    have snq1 : ((q1 : Nat) : Int) < (n : Nat) := by omega
                    have szk : (0 : Int) ≤ (k : Nat) := by omega
                    have snk : ((k : Nat) : Int) < (n : Nat) := by omega
                    obtain ⟨la, lb⟩ := two_cells RR.out H0.out HQ.out.1 HQ.out.2 q1 k (by omega) (by omega)
                    have hc := HH.out.at HQ.out.2 HQ.out.1 dj[q1]! dj[k]!
                    cases hlv : (ltOf cf) dj[q1]! dj[k]! with
                    | true =>
                      have hd := lt_true hlv
                      have HG := Lib.hid (show shiftDown (ltOf cf) k (swp dj q1 k) = dB from by rw [← HO.out]; subst hq1; exact (sdn_go hlv).symm)
                      clear HO
                      have SG := Lib.hid (fun q os => And.intro HQ.out.1 (HQ.out.2.grown q os))
                      clear hlv HQ
                      generalize dj[q1]! = xa at la hc hd
                      generalize dj[k]! = xb at lb hc hd
                      go_wp2_with fail
                      go_quiet_grown (first | (go_at_call 59; exact hc _ _))
                      have S2 := Lib.hid (SG.out nq osq)
                      clear la lb hc SG hd
                      generalize grow (wr.drewN nq) osq = w2 at *
                      obtain ⟨cz1, cz2, fz1, fz2, ⟨u, cz3⟩, q3, hs3⟩ := two_swap (W := w2) RR.out H0.out S2.out.1 S2.out.2 q1 k (by omega) (by omega)
                      have S3 := Lib.hid (And.intro hs3 q3)
                      clear S2 q3 hs3
                      generalize dj[q1]! = ya at cz1 S3
                      generalize dj[k]! = yb at cz2 cz3 S3
                      go_wp2_with fail
                      go_region
                      clear cz1 cz2 cz3 fz1 fz2
                      generalize ((w2.setCell ⟨blk, off + q1, none⟩ (eK yb)).setCell ⟨blk, off + k, none⟩ (eK ya)).drew = w6 at *
                      go_wp2_with fail
                      go_roundw
                      case rel => exact ⟨k, _, by first | rfl | go_num, by omega, S3.out, HG.out⟩
                      case measure => simp [intOf]; omega
                    | false =>
                      have hd := lt_false hlv
                      have HG := Lib.hid (show dj = dB from by rw [← HO.out]; subst hq1; exact (sdn_end hlv).symm)
                      clear HO
                      have SG := Lib.hid (fun q os => And.intro HQ.out.1 (HQ.out.2.grown q os))
                      clear hlv HQ
                      generalize dj[q1]! = xa at la hc hd
                      generalize dj[k]! = xb at lb hc hd
                      go_wp2_with fail
                      go_quiet_grown (first | (go_at_call 59; exact hc _ _))
                      have S2 := Lib.hid (SG.out nq osq)
                      clear la lb hc SG hd
                      generalize grow (wr.drewN nq) osq = w2 at *
                      go_wp2_with fail
                      go_meet
                      case rel => exact HG.out ▸ S2.out
              · have d4 : decide ((2 : Int) ≤ (m1 : Nat)) = false := by simp; omega
                have HG := Lib.hid (show dA = dB from by rw [← HB.out, if_neg h2])
                clear HB HCc HN HA
                go_wp2_with fail
                go_meet
                case rel => exact HG.out ▸ S3.out
            case rest =>
              clear S3
              have S3 := Lib.hid hcut
              clear hcut
              by_cases h2 : 2 ≤ m2
              · have d4 : decide ((2 : Int) ≤ (m2 : Nat)) = true := by simp; omega
                have HB2 := Lib.hid (show shiftUp (ltOf cf) b (i1 + 1) dB = dC from by rw [← HCc.out, if_pos h2])
                clear HB HCc HA
                go_wp2_with fail
                go_loopw [12] (fun x wr => ∃ (jj : Nat) (dj : Array Ik), x = .int .i64 jj ∧ i1 < jj ∧ jj ≤ b ∧ (dj.size = n ∧ SW eK w0 blk off dj wr) ∧ shiftUp (ltOf cf) b jj dj = dC) (fun x _ => b - (intOf x).toNat)
                case atStart => exact ⟨i1 + 1, dB, by first | rfl | go_num, by omega, by omega, S3.out, HB2.out⟩
                case round =>
                  clear S3 HB2
                  obtain ⟨jj, dj, rfl, hjp, hjb, hS, ho⟩ := hrel
                  have HQ := Lib.hid hS
                  have HO := Lib.hid ho
                  clear ho hS
                  by_cases hlt : jj < b
                  · obtain ⟨k, hk⟩ : ∃ x, jj - 1 = x := ⟨_, rfl⟩
                    have d5 : decide ((jj : Int) < (b : Nat)) = true := by simp; omega
                    have ek : ((jj : Nat) : Int) - 1 = (k : Nat) := by omega
                    have ewk : IntKind.i64.wrap (k : Nat) = (k : Nat) := by rw [wrapI] <;> omega
                    have ewk2 : IntKind.i64.wrap (((jj : Nat) : Int) - 1) = (k : Nat) := by rw [ek]; exact ewk
                    have szjj : (0 : Int) ≤ (jj : Nat) := by omega
                    have snjj : ((jj : Nat) : Int) < (n : Nat) := by omega
                    have szk : (0 : Int) ≤ (k : Nat) := by omega
                    have snk : ((k : Nat) : Int) < (n : Nat) := by omega
                    obtain ⟨la, lb⟩ := two_cells RR.out H0.out HQ.out.1 HQ.out.2 jj k (by omega) (by omega)
                    have hc := HH.out.at HQ.out.2 HQ.out.1 dj[jj]! dj[k]!
                    cases hlv : (ltOf cf) dj[jj]! dj[k]! with
                    | true =>
                      have hd := lt_true hlv
                      have HG := Lib.hid (show shiftUp (ltOf cf) b (jj + 1) (swp dj jj k) = dC from by rw [← HO.out]; exact (sup_go hlt hk hlv).symm)
                      clear HO
                      have SG := Lib.hid (fun q os => And.intro HQ.out.1 (HQ.out.2.grown q os))
                      clear hlv HQ
                      generalize dj[jj]! = xa at la hc hd
                      generalize dj[k]! = xb at lb hc hd
                      go_wp2_with fail
                      go_quiet_grown (first | (go_at_call 59; exact hc _ _))
                      have S2 := Lib.hid (SG.out nq osq)
                      clear la lb hc SG hd
                      generalize grow (wr.drewN nq) osq = w2 at *
                      obtain ⟨cz1, cz2, fz1, fz2, ⟨u, cz3⟩, q3, hs3⟩ := two_swap (W := w2) RR.out H0.out S2.out.1 S2.out.2 jj k (by omega) (by omega)
                      have S3 := Lib.hid (And.intro hs3 q3)
                      clear S2 q3 hs3
                      generalize dj[jj]! = ya at cz1 S3
                      generalize dj[k]! = yb at cz2 cz3 S3
                      go_wp2_with fail
                      go_region
                      clear cz1 cz2 cz3 fz1 fz2
                      generalize ((w2.setCell ⟨blk, off + jj, none⟩ (eK yb)).setCell ⟨blk, off + k, none⟩ (eK ya)).drew = w6 at *
                      go_wp2_with fail
                      go_roundw
                      case rel => exact ⟨jj + 1, _, by first | rfl | go_num, by omega, by omega, S3.out, HG.out⟩
                      case measure => simp [intOf]; omega
                    | false =>
                      have hd := lt_false hlv
                      have HG := Lib.hid (show dj = dC from by rw [← HO.out]; exact (sup_stop hlt hk hlv).symm)
                      clear HO
                      have SG := Lib.hid (fun q os => And.intro HQ.out.1 (HQ.out.2.grown q os))
                      clear hlv HQ
                      generalize dj[jj]! = xa at la hc hd
                      generalize dj[k]! = xb at lb hc hd
                      go_wp2_with fail
                      go_quiet_grown (first | (go_at_call 59; exact hc _ _))
                      have S2 := Lib.hid (SG.out nq osq)
                      clear la lb hc SG hd
                      generalize grow (wr.drewN nq) osq = w2 at *
                      go_wp2_with fail
                      go_roundw
                      case rel => exact ⟨i1, s, dC, by first | rfl | go_num, by first | go_num | (congr 1; omega), by omega, by omega, hi1b, HG.out ▸ S2.out, HN.out⟩
                      case measure => simp [intOf]; omega
                  · have d5 : decide ((jj : Int) < (b : Nat)) = false := by simp; omega
                    have HG := Lib.hid (show dj = dC from by rw [← HO.out]; exact (sup_end hlt).symm)
                    clear HO
                    go_wp2_with fail
                    go_roundw
                    case rel => exact ⟨i1, s, dC, by first | rfl | go_num, by first | go_num | (congr 1; omega), by omega, by omega, hi1b, HG.out ▸ HQ.out, HN.out⟩
                    case measure => simp [intOf]; omega
              · have d4 : decide ((2 : Int) ≤ (m2 : Nat)) = false := by simp; omega
                have HG := Lib.hid (show dB = dC from by rw [← HCc.out, if_neg h2])
                clear HB HCc HA
                go_wp2_with fail
                go_roundw
                case rel => exact ⟨i1, s, dC, by first | rfl | go_num, by first | go_num | (congr 1; omega), by omega, by omega, hi1b, HG.out ▸ S3.out, HN.out⟩
                case measure => simp [intOf]; omega
end Go.Proofs.Ytjjanogfcfapcaa.W
