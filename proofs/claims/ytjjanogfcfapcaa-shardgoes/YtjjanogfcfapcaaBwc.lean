/- Joined texts: Wqf Wqg. -/
import Derived.Test.YtjjanogfcfapcaaBwb
import Derived.Deep.CutBlock
import Derived.Deep.DeepCutAuto
import Derived.Sort.WalkC4

/- The walk of partitionEqualCmpFunc (written by tools/gen_wq.py). -/
namespace Go.Proofs.Ytjjanogfcfapcaa.W
open Go.RowKit Go.Shelf Go.Sort
open Go.Proofs (SW Row1 ltOf)
set_option linter.unusedVariables false
variable {cf : Ik → Ik → Int} {g blk off n : Nat} {w0 W : World} {d0 dk : Array Ik}
set_option maxRecDepth 1000000 in
set_option maxHeartbeats 4000000 in
theorem peq_s (HC : CmpB cf g blk off n w0) (R : Row1 eK w0 blk off d0) (h0 : d0.size = n) (hn : n ≤ 100000) (cap a b p : Nat) (d : Array Ik) (w : World) (hs : d.size = n) (S : SW eK w0 blk off d w) (hap : a ≤ p) (hpb : p < b) (hb : b ≤ n) :
    Calls Try.prog 76 #[.slice (some ⟨blk, off, none⟩) n cap, .int .i64 (a : Nat), .int .i64 (b : Nat), .int .i64 (p : Nat), fvB g] w fun e w' => e = .returned (.int .i64 ((partitionEqual (ltOf cf) d a b p).1 : Nat)) ∧ (partitionEqual (ltOf cf) d a b p).2.size = n ∧ SW eK w0 blk off (partitionEqual (ltOf cf) d a b p).2 w' := by
  obtain ⟨R0, hR0⟩ : ∃ x, partitionEqual (ltOf cf) d a b p = x := ⟨_, rfl⟩
  rw [hR0]
  have mixed : Try.prog.follows .mixedOrders = true := by kernel_rfl
  have hcl0 := eK_one.cells
  simp only [Value.cells] at hcl0
  have hst := eK_one.store Try.prog
  have HH := Lib.hid HC
  have RR := Lib.hid R
  have S0 := Lib.hid (And.intro hs S)
  have H0 := Lib.hid h0
  clear HC R hs S h0
  go_enter Try.func76, Try.ntmps76
  have sza : (0 : Int) ≤ (a : Nat) := by omega
  have sna : ((a : Nat) : Int) < (n : Nat) := by omega
  have szp : (0 : Int) ≤ (p : Nat) := by omega
  have snp : ((p : Nat) : Int) < (n : Nat) := by omega
  have eb : (b : Int) - 1 = ((b - 1 : Nat) : Int) := by omega
  obtain ⟨cz1, cz2, fz1, fz2, ⟨u, cz3⟩, q3, hs3⟩ := two_swap (W := w) RR.out H0.out S0.out.1 S0.out.2 a p (by omega) (by omega)
  have S3 := Lib.hid (And.intro hs3 q3)
  clear S0 q3 hs3
  generalize d[a]! = ya at cz1 S3
  generalize d[p]! = yb at cz2 cz3 S3
  go_wp2_with fail
  go_region
  clear cz1 cz2 cz3 fz1 fz2
  generalize ((w.setCell ⟨blk, off + a, none⟩ (eK yb)).setCell ⟨blk, off + p, none⟩ (eK ya)).drew = w3 at *
  have HR0 := Lib.hid (show partEqLoop (ltOf cf) a (a + 1) (b - 1) (swp d a p) = R0 from hR0)
  clear hR0
  go_wp2_with fail
  go_loopw [11, 12] (fun x y wr => ∃ (i j : Nat) (dk : Array Ik), x = .int .i64 i ∧ y = .int .i64 j ∧ a < i ∧ i ≤ j + 1 ∧ j < b ∧ (dk.size = n ∧ SW eK w0 blk off dk wr) ∧ partEqLoop (ltOf cf) a i j dk = R0) (fun x y _ => (intOf y + 1 - intOf x).toNat)
  case atStart => exact ⟨a + 1, b - 1, _, by go_num, by first | rfl | go_num, by omega, by omega, by omega, S3.out, HR0.out⟩
  case round =>
    clear S3 HR0
    obtain ⟨i, j, dk, rfl, rfl, hai, hij, hjb, hS, ho⟩ := hrel
    have HS := Lib.hid hS
    have HL := Lib.hid ho
    clear hS ho
    obtain ⟨pri2, hpr⟩ : ∃ f : Ik → Bool, f = (fun x => !(ltOf cf) dk[a]! x) := ⟨_, rfl⟩
    have HPi2 := Lib.hid hpr
    have HVi2 := Lib.hid (fun y => show pri2 y = ((fun x => !(ltOf cf) dk[a]! x)) y from by rw [hpr])
    clear hpr
    obtain ⟨i2, hi2⟩ : ∃ x, x = scanUp pri2 dk j i := ⟨_, rfl⟩
    have hu := scanUp_spec pri2 dk j _ i rfl
    rw [← hi2] at hu
    have hbi2 : i ≤ i2 ∧ i2 ≤ j + 1 := ⟨hu.1, hu.2.1 (by omega)⟩
    have HEi2 := Lib.hid hi2
    clear hu hi2
    go_upto_block 2 with fail
    go_cut [11] (fun x wx => x = .int .i64 (i2 : Nat) ∧ (dk.size = n ∧ SW eK w0 blk off dk wx))
    case first =>
      go_wp2_with fail
      go_loopw [11] (fun x wr => ∃ ii : Nat, x = .int .i64 ii ∧ i ≤ ii ∧ ii ≤ j + 1 ∧ (dk.size = n ∧ SW eK w0 blk off dk wr) ∧ scanUp pri2 dk j ii = i2) (fun x _ => j + 1 - (intOf x).toNat)
      case atStart => exact ⟨i, rfl, by omega, by omega, HS.out, HEi2.out.symm⟩
      case round =>
        clear HS
        obtain ⟨ii, rfl, h1, h2, hS, ho⟩ := hrel
        have HQ := Lib.hid hS
        have HO := Lib.hid ho
        clear hS ho
        by_cases hle : ii ≤ j
        · have d1 : decide (((ii : Nat) : Int) ≤ (j : Nat)) = true := by simp; omega
          have szii : (0 : Int) ≤ (ii : Nat) := by omega
          have snii : ((ii : Nat) : Int) < (n : Nat) := by omega
          obtain ⟨la, lb⟩ := two_cells RR.out H0.out HQ.out.1 HQ.out.2 a ii (by omega) (by omega)
          have hc := HH.out.at HQ.out.2 HQ.out.1 dk[a]! dk[ii]!
          cases hlv : (ltOf cf) dk[a]! dk[ii]! with
          | true =>
            have hd := lt_true hlv
            have HG := Lib.hid (show ii = i2 from by rw [← HO.out]; exact (scanUp_end pri2 dk j ii (.inr (by rw [HVi2.out]; simp [hlv]))).symm)
            clear HO
            have SG := Lib.hid (fun q os => And.intro HQ.out.1 (HQ.out.2.grown q os))
            clear hlv HQ
            generalize dk[a]! = xa at la hc hd
            generalize dk[ii]! = xb at lb hc hd
            go_wp2_with fail
            go_quiet_grown (first | (go_at_call 59; exact hc _ _))
            have S2 := Lib.hid (SG.out nq osq)
            clear la lb hc SG hd
            generalize grow (wr.drewN nq) osq = w2 at *
            go_wp2_with fail
            go_meet
            case rel => exact ⟨by rw [HG.out], S2.out⟩
          | false =>
            have hd := lt_false hlv
            have HG := Lib.hid (show scanUp pri2 dk j (ii + 1) = i2 from by rw [← HO.out]; exact (scanUp_go pri2 dk j ii hle (by rw [HVi2.out]; simp [hlv])).symm)
            clear HO
            have SG := Lib.hid (fun q os => And.intro HQ.out.1 (HQ.out.2.grown q os))
            clear hlv HQ
            generalize dk[a]! = xa at la hc hd
            generalize dk[ii]! = xb at lb hc hd
            go_wp2_with fail
            go_quiet_grown (first | (go_at_call 59; exact hc _ _))
            have S2 := Lib.hid (SG.out nq osq)
            clear la lb hc SG hd
            generalize grow (wr.drewN nq) osq = w2 at *
            go_wp2_with fail
            go_roundw
            case rel => exact ⟨ii + 1, by first | rfl | go_num, by omega, by omega, S2.out, HG.out⟩
            case measure => simp [intOf]; omega
        · have d1 : decide (((ii : Nat) : Int) ≤ (j : Nat)) = false := by simp; omega
          have S2 := Lib.hid (And.intro HQ.out.1 HQ.out.2.drew)
          have HG := Lib.hid (show ii = i2 from by rw [← HO.out]; exact (scanUp_end pri2 dk j ii (.inl hle)).symm)
          clear HO HQ
          go_wp2_with fail
          go_region
          generalize wr.drew = w2 at *
          go_wp2_with fail
          go_meet
          case rel => exact ⟨by rw [HG.out], S2.out⟩
    case rest =>
      clear HS
      obtain ⟨rfl, hS⟩ := hcut
      have HS2 := Lib.hid hS
      clear hS
      obtain ⟨prj2, hpr⟩ : ∃ f : Ik → Bool, f = (fun x => (ltOf cf) dk[a]! x) := ⟨_, rfl⟩
      have HPj2 := Lib.hid hpr
      have HVj2 := Lib.hid (fun y => show prj2 y = ((fun x => (ltOf cf) dk[a]! x)) y from by rw [hpr])
      clear hpr
      obtain ⟨j2, hj2⟩ : ∃ x, x = scanDown prj2 dk i2 j := ⟨_, rfl⟩
      have hu := scanDown_spec prj2 dk i2 j
      rw [← hj2] at hu
      have hbj2 : j2 ≤ j ∧ i2 ≤ j2 + 1 := ⟨hu.1, hu.2.1 (by omega)⟩
      have HEj2 := Lib.hid hj2
      clear hu hj2
      go_upto_block 4 with fail
      go_cut [12] (fun x wx => x = .int .i64 (j2 : Nat) ∧ (dk.size = n ∧ SW eK w0 blk off dk wx))
      case first =>
        go_wp2_with fail
        go_loopw [12] (fun x wr => ∃ ii : Nat, x = .int .i64 ii ∧ ii ≤ j ∧ i2 ≤ ii + 1 ∧ (dk.size = n ∧ SW eK w0 blk off dk wr) ∧ scanDown prj2 dk i2 ii = j2) (fun x _ => (intOf x).toNat)
        case atStart => exact ⟨j, rfl, by omega, by omega, HS2.out, HEj2.out.symm⟩
        case round =>
          clear HS2
          obtain ⟨ii, rfl, h1, h2, hS, ho⟩ := hrel
          have HQ := Lib.hid hS
          have HO := Lib.hid ho
          clear hS ho
          by_cases hle : i2 ≤ ii
          · have d1 : decide (((i2 : Nat) : Int) ≤ (ii : Nat)) = true := by simp; omega
            have szii : (0 : Int) ≤ (ii : Nat) := by omega
            have snii : ((ii : Nat) : Int) < (n : Nat) := by omega
            obtain ⟨la, lb⟩ := two_cells RR.out H0.out HQ.out.1 HQ.out.2 a ii (by omega) (by omega)
            have hc := HH.out.at HQ.out.2 HQ.out.1 dk[a]! dk[ii]!
            cases hlv : (ltOf cf) dk[a]! dk[ii]! with
            | true =>
              have hd := lt_true hlv
              have HG := Lib.hid (show scanDown prj2 dk i2 (ii - 1) = j2 from by rw [← HO.out]; exact (scanDown_go prj2 dk i2 ii hle (by omega) (by rw [HVj2.out]; simp [hlv])).symm)
              clear HO
              have em : ((ii : Nat) : Int) - 1 = ((ii - 1 : Nat) : Int) := by omega
              have SG := Lib.hid (fun q os => And.intro HQ.out.1 (HQ.out.2.grown q os))
              clear hlv HQ
              generalize dk[a]! = xa at la hc hd
              generalize dk[ii]! = xb at lb hc hd
              go_wp2_with fail
              go_quiet_grown (first | (go_at_call 59; exact hc _ _))
              have S2 := Lib.hid (SG.out nq osq)
              clear la lb hc SG hd
              generalize grow (wr.drewN nq) osq = w2 at *
              go_wp2_with fail
              go_roundw
              case rel => exact ⟨ii - 1, by first | rfl | go_num, by omega, by omega, S2.out, HG.out⟩
              case measure => simp [intOf]; omega
            | false =>
              have hd := lt_false hlv
              have HG := Lib.hid (show ii = j2 from by rw [← HO.out]; exact (scanDown_end prj2 dk i2 ii (.inr (by rw [HVj2.out]; simp [hlv]))).symm)
              clear HO
              have SG := Lib.hid (fun q os => And.intro HQ.out.1 (HQ.out.2.grown q os))
              clear hlv HQ
              generalize dk[a]! = xa at la hc hd
              generalize dk[ii]! = xb at lb hc hd
              go_wp2_with fail
              go_quiet_grown (first | (go_at_call 59; exact hc _ _))
              have S2 := Lib.hid (SG.out nq osq)
              clear la lb hc SG hd
              generalize grow (wr.drewN nq) osq = w2 at *
              go_wp2_with fail
              go_meet
              case rel => exact ⟨by rw [HG.out], S2.out⟩
          · have d1 : decide (((i2 : Nat) : Int) ≤ (ii : Nat)) = false := by simp; omega
            have S2 := Lib.hid (And.intro HQ.out.1 HQ.out.2.drew)
            have HG := Lib.hid (show ii = j2 from by rw [← HO.out]; exact (scanDown_end prj2 dk i2 ii (.inl hle)).symm)
            clear HO HQ
            go_wp2_with fail
            go_region
            generalize wr.drew = w2 at *
            go_wp2_with fail
            go_meet
            case rel => exact ⟨by rw [HG.out], S2.out⟩
      case rest =>
        clear HS2
        obtain ⟨rfl, hS⟩ := hcut
        have HS3 := Lib.hid hS
        clear hS
        by_cases hbr : j2 < i2
        · have d1 : decide ((j2 : Int) < (i2 : Nat)) = true := by simp; omega
          have HR := Lib.hid (show R0 = (i2, dk) from by rw [← HL.out]; exact partEq_break _ a i j dk (by rw [← HPi2.out]; exact HEi2.out) (by rw [← HPj2.out]; exact HEj2.out) hbr)
          clear HL HEi2 HEj2
          go_wp2_with fail
          go_ret
          rw [HR.out]
          exact ⟨rfl, HS3.out⟩
        · have hlt2 := scans_lt (ltOf cf) a i j dk (i2 := i2) (j2 := j2) (by omega) (by rw [← HPi2.out]; exact HEi2.out) (by rw [← HPj2.out]; exact HEj2.out) (by omega)
          have d1 : decide ((j2 : Int) < (i2 : Nat)) = false := by simp; omega
          have HG := Lib.hid (show partEqLoop (ltOf cf) a (i2 + 1) (j2 - 1) (swp dk i2 j2) = R0 from by rw [← HL.out]; exact (partEq_go _ a i j dk (by rw [← HPi2.out]; exact HEi2.out) (by rw [← HPj2.out]; exact HEj2.out) (by omega)).symm)
          have em : ((j2 : Nat) : Int) - 1 = ((j2 - 1 : Nat) : Int) := by omega
          clear HL HEi2 HEj2
          have szi2 : (0 : Int) ≤ (i2 : Nat) := by omega
          have sni2 : ((i2 : Nat) : Int) < (n : Nat) := by omega
          have szj2 : (0 : Int) ≤ (j2 : Nat) := by omega
          have snj2 : ((j2 : Nat) : Int) < (n : Nat) := by omega
          obtain ⟨cz1, cz2, fz1, fz2, ⟨u, cz3⟩, q3, hs3⟩ := two_swap (W := wc) RR.out H0.out HS3.out.1 HS3.out.2 i2 j2 (by omega) (by omega)
          have S3 := Lib.hid (And.intro hs3 q3)
          clear HS3 q3 hs3
          generalize dk[i2]! = ya at cz1 S3
          generalize dk[j2]! = yb at cz2 cz3 S3
          go_wp2_with fail
          go_region
          clear cz1 cz2 cz3 fz1 fz2
          generalize ((wc.setCell ⟨blk, off + i2, none⟩ (eK yb)).setCell ⟨blk, off + j2, none⟩ (eK ya)).drew = w5 at *
          go_wp2_with fail
          go_roundw
          case rel => exact ⟨i2 + 1, j2 - 1, _, by go_num, by first | rfl | go_num, by omega, by omega, by omega, S3.out, HG.out⟩
          case measure => simp [intOf]; omega
end Go.Proofs.Ytjjanogfcfapcaa.W

/- The walk of partitionCmpFunc (written by tools/gen_wq.py). -/
namespace Go.Proofs.Ytjjanogfcfapcaa.W
open Go.RowKit Go.Shelf Go.Sort
open Go.Proofs (SW Row1 ltOf)
set_option linter.unusedVariables false
variable {cf : Ik → Ik → Int} {g blk off n : Nat} {w0 W : World} {d0 dk : Array Ik}
set_option maxRecDepth 1000000 in
set_option maxHeartbeats 4000000 in
theorem par_s (HC : CmpB cf g blk off n w0) (R : Row1 eK w0 blk off d0) (h0 : d0.size = n) (hn : n ≤ 100000) (cap a b p : Nat) (d : Array Ik) (w : World) (hs : d.size = n) (S : SW eK w0 blk off d w) (hap : a ≤ p) (hpb : p < b) (hb : b ≤ n) :
    Calls Try.prog 77 #[.slice (some ⟨blk, off, none⟩) n cap, .int .i64 (a : Nat), .int .i64 (b : Nat), .int .i64 (p : Nat), fvB g] w fun e w' => e = .returned (.tuple #[.int .i64 ((partition (ltOf cf) d a b p).1 : Nat), .bool (partition (ltOf cf) d a b p).2.1]) ∧ (partition (ltOf cf) d a b p).2.2.size = n ∧ SW eK w0 blk off (partition (ltOf cf) d a b p).2.2 w' := by
  obtain ⟨R0, hR0⟩ : ∃ x, partition (ltOf cf) d a b p = x := ⟨_, rfl⟩
  rw [hR0]
  have mixed : Try.prog.follows .mixedOrders = true := by kernel_rfl
  have hcl0 := eK_one.cells
  simp only [Value.cells] at hcl0
  have hst := eK_one.store Try.prog
  have HH := Lib.hid HC
  have RR := Lib.hid R
  have S0 := Lib.hid (And.intro hs S)
  have H0 := Lib.hid h0
  clear HC R hs S h0
  go_enter Try.func77, Try.ntmps77
  have sza : (0 : Int) ≤ (a : Nat) := by omega
  have sna : ((a : Nat) : Int) < (n : Nat) := by omega
  have szp : (0 : Int) ≤ (p : Nat) := by omega
  have snp : ((p : Nat) : Int) < (n : Nat) := by omega
  have eb : (b : Int) - 1 = ((b - 1 : Nat) : Int) := by omega
  obtain ⟨cz1, cz2, fz1, fz2, ⟨u, cz3⟩, q3, hs3⟩ := two_swap (W := w) RR.out H0.out S0.out.1 S0.out.2 a p (by omega) (by omega)
  have S3 := Lib.hid (And.intro hs3 q3)
  clear S0 q3 hs3
  generalize d[a]! = ya at cz1 S3
  generalize d[p]! = yb at cz2 cz3 S3
  go_wp2_with fail
  go_region
  clear cz1 cz2 cz3 fz1 fz2
  generalize ((w.setCell ⟨blk, off + a, none⟩ (eK yb)).setCell ⟨blk, off + p, none⟩ (eK ya)).drew = w3 at *
  have HR0 := Lib.hid hR0
  clear hR0
  obtain ⟨dk, hdk⟩ : ∃ x, x = swp d a p := ⟨_, rfl⟩
  obtain ⟨i, hi⟩ : ∃ x, x = a + 1 := ⟨_, rfl⟩
  obtain ⟨j, hj⟩ : ∃ x, x = b - 1 := ⟨_, rfl⟩
  rw [← hdk] at S3
  have HDK := Lib.hid hdk
  have ei : (a : Int) + 1 = (i : Nat) := by omega
  have ej : (b : Int) - 1 = (j : Nat) := by omega
  have hai : a < i := by omega
  have hjb : j < b := by omega
  have hij : i ≤ j + 1 := by omega
  have HIJ := Lib.hid (And.intro hi hj)
  clear hdk hi hj eb
  obtain ⟨pri1, hpr⟩ : ∃ f : Ik → Bool, f = (fun x => (ltOf cf) x dk[a]!) := ⟨_, rfl⟩
  have HPi1 := Lib.hid hpr
  have HVi1 := Lib.hid (fun y => show pri1 y = ((fun x => (ltOf cf) x dk[a]!)) y from by rw [hpr])
  clear hpr
  obtain ⟨i1, hi1⟩ : ∃ x, x = scanUp pri1 dk j i := ⟨_, rfl⟩
  have hu := scanUp_spec pri1 dk j _ i rfl
  rw [← hi1] at hu
  have hbi1 : i ≤ i1 ∧ i1 ≤ j + 1 := ⟨hu.1, hu.2.1 (by omega)⟩
  have HEi1 := Lib.hid hi1
  clear hu hi1
  go_upto_block 0 with fail
  go_cut [12] (fun x wx => x = .int .i64 (i1 : Nat) ∧ (dk.size = n ∧ SW eK w0 blk off dk wx))
  case first =>
    go_wp2_with fail
    go_loopw [12] (fun x wr => ∃ ii : Nat, x = .int .i64 ii ∧ i ≤ ii ∧ ii ≤ j + 1 ∧ (dk.size = n ∧ SW eK w0 blk off dk wr) ∧ scanUp pri1 dk j ii = i1) (fun x _ => j + 1 - (intOf x).toNat)
    case atStart => exact ⟨i, rfl, by omega, by omega, S3.out, HEi1.out.symm⟩
    case round =>
      clear S3
      obtain ⟨ii, rfl, h1, h2, hS, ho⟩ := hrel
      have HQ := Lib.hid hS
      have HO := Lib.hid ho
      clear hS ho
      by_cases hle : ii ≤ j
      · have d1 : decide (((ii : Nat) : Int) ≤ (j : Nat)) = true := by simp; omega
        have szii : (0 : Int) ≤ (ii : Nat) := by omega
        have snii : ((ii : Nat) : Int) < (n : Nat) := by omega
        obtain ⟨la, lb⟩ := two_cells RR.out H0.out HQ.out.1 HQ.out.2 ii a (by omega) (by omega)
        have hc := HH.out.at HQ.out.2 HQ.out.1 dk[ii]! dk[a]!
        cases hlv : (ltOf cf) dk[ii]! dk[a]! with
        | true =>
          have hd := lt_true hlv
          have HG := Lib.hid (show scanUp pri1 dk j (ii + 1) = i1 from by rw [← HO.out]; exact (scanUp_go pri1 dk j ii hle (by rw [HVi1.out]; simp [hlv])).symm)
          clear HO
          have SG := Lib.hid (fun q os => And.intro HQ.out.1 (HQ.out.2.grown q os))
          clear hlv HQ
          generalize dk[ii]! = xa at la hc hd
          generalize dk[a]! = xb at lb hc hd
          go_wp2_with fail
          go_quiet_grown (first | (go_at_call 59; exact hc _ _))
          have S2 := Lib.hid (SG.out nq osq)
          clear la lb hc SG hd
          generalize grow (wr.drewN nq) osq = w2 at *
          go_wp2_with fail
          go_roundw
          case rel => exact ⟨ii + 1, by first | rfl | go_num, by omega, by omega, S2.out, HG.out⟩
          case measure => simp [intOf]; omega
        | false =>
          have hd := lt_false hlv
          have HG := Lib.hid (show ii = i1 from by rw [← HO.out]; exact (scanUp_end pri1 dk j ii (.inr (by rw [HVi1.out]; simp [hlv]))).symm)
          clear HO
          have SG := Lib.hid (fun q os => And.intro HQ.out.1 (HQ.out.2.grown q os))
          clear hlv HQ
          generalize dk[ii]! = xa at la hc hd
          generalize dk[a]! = xb at lb hc hd
          go_wp2_with fail
          go_quiet_grown (first | (go_at_call 59; exact hc _ _))
          have S2 := Lib.hid (SG.out nq osq)
          clear la lb hc SG hd
          generalize grow (wr.drewN nq) osq = w2 at *
          go_wp2_with fail
          go_meet
          case rel => exact ⟨by rw [HG.out], S2.out⟩
      · have d1 : decide (((ii : Nat) : Int) ≤ (j : Nat)) = false := by simp; omega
        have S2 := Lib.hid (And.intro HQ.out.1 HQ.out.2.drew)
        have HG := Lib.hid (show ii = i1 from by rw [← HO.out]; exact (scanUp_end pri1 dk j ii (.inl hle)).symm)
        clear HO HQ
        go_wp2_with fail
        go_region
        generalize wr.drew = w2 at *
        go_wp2_with fail
        go_meet
        case rel => exact ⟨by rw [HG.out], S2.out⟩
  case rest =>
    clear S3
    obtain ⟨rfl, hS⟩ := hcut
    have HS2 := Lib.hid hS
    clear hS
    obtain ⟨prj1, hpr⟩ : ∃ f : Ik → Bool, f = (fun x => !(ltOf cf) x dk[a]!) := ⟨_, rfl⟩
    have HPj1 := Lib.hid hpr
    have HVj1 := Lib.hid (fun y => show prj1 y = ((fun x => !(ltOf cf) x dk[a]!)) y from by rw [hpr])
    clear hpr
    obtain ⟨j1, hj1⟩ : ∃ x, x = scanDown prj1 dk i1 j := ⟨_, rfl⟩
    have hu := scanDown_spec prj1 dk i1 j
    rw [← hj1] at hu
    have hbj1 : j1 ≤ j ∧ i1 ≤ j1 + 1 := ⟨hu.1, hu.2.1 (by omega)⟩
    have HEj1 := Lib.hid hj1
    clear hu hj1
    go_upto_block 2 with fail
    go_cut [13] (fun x wx => x = .int .i64 (j1 : Nat) ∧ (dk.size = n ∧ SW eK w0 blk off dk wx))
    case first =>
      go_wp2_with fail
      go_loopw [13] (fun x wr => ∃ ii : Nat, x = .int .i64 ii ∧ ii ≤ j ∧ i1 ≤ ii + 1 ∧ (dk.size = n ∧ SW eK w0 blk off dk wr) ∧ scanDown prj1 dk i1 ii = j1) (fun x _ => (intOf x).toNat)
      case atStart => exact ⟨j, rfl, by omega, by omega, HS2.out, HEj1.out.symm⟩
      case round =>
        clear HS2
        obtain ⟨ii, rfl, h1, h2, hS, ho⟩ := hrel
        have HQ := Lib.hid hS
        have HO := Lib.hid ho
        clear hS ho
        by_cases hle : i1 ≤ ii
        · have d1 : decide (((i1 : Nat) : Int) ≤ (ii : Nat)) = true := by simp; omega
          have szii : (0 : Int) ≤ (ii : Nat) := by omega
          have snii : ((ii : Nat) : Int) < (n : Nat) := by omega
          obtain ⟨la, lb⟩ := two_cells RR.out H0.out HQ.out.1 HQ.out.2 ii a (by omega) (by omega)
          have hc := HH.out.at HQ.out.2 HQ.out.1 dk[ii]! dk[a]!
          cases hlv : (ltOf cf) dk[ii]! dk[a]! with
          | true =>
            have hd := lt_true hlv
            have HG := Lib.hid (show ii = j1 from by rw [← HO.out]; exact (scanDown_end prj1 dk i1 ii (.inr (by rw [HVj1.out]; simp [hlv]))).symm)
            clear HO
            have SG := Lib.hid (fun q os => And.intro HQ.out.1 (HQ.out.2.grown q os))
            clear hlv HQ
            generalize dk[ii]! = xa at la hc hd
            generalize dk[a]! = xb at lb hc hd
            go_wp2_with fail
            go_quiet_grown (first | (go_at_call 59; exact hc _ _))
            have S2 := Lib.hid (SG.out nq osq)
            clear la lb hc SG hd
            generalize grow (wr.drewN nq) osq = w2 at *
            go_wp2_with fail
            go_meet
            case rel => exact ⟨by rw [HG.out], S2.out⟩
          | false =>
            have hd := lt_false hlv
            have HG := Lib.hid (show scanDown prj1 dk i1 (ii - 1) = j1 from by rw [← HO.out]; exact (scanDown_go prj1 dk i1 ii hle (by omega) (by rw [HVj1.out]; simp [hlv])).symm)
            clear HO
            have em : ((ii : Nat) : Int) - 1 = ((ii - 1 : Nat) : Int) := by omega
            have SG := Lib.hid (fun q os => And.intro HQ.out.1 (HQ.out.2.grown q os))
            clear hlv HQ
            generalize dk[ii]! = xa at la hc hd
            generalize dk[a]! = xb at lb hc hd
            go_wp2_with fail
            go_quiet_grown (first | (go_at_call 59; exact hc _ _))
            have S2 := Lib.hid (SG.out nq osq)
            clear la lb hc SG hd
            generalize grow (wr.drewN nq) osq = w2 at *
            go_wp2_with fail
            go_roundw
            case rel => exact ⟨ii - 1, by first | rfl | go_num, by omega, by omega, S2.out, HG.out⟩
            case measure => simp [intOf]; omega
        · have d1 : decide (((i1 : Nat) : Int) ≤ (ii : Nat)) = false := by simp; omega
          have S2 := Lib.hid (And.intro HQ.out.1 HQ.out.2.drew)
          have HG := Lib.hid (show ii = j1 from by rw [← HO.out]; exact (scanDown_end prj1 dk i1 ii (.inl hle)).symm)
          clear HO HQ
          go_wp2_with fail
          go_region
          generalize wr.drew = w2 at *
          go_wp2_with fail
          go_meet
          case rel => exact ⟨by rw [HG.out], S2.out⟩
    case rest =>
      clear HS2
      obtain ⟨rfl, hS⟩ := hcut
      have HS3 := Lib.hid hS
      clear hS
      by_cases hbr : j1 < i1
      · have d1 : decide ((j1 : Int) < (i1 : Nat)) = true := by simp; omega
        have HR := Lib.hid (show R0 = (j1, true, swp dk j1 a) from by rw [← HR0.out]; exact part_first_break (ltOf cf) d a b p HIJ.out.1 HIJ.out.2 HDK.out (i2 := i1) (j2 := j1) (by rw [← HPi1.out]; exact HEi1.out) (by rw [← HPj1.out]; exact HEj1.out) hbr)
        clear HR0 HEi1 HEj1
        have szj1 : (0 : Int) ≤ (j1 : Nat) := by omega
        have snj1 : ((j1 : Nat) : Int) < (n : Nat) := by omega
        obtain ⟨cz1, cz2, fz1, fz2, ⟨u, cz3⟩, q3, hs3⟩ := two_swap (W := wc) RR.out H0.out HS3.out.1 HS3.out.2 j1 a (by omega) (by omega)
        have S3 := Lib.hid (And.intro hs3 q3)
        clear HS3 q3 hs3
        generalize dk[j1]! = ya at cz1 S3
        generalize dk[a]! = yb at cz2 cz3 S3
        go_wp2_with fail
        go_region
        clear cz1 cz2 cz3 fz1 fz2
        generalize ((wc.setCell ⟨blk, off + j1, none⟩ (eK yb)).setCell ⟨blk, off + a, none⟩ (eK ya)).drew = w5 at *
        go_wp2_with fail
        go_ret2
        rw [HR.out]
        exact ⟨rfl, S3.out⟩
      · have hlt1 := part_scans_lt (ltOf cf) a i j dk (i2 := i1) (j2 := j1) (by omega) (by rw [← HPi1.out]; exact HEi1.out) (by rw [← HPj1.out]; exact HEj1.out) (by omega)
        have d1 : decide ((j1 : Int) < (i1 : Nat)) = false := by simp; omega
        obtain ⟨PL, hPL⟩ : ∃ x, partLoop (ltOf cf) a (i1 + 1) (j1 - 1) (swp dk i1 j1) = x := ⟨_, rfl⟩
        have HR := Lib.hid (show R0 = (PL.1, false, swp PL.2 PL.1 a) from by rw [← HR0.out, ← hPL]; exact part_first_go (ltOf cf) d a b p HIJ.out.1 HIJ.out.2 HDK.out (i2 := i1) (j2 := j1) (by rw [← HPi1.out]; exact HEi1.out) (by rw [← HPj1.out]; exact HEj1.out) (by omega))
        have em : ((j1 : Nat) : Int) - 1 = ((j1 - 1 : Nat) : Int) := by omega
        have HPL := Lib.hid hPL
        clear HR0 HEi1 HEj1 HPi1 HPj1 HVi1 HVj1 hPL
        have szi1 : (0 : Int) ≤ (i1 : Nat) := by omega
        have sni1 : ((i1 : Nat) : Int) < (n : Nat) := by omega
        have szj1 : (0 : Int) ≤ (j1 : Nat) := by omega
        have snj1 : ((j1 : Nat) : Int) < (n : Nat) := by omega
        obtain ⟨cz1, cz2, fz1, fz2, ⟨u, cz3⟩, q3, hs3⟩ := two_swap (W := wc) RR.out H0.out HS3.out.1 HS3.out.2 i1 j1 (by omega) (by omega)
        have S3 := Lib.hid (And.intro hs3 q3)
        clear HS3 q3 hs3
        generalize dk[i1]! = ya at cz1 S3
        generalize dk[j1]! = yb at cz2 cz3 S3
        go_wp2_with fail
        go_region
        clear cz1 cz2 cz3 fz1 fz2
        generalize ((wc.setCell ⟨blk, off + i1, none⟩ (eK yb)).setCell ⟨blk, off + j1, none⟩ (eK ya)).drew = w5 at *
        go_wp2_with fail
        go_loopw [12, 13] (fun x y wr => ∃ (i j : Nat) (dk : Array Ik), x = .int .i64 i ∧ y = .int .i64 j ∧ a < i ∧ i ≤ j + 1 ∧ j < b ∧ (dk.size = n ∧ SW eK w0 blk off dk wr) ∧ partLoop (ltOf cf) a i j dk = PL) (fun x y _ => (intOf y + 1 - intOf x).toNat)
        case atStart => exact ⟨i1 + 1, j1 - 1, _, by go_num, by first | rfl | go_num, by omega, by omega, by omega, S3.out, HPL.out⟩
        case round =>
          clear S3 HPL hai hij hjb ei ej HIJ HDK hbi1 hbj1 hlt1 d1 em szi1 sni1 szj1 snj1 hbr
          obtain ⟨i, j, dk, rfl, rfl, hai, hij, hjb, hS, ho⟩ := hrel
          have HS := Lib.hid hS
          have HL := Lib.hid ho
          clear hS ho
          obtain ⟨pri2, hpr⟩ : ∃ f : Ik → Bool, f = (fun x => (ltOf cf) x dk[a]!) := ⟨_, rfl⟩
          have HPi2 := Lib.hid hpr
          have HVi2 := Lib.hid (fun y => show pri2 y = ((fun x => (ltOf cf) x dk[a]!)) y from by rw [hpr])
          clear hpr
          obtain ⟨i2, hi2⟩ : ∃ x, x = scanUp pri2 dk j i := ⟨_, rfl⟩
          have hu := scanUp_spec pri2 dk j _ i rfl
          rw [← hi2] at hu
          have hbi2 : i ≤ i2 ∧ i2 ≤ j + 1 := ⟨hu.1, hu.2.1 (by omega)⟩
          have HEi2 := Lib.hid hi2
          clear hu hi2
          go_upto_block 6 with fail
          go_cut [12] (fun x wx => x = .int .i64 (i2 : Nat) ∧ (dk.size = n ∧ SW eK w0 blk off dk wx))
          case first =>
            go_wp2_with fail
            go_loopw [12] (fun x wr => ∃ ii : Nat, x = .int .i64 ii ∧ i ≤ ii ∧ ii ≤ j + 1 ∧ (dk.size = n ∧ SW eK w0 blk off dk wr) ∧ scanUp pri2 dk j ii = i2) (fun x _ => j + 1 - (intOf x).toNat)
            case atStart => exact ⟨i, rfl, by omega, by omega, HS.out, HEi2.out.symm⟩
            case round =>
              clear HS
              obtain ⟨ii, rfl, h1, h2, hS, ho⟩ := hrel
              have HQ := Lib.hid hS
              have HO := Lib.hid ho
              clear hS ho
              by_cases hle : ii ≤ j
              · have d1 : decide (((ii : Nat) : Int) ≤ (j : Nat)) = true := by simp; omega
                have szii : (0 : Int) ≤ (ii : Nat) := by omega
                have snii : ((ii : Nat) : Int) < (n : Nat) := by omega
                obtain ⟨la, lb⟩ := two_cells RR.out H0.out HQ.out.1 HQ.out.2 ii a (by omega) (by omega)
                have hc := HH.out.at HQ.out.2 HQ.out.1 dk[ii]! dk[a]!
                cases hlv : (ltOf cf) dk[ii]! dk[a]! with
                | true =>
                  have hd := lt_true hlv
                  have HG := Lib.hid (show scanUp pri2 dk j (ii + 1) = i2 from by rw [← HO.out]; exact (scanUp_go pri2 dk j ii hle (by rw [HVi2.out]; simp [hlv])).symm)
                  clear HO
                  have SG := Lib.hid (fun q os => And.intro HQ.out.1 (HQ.out.2.grown q os))
                  clear hlv HQ
                  generalize dk[ii]! = xa at la hc hd
                  generalize dk[a]! = xb at lb hc hd
                  go_wp2_with fail
                  go_quiet_grown (first | (go_at_call 59; exact hc _ _))
                  have S2 := Lib.hid (SG.out nq osq)
                  clear la lb hc SG hd
                  generalize grow (wr.drewN nq) osq = w2 at *
                  go_wp2_with fail
                  go_roundw
                  case rel => exact ⟨ii + 1, by first | rfl | go_num, by omega, by omega, S2.out, HG.out⟩
                  case measure => simp [intOf]; omega
                | false =>
                  have hd := lt_false hlv
                  have HG := Lib.hid (show ii = i2 from by rw [← HO.out]; exact (scanUp_end pri2 dk j ii (.inr (by rw [HVi2.out]; simp [hlv]))).symm)
                  clear HO
                  have SG := Lib.hid (fun q os => And.intro HQ.out.1 (HQ.out.2.grown q os))
                  clear hlv HQ
                  generalize dk[ii]! = xa at la hc hd
                  generalize dk[a]! = xb at lb hc hd
                  go_wp2_with fail
                  go_quiet_grown (first | (go_at_call 59; exact hc _ _))
                  have S2 := Lib.hid (SG.out nq osq)
                  clear la lb hc SG hd
                  generalize grow (wr.drewN nq) osq = w2 at *
                  go_wp2_with fail
                  go_meet
                  case rel => exact ⟨by rw [HG.out], S2.out⟩
              · have d1 : decide (((ii : Nat) : Int) ≤ (j : Nat)) = false := by simp; omega
                have S2 := Lib.hid (And.intro HQ.out.1 HQ.out.2.drew)
                have HG := Lib.hid (show ii = i2 from by rw [← HO.out]; exact (scanUp_end pri2 dk j ii (.inl hle)).symm)
                clear HO HQ
                go_wp2_with fail
                go_region
                generalize wr.drew = w2 at *
                go_wp2_with fail
                go_meet
                case rel => exact ⟨by rw [HG.out], S2.out⟩
          case rest =>
            clear HS
            obtain ⟨rfl, hS⟩ := hcut
            have HS2 := Lib.hid hS
            clear hS
            obtain ⟨prj2, hpr⟩ : ∃ f : Ik → Bool, f = (fun x => !(ltOf cf) x dk[a]!) := ⟨_, rfl⟩
            have HPj2 := Lib.hid hpr
            have HVj2 := Lib.hid (fun y => show prj2 y = ((fun x => !(ltOf cf) x dk[a]!)) y from by rw [hpr])
            clear hpr
            obtain ⟨j2, hj2⟩ : ∃ x, x = scanDown prj2 dk i2 j := ⟨_, rfl⟩
            have hu := scanDown_spec prj2 dk i2 j
            rw [← hj2] at hu
            have hbj2 : j2 ≤ j ∧ i2 ≤ j2 + 1 := ⟨hu.1, hu.2.1 (by omega)⟩
            have HEj2 := Lib.hid hj2
            clear hu hj2
            go_upto_block 8 with fail
            go_cut [13] (fun x wx => x = .int .i64 (j2 : Nat) ∧ (dk.size = n ∧ SW eK w0 blk off dk wx))
            case first =>
              go_wp2_with fail
              go_loopw [13] (fun x wr => ∃ ii : Nat, x = .int .i64 ii ∧ ii ≤ j ∧ i2 ≤ ii + 1 ∧ (dk.size = n ∧ SW eK w0 blk off dk wr) ∧ scanDown prj2 dk i2 ii = j2) (fun x _ => (intOf x).toNat)
              case atStart => exact ⟨j, rfl, by omega, by omega, HS2.out, HEj2.out.symm⟩
              case round =>
                clear HS2
                obtain ⟨ii, rfl, h1, h2, hS, ho⟩ := hrel
                have HQ := Lib.hid hS
                have HO := Lib.hid ho
                clear hS ho
                by_cases hle : i2 ≤ ii
                · have d1 : decide (((i2 : Nat) : Int) ≤ (ii : Nat)) = true := by simp; omega
                  have szii : (0 : Int) ≤ (ii : Nat) := by omega
                  have snii : ((ii : Nat) : Int) < (n : Nat) := by omega
                  obtain ⟨la, lb⟩ := two_cells RR.out H0.out HQ.out.1 HQ.out.2 ii a (by omega) (by omega)
                  have hc := HH.out.at HQ.out.2 HQ.out.1 dk[ii]! dk[a]!
                  cases hlv : (ltOf cf) dk[ii]! dk[a]! with
                  | true =>
                    have hd := lt_true hlv
                    have HG := Lib.hid (show ii = j2 from by rw [← HO.out]; exact (scanDown_end prj2 dk i2 ii (.inr (by rw [HVj2.out]; simp [hlv]))).symm)
                    clear HO
                    have SG := Lib.hid (fun q os => And.intro HQ.out.1 (HQ.out.2.grown q os))
                    clear hlv HQ
                    generalize dk[ii]! = xa at la hc hd
                    generalize dk[a]! = xb at lb hc hd
                    go_wp2_with fail
                    go_quiet_grown (first | (go_at_call 59; exact hc _ _))
                    have S2 := Lib.hid (SG.out nq osq)
                    clear la lb hc SG hd
                    generalize grow (wr.drewN nq) osq = w2 at *
                    go_wp2_with fail
                    go_meet
                    case rel => exact ⟨by rw [HG.out], S2.out⟩
                  | false =>
                    have hd := lt_false hlv
                    have HG := Lib.hid (show scanDown prj2 dk i2 (ii - 1) = j2 from by rw [← HO.out]; exact (scanDown_go prj2 dk i2 ii hle (by omega) (by rw [HVj2.out]; simp [hlv])).symm)
                    clear HO
                    have em : ((ii : Nat) : Int) - 1 = ((ii - 1 : Nat) : Int) := by omega
                    have SG := Lib.hid (fun q os => And.intro HQ.out.1 (HQ.out.2.grown q os))
                    clear hlv HQ
                    generalize dk[ii]! = xa at la hc hd
                    generalize dk[a]! = xb at lb hc hd
                    go_wp2_with fail
                    go_quiet_grown (first | (go_at_call 59; exact hc _ _))
                    have S2 := Lib.hid (SG.out nq osq)
                    clear la lb hc SG hd
                    generalize grow (wr.drewN nq) osq = w2 at *
                    go_wp2_with fail
                    go_roundw
                    case rel => exact ⟨ii - 1, by first | rfl | go_num, by omega, by omega, S2.out, HG.out⟩
                    case measure => simp [intOf]; omega
                · have d1 : decide (((i2 : Nat) : Int) ≤ (ii : Nat)) = false := by simp; omega
                  have S2 := Lib.hid (And.intro HQ.out.1 HQ.out.2.drew)
                  have HG := Lib.hid (show ii = j2 from by rw [← HO.out]; exact (scanDown_end prj2 dk i2 ii (.inl hle)).symm)
                  clear HO HQ
                  go_wp2_with fail
                  go_region
                  generalize wr.drew = w2 at *
                  go_wp2_with fail
                  go_meet
                  case rel => exact ⟨by rw [HG.out], S2.out⟩
            case rest =>
              clear HS2
              obtain ⟨rfl, hS⟩ := hcut
              have HS3 := Lib.hid hS
              clear hS
              by_cases hbr : j2 < i2
              · have d1 : decide ((j2 : Int) < (i2 : Nat)) = true := by simp; omega
                have HQ := Lib.hid (show R0 = (j2, false, swp dk j2 a) from by
                  have h : PL = (j2, dk) := by rw [← HL.out]; exact part_break (ltOf cf) a i j dk (i2 := i2) (j2 := j2) (by rw [← HPi2.out]; exact HEi2.out) (by rw [← HPj2.out]; exact HEj2.out) hbr
                  rw [HR.out, h])
                clear HL HR HEi2 HEj2
                have szj2 : (0 : Int) ≤ (j2 : Nat) := by omega
                have snj2 : ((j2 : Nat) : Int) < (n : Nat) := by omega
                obtain ⟨cz1, cz2, fz1, fz2, ⟨u, cz3⟩, q3, hs3⟩ := two_swap (W := wc) RR.out H0.out HS3.out.1 HS3.out.2 j2 a (by omega) (by omega)
                have S3 := Lib.hid (And.intro hs3 q3)
                clear HS3 q3 hs3
                generalize dk[j2]! = ya at cz1 S3
                generalize dk[a]! = yb at cz2 cz3 S3
                go_wp2_with fail
                go_region
                clear cz1 cz2 cz3 fz1 fz2
                generalize ((wc.setCell ⟨blk, off + j2, none⟩ (eK yb)).setCell ⟨blk, off + a, none⟩ (eK ya)).drew = w7 at *
                go_wp2_with fail
                go_ret2
                rw [HQ.out]
                exact ⟨rfl, S3.out⟩
              · have hlt2 := part_scans_lt (ltOf cf) a i j dk (i2 := i2) (j2 := j2) (by omega) (by rw [← HPi2.out]; exact HEi2.out) (by rw [← HPj2.out]; exact HEj2.out) (by omega)
                have d1 : decide ((j2 : Int) < (i2 : Nat)) = false := by simp; omega
                have HG := Lib.hid (show partLoop (ltOf cf) a (i2 + 1) (j2 - 1) (swp dk i2 j2) = PL from by rw [← HL.out]; exact (part_go (ltOf cf) a i j dk (i2 := i2) (j2 := j2) (by rw [← HPi2.out]; exact HEi2.out) (by rw [← HPj2.out]; exact HEj2.out) (by omega)).symm)
                have em : ((j2 : Nat) : Int) - 1 = ((j2 - 1 : Nat) : Int) := by omega
                clear HL HEi2 HEj2
                have szi2 : (0 : Int) ≤ (i2 : Nat) := by omega
                have sni2 : ((i2 : Nat) : Int) < (n : Nat) := by omega
                have szj2 : (0 : Int) ≤ (j2 : Nat) := by omega
                have snj2 : ((j2 : Nat) : Int) < (n : Nat) := by omega
                obtain ⟨cz1, cz2, fz1, fz2, ⟨u, cz3⟩, q3, hs3⟩ := two_swap (W := wc) RR.out H0.out HS3.out.1 HS3.out.2 i2 j2 (by omega) (by omega)
                have S3 := Lib.hid (And.intro hs3 q3)
                clear HS3 q3 hs3
                generalize dk[i2]! = ya at cz1 S3
                generalize dk[j2]! = yb at cz2 cz3 S3
                go_wp2_with fail
                go_region
                clear cz1 cz2 cz3 fz1 fz2
                generalize ((wc.setCell ⟨blk, off + i2, none⟩ (eK yb)).setCell ⟨blk, off + j2, none⟩ (eK ya)).drew = w7 at *
                go_wp2_with fail
                go_roundw
                case rel => exact ⟨i2 + 1, j2 - 1, _, by go_num, by first | rfl | go_num, by omega, by omega, by omega, S3.out, HG.out⟩
                case measure => simp [intOf]; omega
end Go.Proofs.Ytjjanogfcfapcaa.W
