/- The walks of reverseRangeCmpFunc, siftDownCmpFunc and heapSortCmpFunc (written by tools/gen_wq.py). -/
import Derived.Test.YtjjanogfcfapcaaWqa
namespace Go.Proofs.Ytjjanogfcfapcaa.W
open Go.RowKit Go.Shelf Go.Sort
open Go.Proofs (SW Row1 ltOf)
set_option linter.unusedVariables false
variable {cf : Ik → Ik → Int} {g blk off n : Nat} {w0 W : World} {d0 dk : Array Ik}
theorem rev_go (i j : Nat) (d : Array Ik) (h : i < j) : reverseLoop i j d = reverseLoop (i + 1) (j - 1) (swp d i j) := by rw [reverseLoop, if_pos h]
theorem rev_end (i j : Nat) (d : Array Ik) (h : ¬ i < j) : reverseLoop i j d = d := by rw [reverseLoop, if_neg h]
set_option maxRecDepth 1000000 in
set_option maxHeartbeats 4000000 in
theorem rev_s (fv : Value) (R : Row1 eK w0 blk off d0) (h0 : d0.size = n) (hn : n ≤ 100000) (cap a b : Nat) (d : Array Ik) (w : World) (hs : d.size = n) (S : SW eK w0 blk off d w) (hab : a < b) (hb : b ≤ n) :
    Calls Try.prog 74 #[.slice (some ⟨blk, off, none⟩) n cap, .int .i64 (a : Nat), .int .i64 (b : Nat), fv] w fun e w' => e = .returned (.tuple #[]) ∧ SW eK w0 blk off (reverseRange d a b) w' := by
  have mixed : Try.prog.follows .mixedOrders = true := by kernel_rfl
  have hcl0 := eK_one.cells
  simp only [Value.cells] at hcl0
  have hst := eK_one.store Try.prog
  have RR := Lib.hid R
  have S0 := Lib.hid (And.intro hs S)
  have H0 := Lib.hid h0
  clear R hs S h0
  go_enter Try.func74, Try.ntmps74
  have eb : IntKind.i64.wrap ((b : Int) - 1) = ((b - 1 : Nat) : Int) := by rw [wrapI] <;> omega
  go_wp2_with fail
  go_loopw [8, 9] (fun x y wr => ∃ (i j : Nat) (dk : Array Ik), x = .int .i64 i ∧ y = .int .i64 j ∧ a ≤ i ∧ j < b ∧ (dk.size = n ∧ SW eK w0 blk off dk wr) ∧ reverseLoop i j dk = reverseLoop a (b - 1) d) (fun x y _ => (intOf y).toNat - (intOf x).toNat)
  case atStart => exact ⟨a, b - 1, d, rfl, by first | rfl | go_num, Nat.le_refl _, by omega, S0.out, rfl⟩
  case round =>
    clear S0
    obtain ⟨i, j, dk, rfl, rfl, hai, hjb, hS, ho⟩ := hrel
    have HS := Lib.hid hS
    have HO := Lib.hid ho
    clear hS ho
    by_cases hlt : i < j
    · have d1 : decide ((i : Int) < (j : Nat)) = true := by simp; omega
      have HG := Lib.hid (show reverseLoop (i + 1) (j - 1) (swp dk i j) = reverseLoop a (b - 1) d from by rw [← HO.out, rev_go i j dk hlt])
      clear HO
      have szi : (0 : Int) ≤ (i : Nat) := by omega
      have sni : ((i : Nat) : Int) < (n : Nat) := by omega
      have szj : (0 : Int) ≤ (j : Nat) := by omega
      have snj : ((j : Nat) : Int) < (n : Nat) := by omega
      obtain ⟨cz1, cz2, fz1, fz2, ⟨u, cz3⟩, q3, hs3⟩ := two_swap (W := wr) RR.out H0.out HS.out.1 HS.out.2 i j (by omega) (by omega)
      have S3 := Lib.hid (And.intro hs3 q3)
      clear HS q3 hs3
      generalize dk[i]! = ya at cz1 S3
      generalize dk[j]! = yb at cz2 cz3 S3
      go_wp2_with fail
      go_region
      clear cz1 cz2 cz3 fz1 fz2
      generalize ((wr.setCell ⟨blk, off + i, none⟩ (eK yb)).setCell ⟨blk, off + j, none⟩ (eK ya)).drew = w3 at *
      have e1 : ((j : Int) - 1) = ((j - 1 : Nat) : Int) := by omega
      go_wp2_with fail
      go_roundw
      case rel => exact ⟨i + 1, j - 1, _, by go_num, by first | rfl | go_num, by omega, by omega, S3.out, HG.out⟩
      case measure => simp [intOf]; omega
    · have d1 : decide ((i : Int) < (j : Nat)) = false := by simp; omega
      have HF := Lib.hid (show SW eK w0 blk off (reverseRange d a b) wr from by unfold reverseRange; rw [← HO.out, rev_end i j dk hlt]; exact HS.out.2)
      clear HO HS
      go_wp2_with fail
      go_end0
      exact ⟨rfl, HF.out⟩
theorem sdr_stop {hi first r c fr fc c1 f1 : Nat} {dk : Array Ik} (hc0 : 2 * r + 1 = c) (hfr : first + r = fr) (hfc : first + c = fc) (hc1 : c + 1 = c1) (hf1 : first + c1 = f1) (h2 : c + 1 < hi) (l1 : (ltOf cf) dk[fc]! dk[f1]! = true) (l2 : (ltOf cf) dk[fr]! dk[f1]! = false) : siftDown (ltOf cf) hi first r dk = dk := by
  subst hf1 hc1 hfc hfr hc0
  exact sd_right_stop _ dk (by omega) l1 l2
theorem sdr_go {hi first r c fr fc c1 f1 : Nat} {dk : Array Ik} (hc0 : 2 * r + 1 = c) (hfr : first + r = fr) (hfc : first + c = fc) (hc1 : c + 1 = c1) (hf1 : first + c1 = f1) (h2 : c + 1 < hi) (l1 : (ltOf cf) dk[fc]! dk[f1]! = true) (l2 : (ltOf cf) dk[fr]! dk[f1]! = true) : siftDown (ltOf cf) hi first r dk = siftDown (ltOf cf) hi first c1 (swp dk fr f1) := by
  subst hf1 hc1 hfc hfr hc0
  exact sd_right_go _ dk (by omega) l1 l2
theorem sdl_stop {hi first r c fr fc : Nat} {dk : Array Ik} (hc0 : 2 * r + 1 = c) (hfr : first + r = fr) (hfc : first + c = fc) (hlt : c < hi) (l1 : c + 1 < hi → (ltOf cf) dk[fc]! dk[first + (c + 1)]! = false) (l2 : (ltOf cf) dk[fr]! dk[fc]! = false) : siftDown (ltOf cf) hi first r dk = dk := by
  subst hfc hfr hc0
  exact sd_left_stop _ dk (by omega) (fun h => l1 (by omega)) l2
theorem sdl_go {hi first r c fr fc : Nat} {dk : Array Ik} (hc0 : 2 * r + 1 = c) (hfr : first + r = fr) (hfc : first + c = fc) (hlt : c < hi) (l1 : c + 1 < hi → (ltOf cf) dk[fc]! dk[first + (c + 1)]! = false) (l2 : (ltOf cf) dk[fr]! dk[fc]! = true) : siftDown (ltOf cf) hi first r dk = siftDown (ltOf cf) hi first c (swp dk fr fc) := by
  subst hfc hfr hc0
  exact sd_left_go _ dk (by omega) (fun h => l1 (by omega)) l2
set_option maxRecDepth 1000000 in
set_option maxHeartbeats 4000000 in
theorem sift_s (HC : CmpB cf g blk off n w0) (R : Row1 eK w0 blk off d0) (h0 : d0.size = n) (hn : n ≤ 100000) (cap lo hi first : Nat) (d : Array Ik) (w : World) (hs : d.size = n) (S : SW eK w0 blk off d w) (hlo : lo ≤ hi) (hb : first + hi ≤ n) :
    Calls Try.prog 82 #[.slice (some ⟨blk, off, none⟩) n cap, .int .i64 (lo : Nat), .int .i64 (hi : Nat), .int .i64 (first : Nat), fvB g] w fun e w' => e = .returned (.tuple #[]) ∧ SW eK w0 blk off (siftDown (ltOf cf) hi first lo d) w' := by
  have mixed : Try.prog.follows .mixedOrders = true := by kernel_rfl
  have hcl0 := eK_one.cells
  simp only [Value.cells] at hcl0
  have hst := eK_one.store Try.prog
  have HH := Lib.hid HC
  have RR := Lib.hid R
  have S0 := Lib.hid (And.intro hs S)
  have H0 := Lib.hid h0
  clear HC R hs S h0
  go_enter Try.func82, Try.ntmps82
  go_wp2_with fail
  go_loopw [10] (fun x wr => ∃ (r : Nat) (dk : Array Ik), x = .int .i64 r ∧ r ≤ hi ∧ (dk.size = n ∧ SW eK w0 blk off dk wr) ∧ siftDown (ltOf cf) hi first r dk = siftDown (ltOf cf) hi first lo d) (fun x _ => hi - (intOf x).toNat)
  case atStart => exact ⟨lo, d, rfl, hlo, S0.out, rfl⟩
  case round =>
    clear S0
    obtain ⟨r, dk, rfl, hr, hS, ho⟩ := hrel
    have HS := Lib.hid hS
    have HO := Lib.hid ho
    clear hS ho
    obtain ⟨c, hc0⟩ : ∃ c : Nat, 2 * r + 1 = c := ⟨_, rfl⟩
    have ec : 2 * (r : Int) + 1 = (c : Nat) := by omega
    by_cases hlt : c < hi
    · have d1 : decide ((hi : Int) ≤ (c : Nat)) = false := by simp; omega
      obtain ⟨fr, hfr⟩ : ∃ x : Nat, first + r = x := ⟨_, rfl⟩
      obtain ⟨fc, hfc⟩ : ∃ x : Nat, first + c = x := ⟨_, rfl⟩
      have er : IntKind.i64.wrap ((first : Int) + (r : Nat)) = (fr : Nat) := by rw [wrapI] <;> omega
      have efc : IntKind.i64.wrap ((first : Int) + (c : Nat)) = (fc : Nat) := by rw [wrapI] <;> omega
      have er2 : (first : Int) + (r : Nat) = (fr : Nat) := by omega
      have efc2 : (first : Int) + (c : Nat) = (fc : Nat) := by omega
      have ewr : IntKind.i64.wrap (fr : Nat) = (fr : Nat) := by rw [wrapI] <;> omega
      have ewc : IntKind.i64.wrap (fc : Nat) = (fc : Nat) := by rw [wrapI] <;> omega
      have szfr : (0 : Int) ≤ (fr : Nat) := by omega
      have snfr : ((fr : Nat) : Int) < (n : Nat) := by omega
      have szfc : (0 : Int) ≤ (fc : Nat) := by omega
      have snfc : ((fc : Nat) : Int) < (n : Nat) := by omega
      by_cases h2 : c + 1 < hi
      · obtain ⟨c1, hc1⟩ : ∃ x : Nat, c + 1 = x := ⟨_, rfl⟩
        obtain ⟨f1, hf1⟩ : ∃ x : Nat, first + c1 = x := ⟨_, rfl⟩
        have d2 : decide ((c1 : Int) < (hi : Nat)) = true := by simp; omega
        have e1 : IntKind.i64.wrap ((c : Int) + 1) = (c1 : Nat) := by rw [wrapI] <;> omega
        have e2 : IntKind.i64.wrap ((fc : Int) + 1) = (f1 : Nat) := by rw [wrapI] <;> omega
        have e3 : IntKind.i64.wrap ((first : Int) + (c1 : Nat)) = (f1 : Nat) := by rw [wrapI] <;> omega
        have e4 : (c : Int) + 1 = (c1 : Nat) := by omega
        have e5 : (first : Int) + (c1 : Nat) = (f1 : Nat) := by omega
        have e6 : (fc : Int) + 1 = (f1 : Nat) := by omega
        have hn2 : c1 < hi := by omega
        have ew1 : IntKind.i64.wrap (c1 : Nat) = (c1 : Nat) := by rw [wrapI] <;> omega
        have ewf : IntKind.i64.wrap (f1 : Nat) = (f1 : Nat) := by rw [wrapI] <;> omega
        have szf1 : (0 : Int) ≤ (f1 : Nat) := by omega
        have snf1 : ((f1 : Nat) : Int) < (n : Nat) := by omega
        obtain ⟨la, lb⟩ := two_cells RR.out H0.out HS.out.1 HS.out.2 fc f1 (by omega) (by omega)
        have hc := HH.out.at HS.out.2 HS.out.1 dk[fc]! dk[f1]!
        cases hlv : (ltOf cf) dk[fc]! dk[f1]! with
        | true =>
          have hd := lt_true hlv
          have HL := Lib.hid hlv
          have SG := Lib.hid (fun q os => And.intro HS.out.1 (HS.out.2.grown q os))
          clear hlv HS
          generalize dk[fc]! = xa at la hc hd
          generalize dk[f1]! = xb at lb hc hd
          go_wp2_with fail
          go_quiet_grown (first | (go_at_call 59; exact hc _ _))
          have S2 := Lib.hid (SG.out nq osq)
          clear la lb hc SG hd
          generalize grow (wr.drewN nq) osq = w2 at *
          have S1 := S2
          clear S2
          obtain ⟨la, lb⟩ := two_cells RR.out H0.out S1.out.1 S1.out.2 fr f1 (by omega) (by omega)
          have hc := HH.out.at S1.out.2 S1.out.1 dk[fr]! dk[f1]!
          cases hlv : (ltOf cf) dk[fr]! dk[f1]! with
          | true =>
            have hd := lt_true hlv
            have HG := Lib.hid (show siftDown (ltOf cf) hi first c1 (swp dk fr f1) = siftDown (ltOf cf) hi first lo d from by rw [← HO.out, sdr_go hc0 hfr hfc hc1 hf1 h2 HL.out hlv])
            clear HO
            have SG := Lib.hid (fun q os => And.intro S1.out.1 (S1.out.2.grown q os))
            clear hlv S1
            generalize dk[fr]! = xa at la hc hd
            generalize dk[f1]! = xb at lb hc hd
            go_wp2_with fail
            go_quiet_grown (first | (go_at_call 59; exact hc _ _))
            have S2 := Lib.hid (SG.out nq osq)
            clear la lb hc SG hd
            generalize grow (w2.drewN nq) osq = w2 at *
            obtain ⟨cz1, cz2, fz1, fz2, ⟨u, cz3⟩, q3, hs3⟩ := two_swap (W := w2) RR.out H0.out S2.out.1 S2.out.2 fr f1 (by omega) (by omega)
            have S3 := Lib.hid (And.intro hs3 q3)
            clear S2 q3 hs3
            generalize dk[fr]! = ya at cz1 S3
            generalize dk[f1]! = yb at cz2 cz3 S3
            go_wp2_with fail
            go_region
            clear cz1 cz2 cz3 fz1 fz2
            generalize ((w2.setCell ⟨blk, off + fr, none⟩ (eK yb)).setCell ⟨blk, off + f1, none⟩ (eK ya)).drew = w3 at *
            go_wp2_with fail
            go_roundw
            case rel => exact ⟨c1, _, by first | rfl | go_num, by omega, S3.out, HG.out⟩
            case measure => simp [intOf]; omega
          | false =>
            have hd := lt_false hlv
            have HG := Lib.hid (show dk = siftDown (ltOf cf) hi first lo d from by rw [← HO.out, sdr_stop hc0 hfr hfc hc1 hf1 h2 HL.out hlv])
            clear HO
            have SG := Lib.hid (fun q os => And.intro S1.out.1 (S1.out.2.grown q os))
            clear hlv S1
            generalize dk[fr]! = xa at la hc hd
            generalize dk[f1]! = xb at lb hc hd
            go_wp2_with fail
            go_quiet_grown (first | (go_at_call 59; exact hc _ _))
            have S2 := Lib.hid (SG.out nq osq)
            clear la lb hc SG hd
            generalize grow (w2.drewN nq) osq = w2 at *
            go_wp2_with fail
            (try simp only [Exit.inBlock, Exit.then]); refine bodyPost_ret (results_none rfl _ _ _) rfl ?_
            exact ⟨rfl, by rw [← HG.out]; exact S2.out.2⟩
        | false =>
          have hd := lt_false hlv
          have HL := Lib.hid (show (ltOf cf) dk[fc]! dk[first + (c + 1)]! = false from by rw [show first + (c + 1) = f1 by omega]; exact hlv)
          have SG := Lib.hid (fun q os => And.intro HS.out.1 (HS.out.2.grown q os))
          clear hlv HS
          generalize dk[fc]! = xa at la hc hd
          generalize dk[f1]! = xb at lb hc hd
          go_wp2_with fail
          go_quiet_grown (first | (go_at_call 59; exact hc _ _))
          have S2 := Lib.hid (SG.out nq osq)
          clear la lb hc SG hd
          generalize grow (wr.drewN nq) osq = w2 at *
          have S1 := S2
          clear S2
          obtain ⟨la, lb⟩ := two_cells RR.out H0.out S1.out.1 S1.out.2 fr fc (by omega) (by omega)
          have hc := HH.out.at S1.out.2 S1.out.1 dk[fr]! dk[fc]!
          cases hlv : (ltOf cf) dk[fr]! dk[fc]! with
          | true =>
            have hd := lt_true hlv
            have HG := Lib.hid (show siftDown (ltOf cf) hi first c (swp dk fr fc) = siftDown (ltOf cf) hi first lo d from by rw [← HO.out, sdl_go hc0 hfr hfc hlt (fun _ => HL.out) hlv])
            clear HO
            have SG := Lib.hid (fun q os => And.intro S1.out.1 (S1.out.2.grown q os))
            clear hlv S1
            generalize dk[fr]! = xa at la hc hd
            generalize dk[fc]! = xb at lb hc hd
            go_wp2_with fail
            go_quiet_grown (first | (go_at_call 59; exact hc _ _))
            have S2 := Lib.hid (SG.out nq osq)
            clear la lb hc SG hd
            generalize grow (w2.drewN nq) osq = w2 at *
            obtain ⟨cz1, cz2, fz1, fz2, ⟨u, cz3⟩, q3, hs3⟩ := two_swap (W := w2) RR.out H0.out S2.out.1 S2.out.2 fr fc (by omega) (by omega)
            have S3 := Lib.hid (And.intro hs3 q3)
            clear S2 q3 hs3
            generalize dk[fr]! = ya at cz1 S3
            generalize dk[fc]! = yb at cz2 cz3 S3
            go_wp2_with fail
            go_region
            clear cz1 cz2 cz3 fz1 fz2
            generalize ((w2.setCell ⟨blk, off + fr, none⟩ (eK yb)).setCell ⟨blk, off + fc, none⟩ (eK ya)).drew = w3 at *
            go_wp2_with fail
            go_roundw
            case rel => exact ⟨c, _, by first | rfl | go_num, by omega, S3.out, HG.out⟩
            case measure => simp [intOf]; omega
          | false =>
            have hd := lt_false hlv
            have HG := Lib.hid (show dk = siftDown (ltOf cf) hi first lo d from by rw [← HO.out, sdl_stop hc0 hfr hfc hlt (fun _ => HL.out) hlv])
            clear HO
            have SG := Lib.hid (fun q os => And.intro S1.out.1 (S1.out.2.grown q os))
            clear hlv S1
            generalize dk[fr]! = xa at la hc hd
            generalize dk[fc]! = xb at lb hc hd
            go_wp2_with fail
            go_quiet_grown (first | (go_at_call 59; exact hc _ _))
            have S2 := Lib.hid (SG.out nq osq)
            clear la lb hc SG hd
            generalize grow (w2.drewN nq) osq = w2 at *
            go_wp2_with fail
            (try simp only [Exit.inBlock, Exit.then]); refine bodyPost_ret (results_none rfl _ _ _) rfl ?_
            exact ⟨rfl, by rw [← HG.out]; exact S2.out.2⟩
      · have d2 : decide ((c : Int) + 1 < (hi : Nat)) = false := by simp; omega
        have e1 : IntKind.i64.wrap ((c : Int) + 1) = (c : Int) + 1 := by rw [wrapI] <;> omega
        have S1 := Lib.hid (And.intro HS.out.1 HS.out.2.drew)
        clear HS
        go_wp2_with fail
        go_region
        generalize wr.drew = w1 at *
        obtain ⟨la, lb⟩ := two_cells RR.out H0.out S1.out.1 S1.out.2 fr fc (by omega) (by omega)
        have hc := HH.out.at S1.out.2 S1.out.1 dk[fr]! dk[fc]!
        cases hlv : (ltOf cf) dk[fr]! dk[fc]! with
        | true =>
          have hd := lt_true hlv
          have HG := Lib.hid (show siftDown (ltOf cf) hi first c (swp dk fr fc) = siftDown (ltOf cf) hi first lo d from by rw [← HO.out, sdl_go hc0 hfr hfc hlt (fun h => absurd h h2) hlv])
          clear HO
          have SG := Lib.hid (fun q os => And.intro S1.out.1 (S1.out.2.grown q os))
          clear hlv S1
          generalize dk[fr]! = xa at la hc hd
          generalize dk[fc]! = xb at lb hc hd
          go_wp2_with fail
          go_quiet_grown (first | (go_at_call 59; exact hc _ _))
          have S2 := Lib.hid (SG.out nq osq)
          clear la lb hc SG hd
          generalize grow (w1.drewN nq) osq = w2 at *
          obtain ⟨cz1, cz2, fz1, fz2, ⟨u, cz3⟩, q3, hs3⟩ := two_swap (W := w2) RR.out H0.out S2.out.1 S2.out.2 fr fc (by omega) (by omega)
          have S3 := Lib.hid (And.intro hs3 q3)
          clear S2 q3 hs3
          generalize dk[fr]! = ya at cz1 S3
          generalize dk[fc]! = yb at cz2 cz3 S3
          go_wp2_with fail
          go_region
          clear cz1 cz2 cz3 fz1 fz2
          generalize ((w2.setCell ⟨blk, off + fr, none⟩ (eK yb)).setCell ⟨blk, off + fc, none⟩ (eK ya)).drew = w3 at *
          go_wp2_with fail
          go_roundw
          case rel => exact ⟨c, _, by first | rfl | go_num, by omega, S3.out, HG.out⟩
          case measure => simp [intOf]; omega
        | false =>
          have hd := lt_false hlv
          have HG := Lib.hid (show dk = siftDown (ltOf cf) hi first lo d from by rw [← HO.out, sdl_stop hc0 hfr hfc hlt (fun h => absurd h h2) hlv])
          clear HO
          have SG := Lib.hid (fun q os => And.intro S1.out.1 (S1.out.2.grown q os))
          clear hlv S1
          generalize dk[fr]! = xa at la hc hd
          generalize dk[fc]! = xb at lb hc hd
          go_wp2_with fail
          go_quiet_grown (first | (go_at_call 59; exact hc _ _))
          have S2 := Lib.hid (SG.out nq osq)
          clear la lb hc SG hd
          generalize grow (w1.drewN nq) osq = w2 at *
          go_wp2_with fail
          (try simp only [Exit.inBlock, Exit.then]); refine bodyPost_ret (results_none rfl _ _ _) rfl ?_
          exact ⟨rfl, by rw [← HG.out]; exact S2.out.2⟩
    · have d1 : decide ((hi : Int) ≤ (c : Nat)) = true := by simp; omega
      have HF := Lib.hid (show SW eK w0 blk off (siftDown (ltOf cf) hi first lo d) wr from by rw [← HO.out, sd_end _ dk (by omega)]; exact HS.out.2)
      clear HO HS
      go_wp2_with fail
      go_end0
      exact ⟨rfl, HF.out⟩
end Go.Proofs.Ytjjanogfcfapcaa.W
