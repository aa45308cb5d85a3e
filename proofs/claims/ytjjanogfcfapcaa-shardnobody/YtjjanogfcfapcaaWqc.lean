/- The walk of heapSortCmpFunc (written by tools/gen_wq.py). -/
import Derived.Test.YtjjanogfcfapcaaWqb
namespace Go.Proofs.Ytjjanogfcfapcaa.W
open Go.RowKit Go.Shelf Go.Sort
open Go.Proofs (SW Row1 ltOf)
set_option linter.unusedVariables false
variable {cf : Ik → Ik → Int} {g blk off n : Nat} {w0 W : World} {d0 dk : Array Ik}
theorem size_sd (lt : Ik → Ik → Bool) (hi F root : Nat) (d : Array Ik) : (siftDown lt hi F root d).size = d.size := Go.Sort.size_siftDown lt hi F (hi - root) root d (Nat.le_refl _)
set_option maxRecDepth 1000000 in
set_option maxHeartbeats 4000000 in
theorem heap_s (HC : CmpB cf g blk off n w0) (R : Row1 eK w0 blk off d0) (h0 : d0.size = n) (hn : n ≤ 100000) (cap a b : Nat) (d : Array Ik) (w : World) (hs : d.size = n) (S : SW eK w0 blk off d w) (hab : a ≤ b) (hb : b ≤ n) :
    Calls Try.prog 71 #[.slice (some ⟨blk, off, none⟩) n cap, .int .i64 (a : Nat), .int .i64 (b : Nat), fvB g] w fun e w' => e = .returned (.tuple #[]) ∧ SW eK w0 blk off (heapSort (ltOf cf) d a b) w' := by
  have mixed : Try.prog.follows .mixedOrders = true := by kernel_rfl
  have hcl0 := eK_one.cells
  simp only [Value.cells] at hcl0
  have hst := eK_one.store Try.prog
  have HH := Lib.hid HC
  have RR := Lib.hid R
  have S0 := Lib.hid (And.intro hs S)
  have H0 := Lib.hid h0
  clear HC R hs S h0
  obtain ⟨m, hm⟩ : ∃ m, b - a = m := ⟨_, rfl⟩
  have em : (b : Int) - (a : Nat) = (m : Nat) := by omega
  have ewm : IntKind.i64.wrap (m : Nat) = (m : Nat) := by rw [wrapI] <;> omega
  have ewm2 : IntKind.i64.wrap ((b : Int) - (a : Nat)) = (m : Nat) := by rw [em]; exact ewm
  obtain ⟨m2, hm2⟩ : ∃ x, (m - 1) / 2 + 1 = x := ⟨_, rfl⟩
  have eh : ((m : Int) - 1).tdiv 2 = (m2 : Nat) - 1 := by
    by_cases h : m = 0
    · subst h; simp at hm2; subst hm2; rfl
    · rw [Int.tdiv_eq_ediv_of_nonneg (by omega)]; omega
  have HF := Lib.hid (show heapSort (ltOf cf) d a b = heapPop (ltOf cf) a m (heapBuild (ltOf cf) m a m2 d) from by unfold heapSort; rw [hm, hm2])
  have HSD := Lib.hid (fun lo hi dk W hs S h1 h2 => sift_s (w0 := w0) (d0 := d0) HH.out RR.out H0.out hn cap lo hi a dk W hs S h1 h2)
  go_enter Try.func71, Try.ntmps71
  go_wp2_with fail
  go_loopw [11] (fun x wr => ∃ (k : Nat) (dk : Array Ik), x = .int .i64 ((k : Int) - 1) ∧ k ≤ m2 ∧ (dk.size = n ∧ SW eK w0 blk off dk wr) ∧ heapBuild (ltOf cf) m a k dk = heapBuild (ltOf cf) m a m2 d) (fun x _ => (intOf x + 1).toNat)
  case atStart => exact ⟨m2, d, by first | rfl | go_num, Nat.le_refl _, S0.out, rfl⟩
  case round =>
    clear S0
    obtain ⟨k, dk, hx, hk, hS, ho⟩ := hrel
    cases k with
    | succ k =>
      obtain rfl : u11 = .int .i64 (k : Nat) := by rw [hx]; congr 1; omega
      clear hx
      have d1 : decide ((0 : Int) ≤ (k : Nat)) = true := by simp
      have HG := Lib.hid (show heapBuild (ltOf cf) m a k (siftDown (ltOf cf) m a k dk) = heapBuild (ltOf cf) m a m2 d from by rw [← ho]; rfl)
      have HC2 := Lib.hid (HSD.out k m dk wr hS.1 hS.2 (by omega) (by omega))
      have hz := (size_sd (ltOf cf) m a k dk).trans hS.1
      clear ho hS
      go_wp2_with (go_at_call 82; with_reducible (refine HC2.out.mono ?_); rintro e w2 ⟨rfl, s2⟩)
      have S2 := Lib.hid (And.intro hz s2)
      clear hz s2
      go_roundw
      case rel => exact ⟨k, _, by first | rfl | go_num, by omega, S2.out, HG.out⟩
      case measure => simp [intOf]; try omega
    | zero =>
      obtain rfl : u11 = .int .i64 (-1) := by rw [hx]; rfl
      clear hx
      have HG := Lib.hid (show dk = heapBuild (ltOf cf) m a m2 d from ho)
      have HS := Lib.hid hS
      clear ho hS
      go_wp2_with fail
      go_loopw [12] (fun x wq => ∃ (k : Nat) (dj : Array Ik), x = .int .i64 ((k : Int) - 1) ∧ k ≤ m ∧ (dj.size = n ∧ SW eK w0 blk off dj wq) ∧ heapPop (ltOf cf) a k dj = heapPop (ltOf cf) a m dk) (fun x _ => (intOf x + 1).toNat)
      case atStart => exact ⟨m, dk, by first | rfl | go_num, Nat.le_refl _, HS.out, rfl⟩
      case round =>
        clear HS
        obtain ⟨k, dj, hx, hk2, hS, ho⟩ := hrel
        cases k with
        | succ k =>
          obtain rfl : u12 = .int .i64 (k : Nat) := by rw [hx]; congr 1; omega
          clear hx
          have d1 : decide ((0 : Int) ≤ (k : Nat)) = true := by simp
          obtain ⟨fk, hfk⟩ : ∃ x, a + k = x := ⟨_, rfl⟩
          have ef : (a : Int) + (k : Nat) = (fk : Nat) := by omega
          have ewf : IntKind.i64.wrap (fk : Nat) = (fk : Nat) := by rw [wrapI] <;> omega
          have ewf2 : IntKind.i64.wrap ((a : Int) + (k : Nat)) = (fk : Nat) := by rw [ef]; exact ewf
          have HP := Lib.hid (show heapPop (ltOf cf) a k (siftDown (ltOf cf) k a 0 (swp dj a fk)) = heapPop (ltOf cf) a m dk from by rw [← ho, ← hfk]; rfl)
          have HS := Lib.hid hS
          clear ho hS
          have sza : (0 : Int) ≤ (a : Nat) := by omega
          have sna : ((a : Nat) : Int) < (n : Nat) := by omega
          have szfk : (0 : Int) ≤ (fk : Nat) := by omega
          have snfk : ((fk : Nat) : Int) < (n : Nat) := by omega
          obtain ⟨cz1, cz2, fz1, fz2, ⟨u, cz3⟩, q3, hs3⟩ := two_swap (W := wr) RR.out H0.out HS.out.1 HS.out.2 a fk (by omega) (by omega)
          have S3 := Lib.hid (And.intro hs3 q3)
          clear HS q3 hs3
          generalize dj[a]! = ya at cz1 S3
          generalize dj[fk]! = yb at cz2 cz3 S3
          go_wp2_with fail
          go_region
          clear cz1 cz2 cz3 fz1 fz2
          generalize ((wr.setCell ⟨blk, off + a, none⟩ (eK yb)).setCell ⟨blk, off + fk, none⟩ (eK ya)).drew = w3 at *
          have HC2 := Lib.hid (show Calls Try.prog 82 #[.slice (some ⟨blk, off, none⟩) n cap, .int .i64 0, .int .i64 (k : Nat), .int .i64 (a : Nat), fvB g] w3 fun e w' => e = .returned (.tuple #[]) ∧ SW eK w0 blk off (siftDown (ltOf cf) k a 0 (swp dj a fk)) w' from HSD.out 0 k (swp dj a fk) w3 S3.out.1 S3.out.2 (by omega) (by omega))
          have hz := (size_sd (ltOf cf) k a 0 (swp dj a fk)).trans S3.out.1
          clear S3
          go_wp2_with (go_at_call 82; with_reducible (refine HC2.out.mono ?_); rintro e w4 ⟨rfl, s4⟩)
          have S4 := Lib.hid (And.intro hz s4)
          clear hz s4
          go_roundw
          case rel => exact ⟨k, _, by first | rfl | go_num, by omega, S4.out, HP.out⟩
          case measure => simp [intOf]; try omega
        | zero =>
          obtain rfl : u12 = .int .i64 (-1) := by rw [hx]; rfl
          clear hx
          have HZ := Lib.hid (show SW eK w0 blk off (heapSort (ltOf cf) d a b) wr from by rw [HF.out, ← HG.out, ← ho]; exact hS.2)
          clear ho hS
          go_wp2_with fail
          go_end0
          exact ⟨rfl, HZ.out⟩
end Go.Proofs.Ytjjanogfcfapcaa.W
