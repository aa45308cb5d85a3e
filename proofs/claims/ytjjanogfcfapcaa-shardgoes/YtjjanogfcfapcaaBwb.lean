/- Joined texts: Wqa Wqb Wqs Wqc Wqd Wqe. -/
import Derived.Test.YtjjanogfcfapcaaBwa
import Derived.Shelf.SlSortCmp.Kit1
import Derived.Sort.WalkA
import Derived.Sort.WalkB2
import Derived.Sort.WalkB3
import Derived.Sort.WalkB12
import Derived.Sort.WalkC
import Derived.Sort.AssemblyPlain
import Derived.Deep.LoopGhost
import Derived.BigRegion
import Derived.BigQuiet
import Derived.Shelf.SlSortCmp.Xorshift
import Derived.Sort.Walk7

/- The sort of ids by a wheel's order, a method value bound to the wheel: what its walks lean on; insertion sort. -/
namespace Go.Proofs.Ytjjanogfcfapcaa.W
open Go.RowKit Go.Shelf Go.Sort
open Go.Proofs (SW Row1 ltOf)
set_option linter.unusedVariables false

/-- An id that an int can be. -/
abbrev Ik := { x : Int // (Lit.int .i64 x).wf = true }
instance : Inhabited Ik := ⟨⟨0, by decide⟩⟩
def eK (x : Ik) : Value := .int .i64 x.1
theorem eK_one : Go.Proofs.OneCell eK := fun _ => rfl
/-- The order of the wheel in block g, bound. -/
abbrev fvB (g : Nat) : Value := .func (.func 59) #[.pointer (some ⟨g, 0, none⟩)] #[]
/-- What is asked of the order, wherever the sort stands. -/
def CmpB (cf : Ik → Ik → Int) (g blk off n : Nat) (w0 : World) : Prop := ∀ (W : World) (dk : Array Ik), dk.size = n → SW eK w0 blk off dk W → ∀ x y : Ik,
  Calls Try.prog 59 #[.pointer (some ⟨g, 0, none⟩), eK x, eK y] W fun e w' => e = .returned (.int .i64 (cf x y)) ∧ ∃ q os', w' = grow (W.drewN q) os'
variable {cf : Ik → Ik → Int} {g blk off n : Nat} {w0 W : World} {d0 dk : Array Ik}
/-- A call of the order in whatever has grown out of the world at hand. -/
theorem CmpB.at (HC : CmpB cf g blk off n w0) (S : SW eK w0 blk off dk W) (hs : dk.size = n) (x y : Ik) (q : Nat) (os : Array Obj) :
    Calls Try.prog 59 #[.pointer (some ⟨g, 0, none⟩), eK x, eK y] (grow (W.drewN q) os) fun e w'' => e = .returned (.int .i64 (cf x y)) ∧ ∃ p : GrownBy, w'' = grow (W.drewN p.n) p.os :=
  Calls.grown_of (HC _ dk hs (S.grown q os) x y)
/-- Two places of the row, read. -/
theorem two_cells (R : Row1 eK w0 blk off d0) (h0 : d0.size = n) (hs : dk.size = n) (S : SW eK w0 blk off dk W) (i j : Nat) (hi : i < n) (hj : j < n) :
    (∀ (q : Nat) (os : Array Obj), (grow (W.drewN q) os).cell? ⟨blk, off + i, none⟩ = some (eK dk[i]!)) ∧ (∀ (q : Nat) (os : Array Obj), (grow (W.drewN q) os).cell? ⟨blk, off + j, none⟩ = some (eK dk[j]!)) :=
  ⟨S.cl R (by omega) i (by omega), S.cl R (by omega) j (by omega)⟩
/-- Two places of the row, to be exchanged. -/
theorem two_swap (R : Row1 eK w0 blk off d0) (h0 : d0.size = n) (hs : dk.size = n) (S : SW eK w0 blk off dk W) (i j : Nat) (hi : i < n) (hj : j < n) :
    W.cell? ⟨blk, off + i, none⟩ = some (eK dk[i]!) ∧ W.cell? ⟨blk, off + j, none⟩ = some (eK dk[j]!) ∧ W.frozen? ⟨blk, off + i, none⟩ = false ∧ W.frozen? ⟨blk, off + j, none⟩ = false ∧ (∃ u, (W.setCell ⟨blk, off + i, none⟩ (eK dk[j]!)).cell? ⟨blk, off + j, none⟩ = some u) ∧
      SW eK w0 blk off (swp dk i j) ((W.setCell ⟨blk, off + i, none⟩ (eK dk[j]!)).setCell ⟨blk, off + j, none⟩ (eK dk[i]!)).drew ∧ (swp dk i j).size = n :=
  ⟨S.c1 R (by omega) i (by omega), S.c1 R (by omega) j (by omega), S.f1 R (by omega) i (by omega), S.f1 R (by omega) j (by omega), S.c2 R (by omega) i j (by omega) (by omega) _, S.swapped R i j (by omega) (by omega), by rw [size_swp]; exact hs⟩
theorem wrapI {z : Int} (h1 : -1000000 ≤ z) (h2 : z ≤ 1000000) : IntKind.i64.wrap z = z := by rw [IntKind.wrap_i64]; omega
theorem lt_true {x y : Ik} (h : ltOf cf x y = true) : decide (cf x y < 0) = true := h
theorem lt_false {x y : Ik} (h : ltOf cf x y = false) : decide (cf x y < 0) = false := h

set_option maxRecDepth 1000000 in
set_option maxHeartbeats 4000000 in
theorem ins_s (HC : CmpB cf g blk off n w0) (R : Row1 eK w0 blk off d0) (h0 : d0.size = n) (hn : n ≤ 100000) (cap a b : Nat) (d : Array Ik) (w : World) (hs : d.size = n) (S : SW eK w0 blk off d w) (hab : a ≤ b) (hb : b ≤ n) :
    Calls Try.prog 70 #[.slice (some ⟨blk, off, none⟩) n cap, .int .i64 (a : Nat), .int .i64 (b : Nat), fvB g] w fun e w' => e = .returned (.tuple #[]) ∧ SW eK w0 blk off (insertionSort (ltOf cf) d a b) w' := by
  have mixed : Try.prog.follows .mixedOrders = true := by kernel_rfl
  have hcl0 := eK_one.cells
  simp only [Value.cells] at hcl0
  have hst := eK_one.store Try.prog
  have HH := Lib.hid HC
  have RR := Lib.hid R
  have S0 := Lib.hid (And.intro hs S)
  have H0 := Lib.hid h0
  clear HC R hs S h0
  go_enter Try.func70, Try.ntmps70
  go_wp2_with fail
  go_loopw [8] (fun x wr => ∃ (i : Nat) (dk : Array Ik), x = .int .i64 i ∧ a < i ∧ i ≤ b + 1 ∧ (dk.size = n ∧ SW eK w0 blk off dk wr) ∧ insOuter (ltOf cf) a b i dk = insOuter (ltOf cf) a b (a + 1) d) (fun x _ => b + 1 - (intOf x).toNat)
  case atStart => exact ⟨a + 1, d, by go_num, by omega, by omega, S0.out, rfl⟩
  case round =>
    clear S0
    obtain ⟨i, dk, rfl, hai, hib, hS, ho⟩ := hrel
    have HS := Lib.hid hS
    have HO := Lib.hid ho
    clear hS ho
    by_cases hlt : i < b
    · have d1 : decide ((i : Int) < (b : Nat)) = true := by simp; omega
      go_wp2_with fail
      go_loopw [9] (fun x wq => ∃ (j : Nat) (dj : Array Ik), x = .int .i64 j ∧ a ≤ j ∧ j ≤ i ∧ (dj.size = n ∧ SW eK w0 blk off dj wq) ∧ insInner (ltOf cf) a j dj = insInner (ltOf cf) a i dk) (fun x _ => (intOf x).toNat)
      case atStart => exact ⟨i, dk, rfl, by omega, Nat.le_refl _, HS.out, rfl⟩
      case round =>
        clear HS
        obtain ⟨j, dj, rfl, haj, hji, hS, hi⟩ := hrel
        have HI := Lib.hid hi
        have HS := Lib.hid hS
        clear hi hS
        have OUT := Lib.hid (show (j ≤ a ∨ (ltOf cf) dj[j]! dj[j - 1]! = false) → insOuter (ltOf cf) a b (i + 1) dj = insOuter (ltOf cf) a b (a + 1) d from fun h => by
          rw [← HO.out, insOuter_go _ _ _ _ _ hlt, ← HI.out, insInner_stop _ _ _ _ h])
        by_cases hja : a < j
        · obtain ⟨p, rfl⟩ : ∃ p, j = p + 1 := ⟨j - 1, by omega⟩
          obtain ⟨la, lb⟩ := two_cells RR.out H0.out HS.out.1 HS.out.2 (p + 1) p (by omega) (by omega)
          have hc := HH.out.at HS.out.2 HS.out.1 dj[p + 1]! dj[p]!
          have d3 : decide ((a : Int) < ((p + 1 : Nat) : Int)) = true := by simp; omega
          have e1 : IntKind.i64.wrap (((p + 1 : Nat) : Int) - 1) = (p : Nat) := by rw [wrapI] <;> omega
          have s0 : (0 : Int) ≤ ((p + 1 : Nat) : Int) := by omega
          have s1 : ((p + 1 : Nat) : Int) < (n : Nat) := by omega
          have s2 : (0 : Int) ≤ (p : Nat) := by omega
          have s3 : ((p : Nat) : Int) < (n : Nat) := by omega
          cases hlv : (ltOf cf) dj[p + 1]! dj[p]! with
          | true =>
            have hd := lt_true hlv
            have SWP := Lib.hid (fun W2 S2 => two_swap (W := W2) RR.out H0.out HS.out.1 S2 (p + 1) p (by omega) (by omega))
            have HG := Lib.hid (show insInner (ltOf cf) a p (swp dj (p + 1) p) = insInner (ltOf cf) a i dk from by rw [← HI.out, insInner_go (ltOf cf) a (p + 1) dj hja hlv]; rfl)
            have SG := Lib.hid (fun q os => HS.out.2.grown q os)
            clear hlv OUT HI HS HO
            generalize dj[p + 1]! = xa at *
            generalize dj[p]! = xb at *
            generalize hp1 : p + 1 = q1 at *
            go_wp2_with fail
            go_quiet_grown (first | (go_at_call 59; exact hc _ _))
            have S2 := SG.out nq osq
            clear la lb hc SG
            generalize grow (wr.drewN nq) osq = w2 at *
            obtain ⟨c1, c2, f1, f2, ⟨u, c3⟩, S3, hs3⟩ := SWP.out w2 S2
            have HS3 := Lib.hid (And.intro hs3 S3)
            clear SWP S2 S3 hs3
            go_wp2_with fail
            go_region
            clear c1 c2 c3 f1 f2
            generalize ((w2.setCell ⟨blk, off + q1, none⟩ (eK xb)).setCell ⟨blk, off + p, none⟩ (eK xa)).drew = w3 at *
            go_wp2_with fail
            go_roundw
            case rel => exact ⟨p, _, by first | rfl | go_num, by omega, by omega, HS3.out, HG.out⟩
            case measure => simp [intOf]; omega
          | false =>
            have hd := lt_false hlv
            have HG := Lib.hid (OUT.out (.inr hlv))
            have SG := Lib.hid (fun q os => And.intro HS.out.1 (HS.out.2.grown q os))
            clear hlv OUT HI HS HO
            generalize dj[p + 1]! = xa at *
            generalize dj[p]! = xb at *
            generalize hp1 : p + 1 = q1 at *
            go_wp2_with fail
            go_quiet_grown (first | (go_at_call 59; exact hc _ _))
            have S2 := Lib.hid (SG.out nq osq)
            clear la lb hc SG
            generalize grow (wr.drewN nq) osq = w2 at *
            go_wp2_with fail
            go_roundw
            case rel => exact ⟨i + 1, dj, by go_num, by omega, by omega, S2.out, HG.out⟩
            case measure => simp [intOf]; omega
        · have d3 : decide ((a : Int) < (j : Nat)) = false := by simp; omega
          have S2 := Lib.hid (And.intro HS.out.1 HS.out.2.drew)
          have HG := Lib.hid (OUT.out (.inl (by omega)))
          clear OUT HI HS HO
          go_wp2_with fail
          go_region
          generalize wr.drew = w2 at *
          go_wp2_with fail
          go_roundw
          case rel => exact ⟨i + 1, dj, by go_num, by omega, by omega, S2.out, HG.out⟩
          case measure => simp [intOf]; omega
    · have d1 : decide ((i : Int) < (b : Nat)) = false := by simp; omega
      have HF := Lib.hid (show SW eK w0 blk off (insertionSort (ltOf cf) d a b) wr from by unfold insertionSort; rw [← HO.out, insOuter_stop _ _ _ _ _ hlt]; exact HS.out.2)
      clear HO HS
      go_wp2_with fail
      go_end0
      exact ⟨rfl, HF.out⟩
end Go.Proofs.Ytjjanogfcfapcaa.W

/- The walks of reverseRangeCmpFunc, siftDownCmpFunc and heapSortCmpFunc (written by tools/gen_wq.py). -/
namespace Go.Proofs.Ytjjanogfcfapcaa.W
open Go.RowKit Go.Shelf Go.Sort
open Go.Proofs (SW Row1 ltOf)
set_option linter.unusedVariables false
variable {cf : Ik → Ik → Int} {g blk off n : Nat} {w0 W : World} {d0 dk : Array Ik}
theorem rev_go (i j : Nat) (d : Array Ik) (h : i < j) : reverseLoop i j d = reverseLoop (i + 1) (j - 1) (swp d i j) := by rw [reverseLoop, if_pos h]
theorem rev_end (i j : Nat) (d : Array Ik) (h : ¬ i < j) : reverseLoop i j d = d := by rw [reverseLoop, if_neg h]
set_option maxRecDepth 1000000 in
set_option maxHeartbeats 4000000 in
theorem rev_s (fv : Value) (R : Row1 eK w0 blk off d0) (h0 : d0.size = n) (hn : n ≤ 100000) (cap a b : Nat) (d : Array Ik) (w : World) (hs : d.size = n) (S : SW eK w0 blk off d w) (hab : a < b) (hb : b ≤ n) :
    Calls Try.prog 74 #[.slice (some ⟨blk, off, none⟩) n cap, .int .i64 (a : Nat), .int .i64 (b : Nat), fv] w fun e w' => e = .returned (.tuple #[]) ∧ SW eK w0 blk off (reverseRange d a b) w' := by
  have mixed : Try.prog.follows .mixedOrders = true := by kernel_rfl
  have hcl0 := eK_one.cells
  simp only [Value.cells] at hcl0
  have hst := eK_one.store Try.prog
  have RR := Lib.hid R
  have S0 := Lib.hid (And.intro hs S)
  have H0 := Lib.hid h0
  clear R hs S h0
  go_enter Try.func74, Try.ntmps74
  have eb : IntKind.i64.wrap ((b : Int) - 1) = ((b - 1 : Nat) : Int) := by rw [wrapI] <;> omega
  go_wp2_with fail
  go_loopw [8, 9] (fun x y wr => ∃ (i j : Nat) (dk : Array Ik), x = .int .i64 i ∧ y = .int .i64 j ∧ a ≤ i ∧ j < b ∧ (dk.size = n ∧ SW eK w0 blk off dk wr) ∧ reverseLoop i j dk = reverseLoop a (b - 1) d) (fun x y _ => (intOf y).toNat - (intOf x).toNat)
  case atStart => exact ⟨a, b - 1, d, rfl, by first | rfl | go_num, Nat.le_refl _, by omega, S0.out, rfl⟩
  case round =>
    clear S0
    obtain ⟨i, j, dk, rfl, rfl, hai, hjb, hS, ho⟩ := hrel
    have HS := Lib.hid hS
    have HO := Lib.hid ho
    clear hS ho
    by_cases hlt : i < j
    · have d1 : decide ((i : Int) < (j : Nat)) = true := by simp; omega
      have HG := Lib.hid (show reverseLoop (i + 1) (j - 1) (swp dk i j) = reverseLoop a (b - 1) d from by rw [← HO.out, rev_go i j dk hlt])
      clear HO
      have szi : (0 : Int) ≤ (i : Nat) := by omega
      have sni : ((i : Nat) : Int) < (n : Nat) := by omega
      have szj : (0 : Int) ≤ (j : Nat) := by omega
      have snj : ((j : Nat) : Int) < (n : Nat) := by omega
      obtain ⟨cz1, cz2, fz1, fz2, ⟨u, cz3⟩, q3, hs3⟩ := two_swap (W := wr) RR.out H0.out HS.out.1 HS.out.2 i j (by omega) (by omega)
      have S3 := Lib.hid (And.intro hs3 q3)
      clear HS q3 hs3
      generalize dk[i]! = ya at cz1 S3
      generalize dk[j]! = yb at cz2 cz3 S3
      go_wp2_with fail
      go_region
      clear cz1 cz2 cz3 fz1 fz2
      generalize ((wr.setCell ⟨blk, off + i, none⟩ (eK yb)).setCell ⟨blk, off + j, none⟩ (eK ya)).drew = w3 at *
      have e1 : ((j : Int) - 1) = ((j - 1 : Nat) : Int) := by omega
      go_wp2_with fail
      go_roundw
      case rel => exact ⟨i + 1, j - 1, _, by go_num, by first | rfl | go_num, by omega, by omega, S3.out, HG.out⟩
      case measure => simp [intOf]; omega
    · have d1 : decide ((i : Int) < (j : Nat)) = false := by simp; omega
      have HF := Lib.hid (show SW eK w0 blk off (reverseRange d a b) wr from by unfold reverseRange; rw [← HO.out, rev_end i j dk hlt]; exact HS.out.2)
      clear HO HS
      go_wp2_with fail
      go_end0
      exact ⟨rfl, HF.out⟩
theorem sdr_stop {hi first r c fr fc c1 f1 : Nat} {dk : Array Ik} (hc0 : 2 * r + 1 = c) (hfr : first + r = fr) (hfc : first + c = fc) (hc1 : c + 1 = c1) (hf1 : first + c1 = f1) (h2 : c + 1 < hi) (l1 : (ltOf cf) dk[fc]! dk[f1]! = true) (l2 : (ltOf cf) dk[fr]! dk[f1]! = false) : siftDown (ltOf cf) hi first r dk = dk := by
  subst hf1 hc1 hfc hfr hc0
  exact sd_right_stop _ dk (by omega) l1 l2
theorem sdr_go {hi first r c fr fc c1 f1 : Nat} {dk : Array Ik} (hc0 : 2 * r + 1 = c) (hfr : first + r = fr) (hfc : first + c = fc) (hc1 : c + 1 = c1) (hf1 : first + c1 = f1) (h2 : c + 1 < hi) (l1 : (ltOf cf) dk[fc]! dk[f1]! = true) (l2 : (ltOf cf) dk[fr]! dk[f1]! = true) : siftDown (ltOf cf) hi first r dk = siftDown (ltOf cf) hi first c1 (swp dk fr f1) := by
  subst hf1 hc1 hfc hfr hc0
  exact sd_right_go _ dk (by omega) l1 l2
theorem sdl_stop {hi first r c fr fc : Nat} {dk : Array Ik} (hc0 : 2 * r + 1 = c) (hfr : first + r = fr) (hfc : first + c = fc) (hlt : c < hi) (l1 : c + 1 < hi → (ltOf cf) dk[fc]! dk[first + (c + 1)]! = false) (l2 : (ltOf cf) dk[fr]! dk[fc]! = false) : siftDown (ltOf cf) hi first r dk = dk := by
  subst hfc hfr hc0
  exact sd_left_stop _ dk (by omega) (fun h => l1 (by omega)) l2
theorem sdl_go {hi first r c fr fc : Nat} {dk : Array Ik} (hc0 : 2 * r + 1 = c) (hfr : first + r = fr) (hfc : first + c = fc) (hlt : c < hi) (l1 : c + 1 < hi → (ltOf cf) dk[fc]! dk[first + (c + 1)]! = false) (l2 : (ltOf cf) dk[fr]! dk[fc]! = true) : siftDown (ltOf cf) hi first r dk = siftDown (ltOf cf) hi first c (swp dk fr fc) := by
  subst hfc hfr hc0
  exact sd_left_go _ dk (by omega) (fun h => l1 (by omega)) l2
set_option maxRecDepth 1000000 in
set_option maxHeartbeats 4000000 in
theorem sift_s (HC : CmpB cf g blk off n w0) (R : Row1 eK w0 blk off d0) (h0 : d0.size = n) (hn : n ≤ 100000) (cap lo hi first : Nat) (d : Array Ik) (w : World) (hs : d.size = n) (S : SW eK w0 blk off d w) (hlo : lo ≤ hi) (hb : first + hi ≤ n) :
    Calls Try.prog 82 #[.slice (some ⟨blk, off, none⟩) n cap, .int .i64 (lo : Nat), .int .i64 (hi : Nat), .int .i64 (first : Nat), fvB g] w fun e w' => e = .returned (.tuple #[]) ∧ SW eK w0 blk off (siftDown (ltOf cf) hi first lo d) w' := by
  have mixed : Try.prog.follows .mixedOrders = true := by kernel_rfl
  have hcl0 := eK_one.cells
  simp only [Value.cells] at hcl0
  have hst := eK_one.store Try.prog
  have HH := Lib.hid HC
  have RR := Lib.hid R
  have S0 := Lib.hid (And.intro hs S)
  have H0 := Lib.hid h0
  clear HC R hs S h0
  go_enter Try.func82, Try.ntmps82
  go_wp2_with fail
  go_loopw [10] (fun x wr => ∃ (r : Nat) (dk : Array Ik), x = .int .i64 r ∧ r ≤ hi ∧ (dk.size = n ∧ SW eK w0 blk off dk wr) ∧ siftDown (ltOf cf) hi first r dk = siftDown (ltOf cf) hi first lo d) (fun x _ => hi - (intOf x).toNat)
  case atStart => exact ⟨lo, d, rfl, hlo, S0.out, rfl⟩
  case round =>
    clear S0
    obtain ⟨r, dk, rfl, hr, hS, ho⟩ := hrel
    have HS := Lib.hid hS
    have HO := Lib.hid ho
    clear hS ho
    obtain ⟨c, hc0⟩ : ∃ c : Nat, 2 * r + 1 = c := ⟨_, rfl⟩
    have ec : 2 * (r : Int) + 1 = (c : Nat) := by omega
    by_cases hlt : c < hi
    · have d1 : decide ((hi : Int) ≤ (c : Nat)) = false := by simp; omega
      obtain ⟨fr, hfr⟩ : ∃ x : Nat, first + r = x := ⟨_, rfl⟩
      obtain ⟨fc, hfc⟩ : ∃ x : Nat, first + c = x := ⟨_, rfl⟩
      have er : IntKind.i64.wrap ((first : Int) + (r : Nat)) = (fr : Nat) := by rw [wrapI] <;> omega
      have efc : IntKind.i64.wrap ((first : Int) + (c : Nat)) = (fc : Nat) := by rw [wrapI] <;> omega
      have er2 : (first : Int) + (r : Nat) = (fr : Nat) := by omega
      have efc2 : (first : Int) + (c : Nat) = (fc : Nat) := by omega
      have ewr : IntKind.i64.wrap (fr : Nat) = (fr : Nat) := by rw [wrapI] <;> omega
      have ewc : IntKind.i64.wrap (fc : Nat) = (fc : Nat) := by rw [wrapI] <;> omega
      have szfr : (0 : Int) ≤ (fr : Nat) := by omega
      have snfr : ((fr : Nat) : Int) < (n : Nat) := by omega
      have szfc : (0 : Int) ≤ (fc : Nat) := by omega
      have snfc : ((fc : Nat) : Int) < (n : Nat) := by omega
      by_cases h2 : c + 1 < hi
      · obtain ⟨c1, hc1⟩ : ∃ x : Nat, c + 1 = x := ⟨_, rfl⟩
        obtain ⟨f1, hf1⟩ : ∃ x : Nat, first + c1 = x := ⟨_, rfl⟩
        have d2 : decide ((c1 : Int) < (hi : Nat)) = true := by simp; omega
        have e1 : IntKind.i64.wrap ((c : Int) + 1) = (c1 : Nat) := by rw [wrapI] <;> omega
        have e2 : IntKind.i64.wrap ((fc : Int) + 1) = (f1 : Nat) := by rw [wrapI] <;> omega
        have e3 : IntKind.i64.wrap ((first : Int) + (c1 : Nat)) = (f1 : Nat) := by rw [wrapI] <;> omega
        have e4 : (c : Int) + 1 = (c1 : Nat) := by omega
        have e5 : (first : Int) + (c1 : Nat) = (f1 : Nat) := by omega
        have e6 : (fc : Int) + 1 = (f1 : Nat) := by omega
        have hn2 : c1 < hi := by omega
        have ew1 : IntKind.i64.wrap (c1 : Nat) = (c1 : Nat) := by rw [wrapI] <;> omega
        have ewf : IntKind.i64.wrap (f1 : Nat) = (f1 : Nat) := by rw [wrapI] <;> omega
        have szf1 : (0 : Int) ≤ (f1 : Nat) := by omega
        have snf1 : ((f1 : Nat) : Int) < (n : Nat) := by omega
        obtain ⟨la, lb⟩ := two_cells RR.out H0.out HS.out.1 HS.out.2 fc f1 (by omega) (by omega)
        have hc := HH.out.at HS.out.2 HS.out.1 dk[fc]! dk[f1]!
        cases hlv : (ltOf cf) dk[fc]! dk[f1]! with
        | true =>
          have hd := lt_true hlv
          have HL := Lib.hid hlv
          have SG := Lib.hid (fun q os => And.intro HS.out.1 (HS.out.2.grown q os))
          clear hlv HS
          generalize dk[fc]! = xa at la hc hd
          generalize dk[f1]! = xb at lb hc hd
          go_wp2_with fail
          go_quiet_grown (first | (go_at_call 59; exact hc _ _))
          have S2 := Lib.hid (SG.out nq osq)
          clear la lb hc SG hd
          generalize grow (wr.drewN nq) osq = w2 at *
          have S1 := S2
          clear S2
          obtain ⟨la, lb⟩ := two_cells RR.out H0.out S1.out.1 S1.out.2 fr f1 (by omega) (by omega)
          have hc := HH.out.at S1.out.2 S1.out.1 dk[fr]! dk[f1]!
          cases hlv : (ltOf cf) dk[fr]! dk[f1]! with
          | true =>
            have hd := lt_true hlv
            have HG := Lib.hid (show siftDown (ltOf cf) hi first c1 (swp dk fr f1) = siftDown (ltOf cf) hi first lo d from by rw [← HO.out, sdr_go hc0 hfr hfc hc1 hf1 h2 HL.out hlv])
            clear HO
            have SG := Lib.hid (fun q os => And.intro S1.out.1 (S1.out.2.grown q os))
            clear hlv S1
            generalize dk[fr]! = xa at la hc hd
            generalize dk[f1]! = xb at lb hc hd
            go_wp2_with fail
            go_quiet_grown (first | (go_at_call 59; exact hc _ _))
            have S2 := Lib.hid (SG.out nq osq)
            clear la lb hc SG hd
            generalize grow (w2.drewN nq) osq = w2 at *
            obtain ⟨cz1, cz2, fz1, fz2, ⟨u, cz3⟩, q3, hs3⟩ := two_swap (W := w2) RR.out H0.out S2.out.1 S2.out.2 fr f1 (by omega) (by omega)
            have S3 := Lib.hid (And.intro hs3 q3)
            clear S2 q3 hs3
            generalize dk[fr]! = ya at cz1 S3
            generalize dk[f1]! = yb at cz2 cz3 S3
            go_wp2_with fail
            go_region
            clear cz1 cz2 cz3 fz1 fz2
            generalize ((w2.setCell ⟨blk, off + fr, none⟩ (eK yb)).setCell ⟨blk, off + f1, none⟩ (eK ya)).drew = w3 at *
            go_wp2_with fail
            go_roundw
            case rel => exact ⟨c1, _, by first | rfl | go_num, by omega, S3.out, HG.out⟩
            case measure => simp [intOf]; omega
          | false =>
            have hd := lt_false hlv
            have HG := Lib.hid (show dk = siftDown (ltOf cf) hi first lo d from by rw [← HO.out, sdr_stop hc0 hfr hfc hc1 hf1 h2 HL.out hlv])
            clear HO
            have SG := Lib.hid (fun q os => And.intro S1.out.1 (S1.out.2.grown q os))
            clear hlv S1
            generalize dk[fr]! = xa at la hc hd
            generalize dk[f1]! = xb at lb hc hd
            go_wp2_with fail
            go_quiet_grown (first | (go_at_call 59; exact hc _ _))
            have S2 := Lib.hid (SG.out nq osq)
            clear la lb hc SG hd
            generalize grow (w2.drewN nq) osq = w2 at *
            go_wp2_with fail
            (try simp only [Exit.inBlock, Exit.then]); refine bodyPost_ret (results_none rfl _ _ _) rfl ?_
            exact ⟨rfl, by rw [← HG.out]; exact S2.out.2⟩
        | false =>
          have hd := lt_false hlv
          have HL := Lib.hid (show (ltOf cf) dk[fc]! dk[first + (c + 1)]! = false from by rw [show first + (c + 1) = f1 by omega]; exact hlv)
          have SG := Lib.hid (fun q os => And.intro HS.out.1 (HS.out.2.grown q os))
          clear hlv HS
          generalize dk[fc]! = xa at la hc hd
          generalize dk[f1]! = xb at lb hc hd
          go_wp2_with fail
          go_quiet_grown (first | (go_at_call 59; exact hc _ _))
          have S2 := Lib.hid (SG.out nq osq)
          clear la lb hc SG hd
          generalize grow (wr.drewN nq) osq = w2 at *
          have S1 := S2
          clear S2
          obtain ⟨la, lb⟩ := two_cells RR.out H0.out S1.out.1 S1.out.2 fr fc (by omega) (by omega)
          have hc := HH.out.at S1.out.2 S1.out.1 dk[fr]! dk[fc]!
          cases hlv : (ltOf cf) dk[fr]! dk[fc]! with
          | true =>
            have hd := lt_true hlv
            have HG := Lib.hid (show siftDown (ltOf cf) hi first c (swp dk fr fc) = siftDown (ltOf cf) hi first lo d from by rw [← HO.out, sdl_go hc0 hfr hfc hlt (fun _ => HL.out) hlv])
            clear HO
            have SG := Lib.hid (fun q os => And.intro S1.out.1 (S1.out.2.grown q os))
            clear hlv S1
            generalize dk[fr]! = xa at la hc hd
            generalize dk[fc]! = xb at lb hc hd
            go_wp2_with fail
            go_quiet_grown (first | (go_at_call 59; exact hc _ _))
            have S2 := Lib.hid (SG.out nq osq)
            clear la lb hc SG hd
            generalize grow (w2.drewN nq) osq = w2 at *
            obtain ⟨cz1, cz2, fz1, fz2, ⟨u, cz3⟩, q3, hs3⟩ := two_swap (W := w2) RR.out H0.out S2.out.1 S2.out.2 fr fc (by omega) (by omega)
            have S3 := Lib.hid (And.intro hs3 q3)
            clear S2 q3 hs3
            generalize dk[fr]! = ya at cz1 S3
            generalize dk[fc]! = yb at cz2 cz3 S3
            go_wp2_with fail
            go_region
            clear cz1 cz2 cz3 fz1 fz2
            generalize ((w2.setCell ⟨blk, off + fr, none⟩ (eK yb)).setCell ⟨blk, off + fc, none⟩ (eK ya)).drew = w3 at *
            go_wp2_with fail
            go_roundw
            case rel => exact ⟨c, _, by first | rfl | go_num, by omega, S3.out, HG.out⟩
            case measure => simp [intOf]; omega
          | false =>
            have hd := lt_false hlv
            have HG := Lib.hid (show dk = siftDown (ltOf cf) hi first lo d from by rw [← HO.out, sdl_stop hc0 hfr hfc hlt (fun _ => HL.out) hlv])
            clear HO
            have SG := Lib.hid (fun q os => And.intro S1.out.1 (S1.out.2.grown q os))
            clear hlv S1
            generalize dk[fr]! = xa at la hc hd
            generalize dk[fc]! = xb at lb hc hd
            go_wp2_with fail
            go_quiet_grown (first | (go_at_call 59; exact hc _ _))
            have S2 := Lib.hid (SG.out nq osq)
            clear la lb hc SG hd
            generalize grow (w2.drewN nq) osq = w2 at *
            go_wp2_with fail
            (try simp only [Exit.inBlock, Exit.then]); refine bodyPost_ret (results_none rfl _ _ _) rfl ?_
            exact ⟨rfl, by rw [← HG.out]; exact S2.out.2⟩
      · have d2 : decide ((c : Int) + 1 < (hi : Nat)) = false := by simp; omega
        have e1 : IntKind.i64.wrap ((c : Int) + 1) = (c : Int) + 1 := by rw [wrapI] <;> omega
        have S1 := Lib.hid (And.intro HS.out.1 HS.out.2.drew)
        clear HS
        go_wp2_with fail
        go_region
        generalize wr.drew = w1 at *
        obtain ⟨la, lb⟩ := two_cells RR.out H0.out S1.out.1 S1.out.2 fr fc (by omega) (by omega)
        have hc := HH.out.at S1.out.2 S1.out.1 dk[fr]! dk[fc]!
        cases hlv : (ltOf cf) dk[fr]! dk[fc]! with
        | true =>
          have hd := lt_true hlv
          have HG := Lib.hid (show siftDown (ltOf cf) hi first c (swp dk fr fc) = siftDown (ltOf cf) hi first lo d from by rw [← HO.out, sdl_go hc0 hfr hfc hlt (fun h => absurd h h2) hlv])
          clear HO
          have SG := Lib.hid (fun q os => And.intro S1.out.1 (S1.out.2.grown q os))
          clear hlv S1
          generalize dk[fr]! = xa at la hc hd
          generalize dk[fc]! = xb at lb hc hd
          go_wp2_with fail
          go_quiet_grown (first | (go_at_call 59; exact hc _ _))
          have S2 := Lib.hid (SG.out nq osq)
          clear la lb hc SG hd
          generalize grow (w1.drewN nq) osq = w2 at *
          obtain ⟨cz1, cz2, fz1, fz2, ⟨u, cz3⟩, q3, hs3⟩ := two_swap (W := w2) RR.out H0.out S2.out.1 S2.out.2 fr fc (by omega) (by omega)
          have S3 := Lib.hid (And.intro hs3 q3)
          clear S2 q3 hs3
          generalize dk[fr]! = ya at cz1 S3
          generalize dk[fc]! = yb at cz2 cz3 S3
          go_wp2_with fail
          go_region
          clear cz1 cz2 cz3 fz1 fz2
          generalize ((w2.setCell ⟨blk, off + fr, none⟩ (eK yb)).setCell ⟨blk, off + fc, none⟩ (eK ya)).drew = w3 at *
          go_wp2_with fail
          go_roundw
          case rel => exact ⟨c, _, by first | rfl | go_num, by omega, S3.out, HG.out⟩
          case measure => simp [intOf]; omega
        | false =>
          have hd := lt_false hlv
          have HG := Lib.hid (show dk = siftDown (ltOf cf) hi first lo d from by rw [← HO.out, sdl_stop hc0 hfr hfc hlt (fun h => absurd h h2) hlv])
          clear HO
          have SG := Lib.hid (fun q os => And.intro S1.out.1 (S1.out.2.grown q os))
          clear hlv S1
          generalize dk[fr]! = xa at la hc hd
          generalize dk[fc]! = xb at lb hc hd
          go_wp2_with fail
          go_quiet_grown (first | (go_at_call 59; exact hc _ _))
          have S2 := Lib.hid (SG.out nq osq)
          clear la lb hc SG hd
          generalize grow (w1.drewN nq) osq = w2 at *
          go_wp2_with fail
          (try simp only [Exit.inBlock, Exit.then]); refine bodyPost_ret (results_none rfl _ _ _) rfl ?_
          exact ⟨rfl, by rw [← HG.out]; exact S2.out.2⟩
    · have d1 : decide ((hi : Int) ≤ (c : Nat)) = true := by simp; omega
      have HF := Lib.hid (show SW eK w0 blk off (siftDown (ltOf cf) hi first lo d) wr from by rw [← HO.out, sd_end _ dk (by omega)]; exact HS.out.2)
      clear HO HS
      go_wp2_with fail
      go_end0
      exact ⟨rfl, HF.out⟩
end Go.Proofs.Ytjjanogfcfapcaa.W

/- What the kit's library has proved of three functions of Go's library, laid at this program: math/bits.Len, slices.nextPowerOfTwo, (*slices.xorshift).Next. -/
namespace Go.Proofs.Ytjjanogfcfapcaa.W
open Go.Shelf Go.Sort
set_option linter.unusedVariables false
def slRen : Go.Shelf.Ren := ⟨fun | 15 => 66 | 28 => 78 | 29 => 79 | 47 => 83 | 48 => 84 | n => n, fun | 0 => 0 | 3 => 3 | 4 => 4 | 5 => 5 | 9 => 9 | 39 => 128 | 53 => 87 | 55 => 37 | 66 => 141 | 76 => 147 | n => n, fun n => n⟩
theorem sln15 : Go.Proofs.SlLaysF0.n15 Try.prog slRen := {
  mixed := by kernel_rfl
  f15 := Try.func66.trans (congrArg some (by kernel_rfl))
  f28 := Try.func78.trans (congrArg some (by kernel_rfl))
  f29 := Try.func79.trans (congrArg some (by kernel_rfl))
  t3 := by kernel_rfl
  a3 := fun w => by kernel_rfl
  z3 := fun w => by kernel_rfl
  v3 := fun w => by kernel_rfl
  t4 := by kernel_rfl
  a4 := fun w => by kernel_rfl
  z4 := fun w => by kernel_rfl
  v4 := fun w => by kernel_rfl
  t5 := by kernel_rfl
  a5 := fun w => by kernel_rfl
  z5 := fun w => by kernel_rfl
  v5 := fun w => by kernel_rfl
  t9 := by kernel_rfl
  a9 := fun w => by kernel_rfl
  z9 := fun w => by kernel_rfl
  v9 := fun w => by kernel_rfl
  t39 := by kernel_rfl
  a39 := fun w => by kernel_rfl
  z39 := fun w => by kernel_rfl
  v39 := fun w => by kernel_rfl
  t53 := by kernel_rfl
  a53 := fun w => by kernel_rfl
  z53 := fun w => by kernel_rfl
  v53 := fun w => by kernel_rfl
  t55 := by kernel_rfl
  a55 := fun w => by kernel_rfl
  z55 := fun w => by kernel_rfl
  v55 := fun w => by kernel_rfl
}
theorem sln47 : Go.Proofs.SlLaysF0.n47 Try.prog slRen := {
  mixed := by kernel_rfl
  f15 := Try.func66.trans (congrArg some (by kernel_rfl))
  f28 := Try.func78.trans (congrArg some (by kernel_rfl))
  f29 := Try.func79.trans (congrArg some (by kernel_rfl))
  f47 := Try.func83.trans (congrArg some (by kernel_rfl))
  t3 := by kernel_rfl
  a3 := fun w => by kernel_rfl
  z3 := fun w => by kernel_rfl
  v3 := fun w => by kernel_rfl
  t4 := by kernel_rfl
  a4 := fun w => by kernel_rfl
  z4 := fun w => by kernel_rfl
  v4 := fun w => by kernel_rfl
  t5 := by kernel_rfl
  a5 := fun w => by kernel_rfl
  z5 := fun w => by kernel_rfl
  v5 := fun w => by kernel_rfl
  t9 := by kernel_rfl
  a9 := fun w => by kernel_rfl
  z9 := fun w => by kernel_rfl
  v9 := fun w => by kernel_rfl
  t39 := by kernel_rfl
  a39 := fun w => by kernel_rfl
  z39 := fun w => by kernel_rfl
  v39 := fun w => by kernel_rfl
  t53 := by kernel_rfl
  a53 := fun w => by kernel_rfl
  z53 := fun w => by kernel_rfl
  v53 := fun w => by kernel_rfl
  t55 := by kernel_rfl
  a55 := fun w => by kernel_rfl
  z55 := fun w => by kernel_rfl
  v55 := fun w => by kernel_rfl
}
theorem sln48 : Go.Proofs.SlLaysF0.n48 Try.prog slRen := {
  mixed := by kernel_rfl
  f48 := Try.func84.trans (congrArg some (by kernel_rfl))
  t0 := by kernel_rfl
  a0 := fun w => by kernel_rfl
  z0 := fun w => by kernel_rfl
  v0 := fun w => by kernel_rfl
  t39 := by kernel_rfl
  a39 := fun w => by kernel_rfl
  z39 := fun w => by kernel_rfl
  v39 := fun w => by kernel_rfl
  t55 := by kernel_rfl
  a55 := fun w => by kernel_rfl
  z55 := fun w => by kernel_rfl
  v55 := fun w => by kernel_rfl
  t66 := by kernel_rfl
  a66 := fun w => by kernel_rfl
  z66 := fun w => by kernel_rfl
  v66 := fun w => by kernel_rfl
  t76 := by kernel_rfl
  a76 := fun w => by kernel_rfl
  z76 := fun w => by kernel_rfl
  v76 := fun w => by kernel_rfl
}
theorem next_two (n : Nat) (hn : n < 4611686018427387904) (w : World) : Calls Try.prog 83 #[.int .i64 (n : Nat)] w fun e w' => e = .returned (.int .u64 ((1 <<< bitsLen n : Nat) : Int)) ∧ w' = w := Go.Proofs.AnyF.nextPowerOfTwo sln47 n hn w
theorem xor_next (rb ro X : Nat) (hX : X < 18446744073709551616) (w : World) (hc : w.cell? ⟨rb, ro, none⟩ = some (.int .u64 X)) (hf : w.frozen? ⟨rb, ro, none⟩ = false) :
    Calls Try.prog 84 #[.pointer (some ⟨rb, ro, none⟩)] w fun e w' => e = .returned (.int .u64 (xorNextN X : Nat)) ∧ w' = (w.setCell ⟨rb, ro, none⟩ (.int .u64 (xorNextN X : Nat))).drewN 3 := Go.Proofs.AnyF.xorshift_Next sln48 rb ro X hX w hc hf
theorem bits_len (x : Nat) (hx : x < 4611686018427387904) (w : World) : Calls Try.prog 66 #[.int .u64 (x : Nat)] w fun e w' => e = .returned (.int .i64 (Lib.bitLen x : Nat)) ∧ w' = w := by
  have h := Go.Proofs.Any.bits_Len (Go.Proofs.SlLaysF0.n15.bits sln15) (x : Int) w (by omega) (by omega)
  rwa [Int.toNat_natCast] at h
end Go.Proofs.Ytjjanogfcfapcaa.W

/- The walk of heapSortCmpFunc (written by tools/gen_wq.py). -/
namespace Go.Proofs.Ytjjanogfcfapcaa.W
open Go.RowKit Go.Shelf Go.Sort
open Go.Proofs (SW Row1 ltOf)
set_option linter.unusedVariables false
variable {cf : Ik → Ik → Int} {g blk off n : Nat} {w0 W : World} {d0 dk : Array Ik}
theorem size_sd (lt : Ik → Ik → Bool) (hi F root : Nat) (d : Array Ik) : (siftDown lt hi F root d).size = d.size := Go.Sort.size_siftDown lt hi F (hi - root) root d (Nat.le_refl _)
set_option maxRecDepth 1000000 in
set_option maxHeartbeats 4000000 in
theorem heap_s (HC : CmpB cf g blk off n w0) (R : Row1 eK w0 blk off d0) (h0 : d0.size = n) (hn : n ≤ 100000) (cap a b : Nat) (d : Array Ik) (w : World) (hs : d.size = n) (S : SW eK w0 blk off d w) (hab : a ≤ b) (hb : b ≤ n) :
    Calls Try.prog 71 #[.slice (some ⟨blk, off, none⟩) n cap, .int .i64 (a : Nat), .int .i64 (b : Nat), fvB g] w fun e w' => e = .returned (.tuple #[]) ∧ SW eK w0 blk off (heapSort (ltOf cf) d a b) w' := by
  have mixed : Try.prog.follows .mixedOrders = true := by kernel_rfl
  have hcl0 := eK_one.cells
  simp only [Value.cells] at hcl0
  have hst := eK_one.store Try.prog
  have HH := Lib.hid HC
  have RR := Lib.hid R
  have S0 := Lib.hid (And.intro hs S)
  have H0 := Lib.hid h0
  clear HC R hs S h0
  obtain ⟨m, hm⟩ : ∃ m, b - a = m := ⟨_, rfl⟩
  have em : (b : Int) - (a : Nat) = (m : Nat) := by omega
  have ewm : IntKind.i64.wrap (m : Nat) = (m : Nat) := by rw [wrapI] <;> omega
  have ewm2 : IntKind.i64.wrap ((b : Int) - (a : Nat)) = (m : Nat) := by rw [em]; exact ewm
  obtain ⟨m2, hm2⟩ : ∃ x, (m - 1) / 2 + 1 = x := ⟨_, rfl⟩
  have eh : ((m : Int) - 1).tdiv 2 = (m2 : Nat) - 1 := by
    by_cases h : m = 0
    · subst h; simp at hm2; subst hm2; rfl
    · rw [Int.tdiv_eq_ediv_of_nonneg (by omega)]; omega
  have HF := Lib.hid (show heapSort (ltOf cf) d a b = heapPop (ltOf cf) a m (heapBuild (ltOf cf) m a m2 d) from by unfold heapSort; rw [hm, hm2])
  have HSD := Lib.hid (fun lo hi dk W hs S h1 h2 => sift_s (w0 := w0) (d0 := d0) HH.out RR.out H0.out hn cap lo hi a dk W hs S h1 h2)
  go_enter Try.func71, Try.ntmps71
  go_wp2_with fail
  go_loopw [11] (fun x wr => ∃ (k : Nat) (dk : Array Ik), x = .int .i64 ((k : Int) - 1) ∧ k ≤ m2 ∧ (dk.size = n ∧ SW eK w0 blk off dk wr) ∧ heapBuild (ltOf cf) m a k dk = heapBuild (ltOf cf) m a m2 d) (fun x _ => (intOf x + 1).toNat)
  case atStart => exact ⟨m2, d, by first | rfl | go_num, Nat.le_refl _, S0.out, rfl⟩
  case round =>
    clear S0
    obtain ⟨k, dk, hx, hk, hS, ho⟩ := hrel
    cases k with
    | succ k =>
      obtain rfl : u11 = .int .i64 (k : Nat) := by rw [hx]; congr 1; omega
      clear hx
      have d1 : decide ((0 : Int) ≤ (k : Nat)) = true := by simp
      have HG := Lib.hid (show heapBuild (ltOf cf) m a k (siftDown (ltOf cf) m a k dk) = heapBuild (ltOf cf) m a m2 d from by rw [← ho]; rfl)
      have HC2 := Lib.hid (HSD.out k m dk wr hS.1 hS.2 (by omega) (by omega))
      have hz := (size_sd (ltOf cf) m a k dk).trans hS.1
      clear ho hS
      go_wp2_with (go_at_call 82; with_reducible (refine HC2.out.mono ?_); rintro e w2 ⟨rfl, s2⟩)
      have S2 := Lib.hid (And.intro hz s2)
      clear hz s2
      go_roundw
      case rel => exact ⟨k, _, by first | rfl | go_num, by omega, S2.out, HG.out⟩
      case measure => simp [intOf]; try omega
    | zero =>
      obtain rfl : u11 = .int .i64 (-1) := by rw [hx]; rfl
      clear hx
      have HG := Lib.hid (show dk = heapBuild (ltOf cf) m a m2 d from ho)
      have HS := Lib.hid hS
      clear ho hS
      go_wp2_with fail
      go_loopw [12] (fun x wq => ∃ (k : Nat) (dj : Array Ik), x = .int .i64 ((k : Int) - 1) ∧ k ≤ m ∧ (dj.size = n ∧ SW eK w0 blk off dj wq) ∧ heapPop (ltOf cf) a k dj = heapPop (ltOf cf) a m dk) (fun x _ => (intOf x + 1).toNat)
      case atStart => exact ⟨m, dk, by first | rfl | go_num, Nat.le_refl _, HS.out, rfl⟩
      case round =>
        clear HS
        obtain ⟨k, dj, hx, hk2, hS, ho⟩ := hrel
        cases k with
        | succ k =>
          obtain rfl : u12 = .int .i64 (k : Nat) := by rw [hx]; congr 1; omega
          clear hx
          have d1 : decide ((0 : Int) ≤ (k : Nat)) = true := by simp
          obtain ⟨fk, hfk⟩ : ∃ x, a + k = x := ⟨_, rfl⟩
          have ef : (a : Int) + (k : Nat) = (fk : Nat) := by omega
          have ewf : IntKind.i64.wrap (fk : Nat) = (fk : Nat) := by rw [wrapI] <;> omega
          have ewf2 : IntKind.i64.wrap ((a : Int) + (k : Nat)) = (fk : Nat) := by rw [ef]; exact ewf
          have HP := Lib.hid (show heapPop (ltOf cf) a k (siftDown (ltOf cf) k a 0 (swp dj a fk)) = heapPop (ltOf cf) a m dk from by rw [← ho, ← hfk]; rfl)
          have HS := Lib.hid hS
          clear ho hS
          have sza : (0 : Int) ≤ (a : Nat) := by omega
          have sna : ((a : Nat) : Int) < (n : Nat) := by omega
          have szfk : (0 : Int) ≤ (fk : Nat) := by omega
          have snfk : ((fk : Nat) : Int) < (n : Nat) := by omega
          obtain ⟨cz1, cz2, fz1, fz2, ⟨u, cz3⟩, q3, hs3⟩ := two_swap (W := wr) RR.out H0.out HS.out.1 HS.out.2 a fk (by omega) (by omega)
          have S3 := Lib.hid (And.intro hs3 q3)
          clear HS q3 hs3
          generalize dj[a]! = ya at cz1 S3
          generalize dj[fk]! = yb at cz2 cz3 S3
          go_wp2_with fail
          go_region
          clear cz1 cz2 cz3 fz1 fz2
          generalize ((wr.setCell ⟨blk, off + a, none⟩ (eK yb)).setCell ⟨blk, off + fk, none⟩ (eK ya)).drew = w3 at *
          have HC2 := Lib.hid (show Calls Try.prog 82 #[.slice (some ⟨blk, off, none⟩) n cap, .int .i64 0, .int .i64 (k : Nat), .int .i64 (a : Nat), fvB g] w3 fun e w' => e = .returned (.tuple #[]) ∧ SW eK w0 blk off (siftDown (ltOf cf) k a 0 (swp dj a fk)) w' from HSD.out 0 k (swp dj a fk) w3 S3.out.1 S3.out.2 (by omega) (by omega))
          have hz := (size_sd (ltOf cf) k a 0 (swp dj a fk)).trans S3.out.1
          clear S3
          go_wp2_with (go_at_call 82; with_reducible (refine HC2.out.mono ?_); rintro e w4 ⟨rfl, s4⟩)
          have S4 := Lib.hid (And.intro hz s4)
          clear hz s4
          go_roundw
          case rel => exact ⟨k, _, by first | rfl | go_num, by omega, S4.out, HP.out⟩
          case measure => simp [intOf]; try omega
        | zero =>
          obtain rfl : u12 = .int .i64 (-1) := by rw [hx]; rfl
          clear hx
          have HZ := Lib.hid (show SW eK w0 blk off (heapSort (ltOf cf) d a b) wr from by rw [HF.out, ← HG.out, ← ho]; exact hS.2)
          clear ho hS
          go_wp2_with fail
          go_end0
          exact ⟨rfl, HZ.out⟩
end Go.Proofs.Ytjjanogfcfapcaa.W

/- The walks of order2CmpFunc, medianCmpFunc, medianAdjacentCmpFunc, choosePivotCmpFunc (written by tools/gen_wq.py). -/
namespace Go.Proofs.Ytjjanogfcfapcaa.W
open Go.RowKit Go.Shelf Go.Sort
open Go.Proofs (SW Row1 ltOf Cnt1)
set_option linter.unusedVariables false
variable {cf : Ik → Ik → Int} {g blk off n : Nat} {w0 W : World} {d0 dk : Array Ik}
set_option maxRecDepth 1000000 in
set_option maxHeartbeats 4000000 in
theorem ord2_s (HC : CmpB cf g blk off n w0) (R : Row1 eK w0 blk off d0) (h0 : d0.size = n) (hn : n ≤ 100000) (cap i j c s : Nat) (w : World) (hs : dk.size = n) (C : Cnt1 eK w0 blk off dk c s w) (hi : i < n) (hj : j < n) (hs2 : s ≤ 1000) :
    Calls Try.prog 87 #[.slice (some ⟨blk, off, none⟩) n cap, .int .i64 (i : Nat), .int .i64 (j : Nat), .pointer (some ⟨c, 0, none⟩), fvB g] w fun e w' => e = .returned (.tuple #[.int .i64 ((order2 (ltOf cf) dk i j s).1 : Nat), .int .i64 ((order2 (ltOf cf) dk i j s).2.1 : Nat)]) ∧ Cnt1 eK w0 blk off dk c (order2 (ltOf cf) dk i j s).2.2 w' := by
  have mixed : Try.prog.follows .mixedOrders = true := by kernel_rfl
  have hcl0 := eK_one.cells
  simp only [Value.cells] at hcl0
  have hst := eK_one.store Try.prog
  have HH := Lib.hid HC
  have RR := Lib.hid R
  have S0 := Lib.hid (And.intro hs C)
  have H0 := Lib.hid h0
  clear HC R hs C h0
  obtain ⟨la, lb⟩ := two_cells RR.out H0.out S0.out.1 S0.out.2.1 j i hj hi
  have hc := HH.out.at S0.out.2.1 S0.out.1 dk[j]! dk[i]!
  have szi : (0 : Int) ≤ (i : Nat) := by omega
  have sni : ((i : Nat) : Int) < (n : Nat) := by omega
  have szj : (0 : Int) ≤ (j : Nat) := by omega
  have snj : ((j : Nat) : Int) < (n : Nat) := by omega
  cases hlv : (ltOf cf) dk[j]! dk[i]! with
  | true =>
    have ho : order2 (ltOf cf) dk i j s = (j, i, s + 1) := by unfold order2; rw [hlv]; rfl
    rw [ho]
    have hd := lt_true hlv
    clear ho hlv
    have SG := Lib.hid (fun q os => S0.out.2.grown q os)
    have SB := Lib.hid (fun W' (h : Cnt1 eK w0 blk off dk c s W') => h.bump (s + 1))
    clear S0
    generalize dk[j]! = xa at la hc hd
    generalize dk[i]! = xb at lb hc hd
    go_enter Try.func87, Try.ntmps87
    go_wp2_with fail
    go_quiet_grown (first | (go_at_call 59; exact hc _ _))
    have C2 := SG.out nq osq
    clear la lb hc SG hd
    generalize grow (w.drewN nq) osq = w2 at *
    have e1 : ((s + 1 : Nat) : Int) = (s : Int) + 1 := by omega
    have C3 := SB.out w2 C2
    rw [e1] at C3
    have HC3 := Lib.hid C3
    have z1 := C2.2.1
    have z2 := C2.2.2.1
    clear C2 C3 SB
    go_wp2_with fail
    go_ret2
    exact ⟨rfl, HC3.out⟩
  | false =>
    have ho : order2 (ltOf cf) dk i j s = (i, j, s) := by unfold order2; rw [hlv]; rfl
    rw [ho]
    have hd := lt_false hlv
    clear ho hlv
    have SG := Lib.hid (fun q os => S0.out.2.grown q os)
    clear S0
    generalize dk[j]! = xa at la hc hd
    generalize dk[i]! = xb at lb hc hd
    go_enter Try.func87, Try.ntmps87
    go_wp2_with fail
    go_quiet_grown (first | (go_at_call 59; exact hc _ _))
    have C2 := Lib.hid (SG.out nq osq)
    clear la lb hc SG hd
    generalize grow (w.drewN nq) osq = w2 at *
    go_wp2_with fail
    go_ret2
    exact ⟨rfl, C2.out⟩
theorem ord2_lt (i j s : Nat) (hi : i < n) (hj : j < n) : (order2 (ltOf cf) dk i j s).1 < n ∧ (order2 (ltOf cf) dk i j s).2.1 < n ∧ (order2 (ltOf cf) dk i j s).2.2 ≤ s + 1 := by
  unfold order2
  split
  · exact ⟨hj, hi, Nat.le_refl _⟩
  · exact ⟨hi, hj, Nat.le_succ _⟩
theorem med_lt (i j k s : Nat) (hi : i < n) (hj : j < n) (hk : k < n) : (median (ltOf cf) dk i j k s).1 < n ∧ (median (ltOf cf) dk i j k s).2 ≤ s + 3 := by
  have h1 := ord2_lt (cf := cf) (dk := dk) i j s hi hj
  have h2 := ord2_lt (cf := cf) (dk := dk) (order2 (ltOf cf) dk i j s).2.1 k (order2 (ltOf cf) dk i j s).2.2 h1.2.1 hk
  have h3 := ord2_lt (cf := cf) (dk := dk) (order2 (ltOf cf) dk i j s).1 (order2 (ltOf cf) dk (order2 (ltOf cf) dk i j s).2.1 k (order2 (ltOf cf) dk i j s).2.2).1 (order2 (ltOf cf) dk (order2 (ltOf cf) dk i j s).2.1 k (order2 (ltOf cf) dk i j s).2.2).2.2 h1.1 h2.1
  exact ⟨h3.2.1, Nat.le_trans h3.2.2 (by omega)⟩
set_option maxRecDepth 1000000 in
set_option maxHeartbeats 4000000 in
theorem med_s (HC : CmpB cf g blk off n w0) (R : Row1 eK w0 blk off d0) (h0 : d0.size = n) (hn : n ≤ 100000) (cap i j k c s : Nat) (w : World) (hs : dk.size = n) (C : Cnt1 eK w0 blk off dk c s w) (hi : i < n) (hj : j < n) (hk : k < n) (hs2 : s ≤ 100) :
    Calls Try.prog 86 #[.slice (some ⟨blk, off, none⟩) n cap, .int .i64 (i : Nat), .int .i64 (j : Nat), .int .i64 (k : Nat), .pointer (some ⟨c, 0, none⟩), fvB g] w fun e w' => e = .returned (.int .i64 ((median (ltOf cf) dk i j k s).1 : Nat)) ∧ Cnt1 eK w0 blk off dk c (median (ltOf cf) dk i j k s).2 w' := by
  have HC1 := Lib.hid (ord2_s HC R h0 hn cap i j c s w hs C hi hj (by omega))
  have h1 := ord2_lt (cf := cf) (dk := dk) i j s hi hj
  obtain ⟨r1, hr1⟩ : ∃ r, order2 (ltOf cf) dk i j s = r := ⟨_, rfl⟩
  rw [hr1] at h1 HC1
  have HC2 := Lib.hid (fun W C1 => ord2_s HC R h0 hn cap r1.2.1 k c r1.2.2 W hs C1 h1.2.1 hk (by omega))
  have h2 := ord2_lt (cf := cf) (dk := dk) r1.2.1 k r1.2.2 h1.2.1 hk
  obtain ⟨r2, hr2⟩ : ∃ r, order2 (ltOf cf) dk r1.2.1 k r1.2.2 = r := ⟨_, rfl⟩
  rw [hr2] at h2 HC2
  have HC3 := Lib.hid (fun W C1 => ord2_s HC R h0 hn cap r1.1 r2.1 c r2.2.2 W hs C1 h1.1 h2.1 (by omega))
  obtain ⟨r3, hr3⟩ : ∃ r, order2 (ltOf cf) dk r1.1 r2.1 r2.2.2 = r := ⟨_, rfl⟩
  rw [hr3] at HC3
  have hm : median (ltOf cf) dk i j k s = (r3.2.1, r3.2.2) := by unfold median; rw [hr1]; show (let r2 := order2 (ltOf cf) dk r1.2.1 k r1.2.2; let r3 := order2 (ltOf cf) dk r1.1 r2.1 r2.2.2; (r3.2.1, r3.2.2)) = _; rw [hr2]; show (let r3 := order2 (ltOf cf) dk r1.1 r2.1 r2.2.2; (r3.2.1, r3.2.2)) = _; rw [hr3]
  rw [hm]
  clear hm hr1 hr2 hr3 h1 h2 C HC R
  obtain ⟨p1, q1, s1⟩ := r1
  obtain ⟨p2, q2, s2⟩ := r2
  obtain ⟨p3, q3, s3⟩ := r3
  simp only at HC1 HC2 HC3 ⊢
  go_enter Try.func86, Try.ntmps86
  go_wp2_with (first
    | (go_at_call 87; with_reducible (refine (HC3.out _ z2.out).mono ?_); rintro e w3 ⟨rfl, y3⟩; have z3 := Lib.hid y3; clear y3)
    | (go_at_call 87; with_reducible (refine (HC2.out _ z1.out).mono ?_); rintro e w2 ⟨rfl, y2⟩; have z2 := Lib.hid y2; clear y2)
    | (go_at_call 87; with_reducible (refine HC1.out.mono ?_); rintro e w1 ⟨rfl, y1⟩; have z1 := Lib.hid y1; clear y1))
  go_ret
  exact ⟨rfl, z3.out⟩
set_option maxRecDepth 1000000 in
set_option maxHeartbeats 4000000 in
theorem adj_s (HC : CmpB cf g blk off n w0) (R : Row1 eK w0 blk off d0) (h0 : d0.size = n) (hn : n ≤ 100000) (cap i c s : Nat) (w : World) (hs : dk.size = n) (C : Cnt1 eK w0 blk off dk c s w) (h1 : 1 ≤ i) (hi : i + 1 < n) (hs2 : s ≤ 100) :
    Calls Try.prog 85 #[.slice (some ⟨blk, off, none⟩) n cap, .int .i64 (i : Nat), .pointer (some ⟨c, 0, none⟩), fvB g] w fun e w' => e = .returned (.int .i64 ((medianAdjacent (ltOf cf) dk i s).1 : Nat)) ∧ Cnt1 eK w0 blk off dk c (medianAdjacent (ltOf cf) dk i s).2 w' := by
  unfold medianAdjacent
  obtain ⟨p, rfl⟩ : ∃ p, i = p + 1 := ⟨i - 1, by omega⟩
  have HC1 := Lib.hid (med_s HC R h0 hn cap p (p + 1) (p + 1 + 1) c s w hs C (by omega) (by omega) hi hs2)
  rw [Nat.add_sub_cancel]
  generalize median (ltOf cf) dk p (p + 1) (p + 1 + 1) s = r at *
  have e1 : ((p + 1 : Nat) : Int) - 1 = (p : Nat) := by omega
  have e2 : ((p + 1 : Nat) : Int) + 1 = ((p + 1 + 1 : Nat) : Int) := by omega
  clear C HC R
  generalize hq : p + 1 + 1 = q2 at *
  generalize hq1 : p + 1 = q1 at *
  go_enter Try.func85, Try.ntmps85
  go_wp2_with (go_at_call 86; with_reducible (refine HC1.out.mono ?_); rintro e w1 ⟨rfl, y1⟩)
  go_ret
  exact ⟨rfl, y1⟩
theorem adj_lt (i s : Nat) (h1 : 1 ≤ i) (hi : i + 1 < n) : (medianAdjacent (ltOf cf) dk i s).1 < n ∧ (medianAdjacent (ltOf cf) dk i s).2 ≤ s + 3 := med_lt (i - 1) i (i + 1) s (by omega) (by omega) hi
end Go.Proofs.Ytjjanogfcfapcaa.W

/- The walks of choosePivotCmpFunc and breakPatternsCmpFunc (written by tools/gen_wq.py). -/
namespace Go.Proofs.Ytjjanogfcfapcaa.W
open Go.RowKit Go.Shelf Go.Sort
open Go.Proofs (SW Row1 ltOf Cnt1)
set_option linter.unusedVariables false
variable {cf : Ik → Ik → Int} {g blk off n : Nat} {w0 W : World} {d0 dk : Array Ik}
/-- The number of a hint. -/
def hintI : Hint → Int
  | .unknown => 0
  | .increasing => 1
  | .decreasing => 2
def hintOf (s : Nat) : Hint := if s = 0 then .increasing else if s = 12 then .decreasing else .unknown
theorem pivA (d : Array Ik) (a b m : Nat) (hm : b - a = m) (h : ¬ 8 ≤ m) : choosePivot (ltOf cf) d a b = (a + m / 4 * 2, hintOf 0) := by
  unfold choosePivot
  simp only [hm]
  rw [if_neg h]
  rfl
theorem pivB (d : Array Ik) (a b m : Nat) (hm : b - a = m) (h : 8 ≤ m) (h5 : ¬ 50 ≤ m) : choosePivot (ltOf cf) d a b = ((median (ltOf cf) d (a + m / 4) (a + m / 4 * 2) (a + m / 4 * 3) 0).1, hintOf (median (ltOf cf) d (a + m / 4) (a + m / 4 * 2) (a + m / 4 * 3) 0).2) := by
  unfold choosePivot
  simp only [hm]
  rw [if_pos h, if_neg h5, Nat.mul_one]
  rfl
theorem pivC (d : Array Ik) (a b m : Nat) (hm : b - a = m) (h : 8 ≤ m) (h5 : 50 ≤ m) {r1 r2 r3 r4 : Nat × Nat} (e1 : medianAdjacent (ltOf cf) d (a + m / 4) 0 = r1) (e2 : medianAdjacent (ltOf cf) d (a + m / 4 * 2) r1.2 = r2) (e3 : medianAdjacent (ltOf cf) d (a + m / 4 * 3) r2.2 = r3)
    (e4 : median (ltOf cf) d r1.1 r2.1 r3.1 r3.2 = r4) : choosePivot (ltOf cf) d a b = (r4.1, hintOf r4.2) := by
  unfold choosePivot
  simp only [hm]
  rw [if_pos h, if_pos h5, Nat.mul_one, e1, e2, e3, e4]
  rfl
set_option maxRecDepth 1000000 in
set_option maxHeartbeats 4000000 in
theorem piv_s (HC : CmpB cf g blk off n w0) (R : Row1 eK w0 blk off d0) (h0 : d0.size = n) (hn : n ≤ 100000) (cap a b : Nat) (d : Array Ik) (w : World) (hs : d.size = n) (S : SW eK w0 blk off d w) (hab : a < b) (hb : b ≤ n) :
    Calls Try.prog 73 #[.slice (some ⟨blk, off, none⟩) n cap, .int .i64 (a : Nat), .int .i64 (b : Nat), fvB g] w fun e w' => e = .returned (.tuple #[.int .i64 ((choosePivot (ltOf cf) d a b).1 : Nat), .int .i64 (hintI (choosePivot (ltOf cf) d a b).2)]) ∧ SW eK w0 blk off d w' := by
  obtain ⟨m, hm⟩ : ∃ m, b - a = m := ⟨_, rfl⟩
  obtain ⟨q, hq⟩ : ∃ q, m / 4 = q := ⟨_, rfl⟩
  have em : (b : Int) - (a : Nat) = (m : Nat) := by omega
  have eq4 : ((m : Nat) : Int).tdiv 4 = (q : Nat) := by rw [Int.tdiv_eq_ediv_of_nonneg (by omega)]; omega
  obtain ⟨pi, hpi⟩ : ∃ x, a + q = x := ⟨_, rfl⟩
  obtain ⟨pj, hpj⟩ : ∃ x, a + q * 2 = x := ⟨_, rfl⟩
  obtain ⟨pk, hpk⟩ : ∃ x, a + q * 3 = x := ⟨_, rfl⟩
  have ei : (a : Int) + (q : Nat) = (pi : Nat) := by omega
  have ej : (a : Int) + (q : Nat) * 2 = (pj : Nat) := by omega
  have ek : (a : Int) + (q : Nat) * 3 = (pk : Nat) := by omega
  have HC0 := Lib.hid (Cnt1.start S 3)
  have hle := S.le
  have fin : ∀ s : Nat, (hintI (hintOf s) = 1 ∧ s = 0) ∨ (hintI (hintOf s) = 2 ∧ s = 12) ∨ (hintI (hintOf s) = 0 ∧ s ≠ 0 ∧ s ≠ 12) := fun s => by
    unfold hintOf
    by_cases h1 : s = 0
    · left; rw [if_pos h1]; exact ⟨rfl, h1⟩
    · by_cases h2 : s = 12
      · right; left; rw [if_neg h1, if_pos h2]; exact ⟨rfl, h2⟩
      · right; right; rw [if_neg h1, if_neg h2]; exact ⟨rfl, h1, h2⟩
  have FIN := Lib.hid fin
  clear fin
  by_cases h8 : 8 ≤ m
  · have d1 : decide ((8 : Int) ≤ (m : Nat)) = true := by simp; omega
    by_cases h5 : 50 ≤ m
    · have d2 : decide ((50 : Int) ≤ (m : Nat)) = true := by simp; omega
      have HC1 := Lib.hid (fun W C => adj_s HC R h0 hn cap pi w.heap.size 0 W hs C (by omega) (by omega) (by omega))
      have l1 := adj_lt (cf := cf) (dk := d) (n := n) pi 0 (by omega) (by omega)
      obtain ⟨r1, e1⟩ : ∃ r, medianAdjacent (ltOf cf) d pi 0 = r := ⟨_, rfl⟩
      rw [e1] at HC1 l1
      have HC2 := Lib.hid (fun W C => adj_s HC R h0 hn cap pj w.heap.size r1.2 W hs C (by omega) (by omega) (by omega))
      have l2 := adj_lt (cf := cf) (dk := d) (n := n) pj r1.2 (by omega) (by omega)
      obtain ⟨r2, e2⟩ : ∃ r, medianAdjacent (ltOf cf) d pj r1.2 = r := ⟨_, rfl⟩
      rw [e2] at HC2 l2
      have HC3 := Lib.hid (fun W C => adj_s HC R h0 hn cap pk w.heap.size r2.2 W hs C (by omega) (by omega) (by omega))
      have l3 := adj_lt (cf := cf) (dk := d) (n := n) pk r2.2 (by omega) (by omega)
      obtain ⟨r3, e3⟩ : ∃ r, medianAdjacent (ltOf cf) d pk r2.2 = r := ⟨_, rfl⟩
      rw [e3] at HC3 l3
      have HC4 := Lib.hid (fun W C => med_s HC R h0 hn cap r1.1 r2.1 r3.1 w.heap.size r3.2 W hs C l1.1 l2.1 l3.1 (by omega))
      obtain ⟨r4, e4⟩ : ∃ r, median (ltOf cf) d r1.1 r2.1 r3.1 r3.2 = r := ⟨_, rfl⟩
      rw [e4] at HC4
      have hP := pivC (cf := cf) d a b m hm h8 h5 (r1 := r1) (r2 := r2) (r3 := r3) (r4 := r4) (by rw [hq, hpi]; exact e1) (by rw [hq, hpj]; exact e2) (by rw [hq, hpk]; exact e3) e4
      rw [hP]
      clear hP e1 e2 e3 e4 l1 l2 l3 HC R S hs
      obtain ⟨p1, s1⟩ := r1
      obtain ⟨p2, s2⟩ := r2
      obtain ⟨p3, s3⟩ := r3
      obtain ⟨p4, s4⟩ := r4
      simp only at HC1 HC2 HC3 HC4 ⊢
      have fs := FIN.out s4
      generalize hintI (hintOf s4) = hi at *
      rcases fs with ⟨rfl, rfl⟩ | ⟨rfl, rfl⟩ | ⟨rfl, h1, h2⟩
      · go_enter Try.func73, Try.ntmps73
        go_wp2_with (first
                  | (go_at_call 86; (with_reducible (refine (HC4.out _ z3.out).mono ?_)); rintro e w4 ⟨rfl, y4⟩; have z4 := Lib.hid y4; have cz := y4.2.1; clear y4)
                  | (go_at_call 85; with_reducible (refine (HC3.out _ z2.out).mono ?_); rintro e w3 ⟨rfl, y3⟩; have z3 := Lib.hid y3; clear y3)
                  | (go_at_call 85; with_reducible (refine (HC2.out _ z1.out).mono ?_); rintro e w2 ⟨rfl, y2⟩; have z2 := Lib.hid y2; clear y2)
                  | (go_at_call 85; with_reducible (refine (HC1.out _ HC0.out).mono ?_); rintro e w1 ⟨rfl, y1⟩; have z1 := Lib.hid y1; clear y1))
        go_ret2
        exact ⟨rfl, z4.out.1⟩
      · go_enter Try.func73, Try.ntmps73
        go_wp2_with (first
                  | (go_at_call 86; (with_reducible (refine (HC4.out _ z3.out).mono ?_)); rintro e w4 ⟨rfl, y4⟩; have z4 := Lib.hid y4; have cz := y4.2.1; clear y4)
                  | (go_at_call 85; with_reducible (refine (HC3.out _ z2.out).mono ?_); rintro e w3 ⟨rfl, y3⟩; have z3 := Lib.hid y3; clear y3)
                  | (go_at_call 85; with_reducible (refine (HC2.out _ z1.out).mono ?_); rintro e w2 ⟨rfl, y2⟩; have z2 := Lib.hid y2; clear y2)
                  | (go_at_call 85; with_reducible (refine (HC1.out _ HC0.out).mono ?_); rintro e w1 ⟨rfl, y1⟩; have z1 := Lib.hid y1; clear y1))
        go_ret2
        exact ⟨rfl, z4.out.1⟩
      · have m1 : ((s4 : Int) == 0) = false := by simp; omega
        have m2 : ((s4 : Int) == 12) = false := by simp; omega
        have m3 : decide ((s4 : Int) = 0) = false := by simp; omega
        have m4 : decide ((s4 : Int) = 12) = false := by simp; omega
        go_enter Try.func73, Try.ntmps73
        go_wp2_with (first
                  | (go_at_call 86; (with_reducible (refine (HC4.out _ z3.out).mono ?_)); rintro e w4 ⟨rfl, y4⟩; have z4 := Lib.hid y4; have cz := y4.2.1; clear y4)
                  | (go_at_call 85; with_reducible (refine (HC3.out _ z2.out).mono ?_); rintro e w3 ⟨rfl, y3⟩; have z3 := Lib.hid y3; clear y3)
                  | (go_at_call 85; with_reducible (refine (HC2.out _ z1.out).mono ?_); rintro e w2 ⟨rfl, y2⟩; have z2 := Lib.hid y2; clear y2)
                  | (go_at_call 85; with_reducible (refine (HC1.out _ HC0.out).mono ?_); rintro e w1 ⟨rfl, y1⟩; have z1 := Lib.hid y1; clear y1))
        go_ret2
        exact ⟨rfl, z4.out.1⟩
    · have d2 : decide ((50 : Int) ≤ (m : Nat)) = false := by simp; omega
      have HC4 := Lib.hid (fun W C => med_s HC R h0 hn cap pi pj pk w.heap.size 0 W hs C (by omega) (by omega) (by omega) (by omega))
      obtain ⟨r4, e4⟩ : ∃ r, median (ltOf cf) d pi pj pk 0 = r := ⟨_, rfl⟩
      rw [e4] at HC4
      have hP := pivB (cf := cf) d a b m hm h8 h5
      rw [hq, hpi, hpj, hpk, e4] at hP
      rw [hP]
      clear hP e4 HC R S hs
      obtain ⟨p4, s4⟩ := r4
      simp only at HC4 ⊢
      have fs := FIN.out s4
      generalize hintI (hintOf s4) = hi at *
      rcases fs with ⟨rfl, rfl⟩ | ⟨rfl, rfl⟩ | ⟨rfl, h1, h2⟩
      · go_enter Try.func73, Try.ntmps73
        go_wp2_with (go_at_call 86; (with_reducible (refine (HC4.out _ HC0.out).mono ?_)); rintro e w4 ⟨rfl, y4⟩; have z4 := Lib.hid y4; have cz := y4.2.1; clear y4)
        go_ret2
        exact ⟨rfl, z4.out.1⟩
      · go_enter Try.func73, Try.ntmps73
        go_wp2_with (go_at_call 86; (with_reducible (refine (HC4.out _ HC0.out).mono ?_)); rintro e w4 ⟨rfl, y4⟩; have z4 := Lib.hid y4; have cz := y4.2.1; clear y4)
        go_ret2
        exact ⟨rfl, z4.out.1⟩
      · have m1 : ((s4 : Int) == 0) = false := by simp; omega
        have m2 : ((s4 : Int) == 12) = false := by simp; omega
        have m3 : decide ((s4 : Int) = 0) = false := by simp; omega
        have m4 : decide ((s4 : Int) = 12) = false := by simp; omega
        go_enter Try.func73, Try.ntmps73
        go_wp2_with (go_at_call 86; (with_reducible (refine (HC4.out _ HC0.out).mono ?_)); rintro e w4 ⟨rfl, y4⟩; have z4 := Lib.hid y4; have cz := y4.2.1; clear y4)
        go_ret2
        exact ⟨rfl, z4.out.1⟩
  · have d1 : decide ((8 : Int) ≤ (m : Nat)) = false := by simp; omega
    have hP := pivA (cf := cf) d a b m hm h8
    rw [hq, hpj] at hP
    rw [hP]
    clear hP HC R S hs
    have hi0 : hintI (hintOf 0) = 1 := rfl
    rw [hi0]
    go_enter Try.func73, Try.ntmps73
    go_wp2_with fail
    go_ret2
    exact ⟨rfl, HC0.out.1⟩
/-- The random numbers' block, beside the sort. -/
structure Rn (w0 : World) (blk off : Nat) (dk : Array Ik) (c X : Nat) (W : World) : Prop where
  sw : SW eK w0 blk off dk W
  cell : W.cell? ⟨c, 0, none⟩ = some (.int .u64 (X : Nat))
  fro : W.frozen? ⟨c, 0, none⟩ = false
  le : w0.heap.size ≤ c
  lt : c < W.heap.size
theorem Rn.start (S : SW eK w0 blk off dk W) (X : Nat) (T : TypeId) : Rn w0 blk off dk W.heap.size X (W.alloc (.cells #[.int .u64 (X : Nat)] T)) := ⟨S.alloc _, by simp, by simp, S.le, by simp⟩
theorem Rn.next {c X : Nat} (h : Rn w0 blk off dk c X W) (Y : Nat) : Rn w0 blk off dk c Y ((W.setCell ⟨c, 0, none⟩ (.int .u64 (Y : Nat))).drewN 3) :=
  ⟨(h.sw.setCell_new c 0 _ h.le).drewN 3, World.cell?_setCell_same' _ _ _ (by rw [h.cell]; rfl), by show (W.setCell _ _).frozen? _ = _; rw [World.frozen?_setCell]; exact h.fro, h.le, by simpa using h.lt⟩
theorem Rn.swapped {c X : Nat} (h : Rn w0 blk off dk c X W) (hblk : blk < w0.heap.size) {i j : Nat} {u v : Value} {d2 : Array Ik} (q : SW eK w0 blk off d2 ((W.setCell ⟨blk, off + i, none⟩ u).setCell ⟨blk, off + j, none⟩ v).drew) :
    Rn w0 blk off d2 c X ((W.setCell ⟨blk, off + i, none⟩ u).setCell ⟨blk, off + j, none⟩ v).drew := by
  have hk := Go.Proofs.box_kept_swap1 (blk := blk) (c := c) (by have := h.le; omega) h.cell h.fro (off + i) (off + j) u v
  exact ⟨q, hk.1, hk.2, h.le, by simpa [World.setCell] using h.lt⟩
set_option maxRecDepth 1000000 in
set_option maxHeartbeats 4000000 in
theorem brk_s (fv : Value) (R : Row1 eK w0 blk off d0) (h0 : d0.size = n) (hn : n ≤ 100000) (cap a b : Nat) (d : Array Ik) (w : World) (hs : d.size = n) (S : SW eK w0 blk off d w) (hab : a ≤ b) (hb : b ≤ n) (h8 : 8 ≤ b - a) :
    Calls Try.prog 72 #[.slice (some ⟨blk, off, none⟩) n cap, .int .i64 (a : Nat), .int .i64 (b : Nat), fv] w fun e w' => e = .returned (.tuple #[]) ∧ (breakPatterns d a b).size = n ∧ SW eK w0 blk off (breakPatterns d a b) w' := by
  have mixed : Try.prog.follows .mixedOrders = true := by kernel_rfl
  have hcl0 := eK_one.cells
  simp only [Value.cells] at hcl0
  have hst := eK_one.store Try.prog
  obtain ⟨L, rfl⟩ : ∃ L, b = a + L := ⟨b - a, by omega⟩
  rw [Nat.add_sub_cancel_left] at h8
  rw [Go.Proofs.breakPatterns_eq d a L h8]
  obtain ⟨M, hM⟩ : ∃ M : Nat, 1 <<< bitsLen L = M := ⟨_, rfl⟩
  have hM1 : 1 ≤ M := by rw [← hM, Nat.one_shiftLeft]; exact Nat.two_pow_pos _
  have hM2 : M ≤ 2 * L := by rw [← hM, Nat.one_shiftLeft]; exact two_pow_bitsLen_le (by omega)
  have HNP := Lib.hid (fun w => next_two L (by omega) w)
  rw [hM] at HNP
  rw [hM]
  clear hM
  obtain ⟨q, hq⟩ : ∃ q, L / 4 = q := ⟨_, rfl⟩
  obtain ⟨i0, hi0⟩ : ∃ x, a + q * 2 - 1 = x := ⟨_, rfl⟩
  rw [hq, hi0]
  have em : ((a + L : Nat) : Int) - (a : Nat) = (L : Nat) := by omega
  have eq4 : ((L : Nat) : Int).tdiv 4 = (q : Nat) := by rw [Int.tdiv_eq_ediv_of_nonneg (by omega)]; omega
  have ei : (a : Int) + (q : Nat) * 2 - 1 = (i0 : Nat) := by omega
  have ei2 : (a : Int) + (q : Nat) * 2 + 1 = ((i0 + 2 : Nat) : Int) := by omega
  have d0 : decide ((8 : Int) ≤ (L : Nat)) = true := by simp; omega
  have HS0 := Lib.hid (Rn.start S L 141)
  have HR0 := Lib.hid (show (UInt64.ofNat L).toNat = L from by simp; omega)
  have RR := Lib.hid R
  have H0 := Lib.hid h0
  have HZ := Lib.hid hs
  generalize hb0 : a + L = b at *
  clear S R h0 hs
  go_enter Try.func72, Try.ntmps72
  go_wp2_with (go_at_call 83; with_reducible (refine (HNP.out _).mono ?_); rintro e w1 ⟨rfl, rfl⟩)
  go_loopw [11] (fun x wr => ∃ (t : Nat) (r : UInt64) (dk : Array Ik), x = .int .i64 ((i0 + t : Nat) : Int) ∧ t ≤ 3 ∧ dk.size = n ∧ Rn w0 blk off dk w.heap.size r.toNat wr ∧ Go.Proofs.bpRest a L M i0 (3 - t) t (r, dk) = Go.Proofs.bpRest a L M i0 3 0 (UInt64.ofNat L, d)) (fun x _ => i0 + 3 - (intOf x).toNat)
  case atStart => exact ⟨0, UInt64.ofNat L, d, by first | rfl | go_num, by omega, HZ.out, by rw [HR0.out]; exact HS0.out, rfl⟩
  case round =>
    clear HS0 HR0 HZ
    obtain ⟨t, r, dk, rfl, ht, hsk, hS, ho⟩ := hrel
    have HS := Lib.hid (And.intro hsk hS)
    have HO := Lib.hid ho
    clear hsk hS ho
    obtain ⟨ix, hix⟩ : ∃ x, i0 + t = x := ⟨_, rfl⟩
    by_cases h3 : t < 3
    · have d1 : decide (((i0 + t : Nat) : Int) ≤ ((i0 + 2 : Nat) : Int)) = true := by simp; omega
      obtain ⟨X, hX⟩ : ∃ X : Nat, r.toNat = X := ⟨_, rfl⟩
      have lX : X < 18446744073709551616 := by rw [← hX]; exact r.toNat_lt
      obtain ⟨Y, hY⟩ : ∃ Y : Nat, xorNextN X = Y := ⟨_, rfl⟩
      have lY : Y < 18446744073709551616 := by rw [← hY]; exact xorNextN_lt X lX
      obtain ⟨O, hO⟩ : ∃ O : Nat, Y &&& (M - 1) = O := ⟨_, rfl⟩
      have lO : O ≤ M - 1 := by rw [← hO]; exact Nat.and_le_right
      have eAnd : bits .and .u64 (Y : Int) ((M : Int) - 1) = (O : Int) := by
        rw [show ((M : Int) - 1) = ((M - 1 : Nat) : Int) by omega, bits_and_u64_nat _ _ lY (by omega), hO]
      have eN : (xorNext r).toNat = Y := by rw [xorNext_toNat, hX, hY]
      have HN := Lib.hid (fun W (h : Rn w0 blk off dk w.heap.size X W) => xor_next w.heap.size 0 X lX W h.cell h.fro)
      rw [hY] at HN
      rw [hX] at HS
      rw [hix] at d1 ⊢
      have HST := Lib.hid (fun o (h : (if Y &&& (M - 1) ≥ L then (Y &&& (M - 1)) - L else Y &&& (M - 1)) = o) => show Go.Proofs.bpRest a L M i0 (3 - (t + 1)) (t + 1) (xorNext r, swp dk ix (a + o)) = Go.Proofs.bpRest a L M i0 3 0 (UInt64.ofNat L, d) from by
        rw [← HO.out, Go.Proofs.bp_step a L M i0 t r dk o h3 (by rw [eN]; exact h), hix])
      have HEN := Lib.hid eN
      clear HO hX hY eN
      by_cases hLO : L ≤ O
      · have d2 : decide ((L : Int) ≤ (O : Nat)) = true := by simp; omega
        obtain ⟨o1, ho1⟩ : ∃ x, O - L = x := ⟨_, rfl⟩
        have e1 : (O : Int) - (L : Nat) = (o1 : Nat) := by omega
        obtain ⟨fo, hfo⟩ : ∃ x, a + o1 = x := ⟨_, rfl⟩
        have HG := Lib.hid (HST.out o1 (by rw [hO, if_pos (by omega)]; exact ho1))
        rw [hfo] at HG
        have ef : (a : Int) + (o1 : Nat) = (fo : Nat) := by omega
        have ewf : IntKind.i64.wrap (fo : Nat) = (fo : Nat) := by rw [wrapI] <;> omega
        have ewf2 : IntKind.i64.wrap ((a : Int) + (o1 : Nat)) = (fo : Nat) := by rw [ef]; exact ewf
        have szix : (0 : Int) ≤ (ix : Nat) := by omega
        have snix : ((ix : Nat) : Int) < (n : Nat) := by omega
        have szfo : (0 : Int) ≤ (fo : Nat) := by omega
        have snfo : ((fo : Nat) : Int) < (n : Nat) := by omega
        clear HST
        go_upto_region 10 with (go_at_call 84; with_reducible (refine (HN.out _ HS.out.2).mono ?_); rintro e w2 ⟨rfl, rfl⟩)
        have HS2 := Lib.hid (And.intro HS.out.1 (HS.out.2.next Y))
        clear HS HN
        generalize (wr.setCell ⟨w.heap.size, 0, none⟩ (.int .u64 (Y : Nat))).drewN 3 = w2 at *
        obtain ⟨cz1, cz2, fz1, fz2, ⟨u, cz3⟩, q3, hs3⟩ := two_swap (W := w2) RR.out H0.out HS2.out.1 HS2.out.2.sw ix fo (by omega) (by omega)
        have S3 := Lib.hid (And.intro hs3 (HS2.out.2.swapped RR.out.hblk q3))
        clear HS2 q3 hs3
        generalize dk[ix]! = ya at cz1 S3
        generalize dk[fo]! = yb at cz2 cz3 S3
        go_wp2_with fail
        go_region
        clear cz1 cz2 cz3 fz1 fz2
        generalize ((w2.setCell ⟨blk, off + ix, none⟩ (eK yb)).setCell ⟨blk, off + fo, none⟩ (eK ya)).drew = w3 at *
        go_wp2_with fail
        go_roundw
        case rel => exact ⟨t + 1, xorNext r, _, by first | rfl | go_num | (congr 1; omega), by omega, S3.out.1, by rw [HEN.out]; exact S3.out.2, HG.out⟩
        case measure => simp [intOf]; omega
      · have d2 : decide ((L : Int) ≤ (O : Nat)) = false := by simp; omega
        obtain ⟨o1, ho1⟩ : ∃ x, O = x := ⟨_, rfl⟩
        obtain ⟨fo, hfo⟩ : ∃ x, a + o1 = x := ⟨_, rfl⟩
        have HG := Lib.hid (HST.out o1 (by rw [hO, if_neg (by omega)]; exact ho1))
        subst ho1
        rw [hfo] at HG
        have ef : (a : Int) + (O : Nat) = (fo : Nat) := by omega
        have ewf : IntKind.i64.wrap (fo : Nat) = (fo : Nat) := by rw [wrapI] <;> omega
        have ewf2 : IntKind.i64.wrap ((a : Int) + (O : Nat)) = (fo : Nat) := by rw [ef]; exact ewf
        have szix : (0 : Int) ≤ (ix : Nat) := by omega
        have snix : ((ix : Nat) : Int) < (n : Nat) := by omega
        have szfo : (0 : Int) ≤ (fo : Nat) := by omega
        have snfo : ((fo : Nat) : Int) < (n : Nat) := by omega
        clear HST
        go_upto_region 10 with (go_at_call 84; with_reducible (refine (HN.out _ HS.out.2).mono ?_); rintro e w2 ⟨rfl, rfl⟩)
        have HS2 := Lib.hid (And.intro HS.out.1 (HS.out.2.next Y))
        clear HS HN
        generalize (wr.setCell ⟨w.heap.size, 0, none⟩ (.int .u64 (Y : Nat))).drewN 3 = w2 at *
        obtain ⟨cz1, cz2, fz1, fz2, ⟨u, cz3⟩, q3, hs3⟩ := two_swap (W := w2) RR.out H0.out HS2.out.1 HS2.out.2.sw ix fo (by omega) (by omega)
        have S3 := Lib.hid (And.intro hs3 (HS2.out.2.swapped RR.out.hblk q3))
        clear HS2 q3 hs3
        generalize dk[ix]! = ya at cz1 S3
        generalize dk[fo]! = yb at cz2 cz3 S3
        go_wp2_with fail
        go_region
        clear cz1 cz2 cz3 fz1 fz2
        generalize ((w2.setCell ⟨blk, off + ix, none⟩ (eK yb)).setCell ⟨blk, off + fo, none⟩ (eK ya)).drew = w3 at *
        go_wp2_with fail
        go_roundw
        case rel => exact ⟨t + 1, xorNext r, _, by first | rfl | go_num | (congr 1; omega), by omega, S3.out.1, by rw [HEN.out]; exact S3.out.2, HG.out⟩
        case measure => simp [intOf]; omega
    · have e3 : t = 3 := by omega
      subst e3
      have d1 : decide (((i0 + 3 : Nat) : Int) ≤ ((i0 + 2 : Nat) : Int)) = false := by simp
      have HF := Lib.hid (show (Go.Proofs.bpRest a L M i0 3 0 (UInt64.ofNat L, d)).size = n ∧ SW eK w0 blk off (Go.Proofs.bpRest a L M i0 3 0 (UInt64.ofNat L, d)) wr from by rw [← HO.out]; exact ⟨HS.out.1, HS.out.2.sw⟩)
      clear HO HS
      rw [hix] at d1 ⊢
      go_wp2_with fail
      go_end0
      exact ⟨rfl, HF.out⟩
end Go.Proofs.Ytjjanogfcfapcaa.W
