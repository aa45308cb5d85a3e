/- The sort of ids by a wheel's order, a method value bound to the wheel: what its walks lean on; insertion sort. -/
import Derived.Test.YtjjanogfcfapcaaWsa
import Derived.Shelf.SlSortCmp.Kit1
import Derived.Sort.WalkA
import Derived.Sort.WalkB2
import Derived.Sort.WalkB3
import Derived.Sort.WalkB12
import Derived.Sort.WalkC
import Derived.Sort.AssemblyPlain
import Derived.Deep.LoopGhost
import Derived.BigRegion
import Derived.BigQuiet
namespace Go.Proofs.Ytjjanogfcfapcaa.W
open Go.RowKit Go.Shelf Go.Sort
open Go.Proofs (SW Row1 ltOf)
set_option linter.unusedVariables false

/-- An id that an int can be. -/
abbrev Ik := { x : Int // (Lit.int .i64 x).wf = true }
instance : Inhabited Ik := ⟨⟨0, by decide⟩⟩
def eK (x : Ik) : Value := .int .i64 x.1
theorem eK_one : Go.Proofs.OneCell eK := fun _ => rfl
/-- The order of the wheel in block g, bound. -/
abbrev fvB (g : Nat) : Value := .func (.func 59) #[.pointer (some ⟨g, 0, none⟩)] #[]
/-- What is asked of the order, wherever the sort stands. -/
def CmpB (cf : Ik → Ik → Int) (g blk off n : Nat) (w0 : World) : Prop := ∀ (W : World) (dk : Array Ik), dk.size = n → SW eK w0 blk off dk W → ∀ x y : Ik,
  Calls Try.prog 59 #[.pointer (some ⟨g, 0, none⟩), eK x, eK y] W fun e w' => e = .returned (.int .i64 (cf x y)) ∧ ∃ q os', w' = grow (W.drewN q) os'
variable {cf : Ik → Ik → Int} {g blk off n : Nat} {w0 W : World} {d0 dk : Array Ik}
/-- A call of the order in whatever has grown out of the world at hand. -/
theorem CmpB.at (HC : CmpB cf g blk off n w0) (S : SW eK w0 blk off dk W) (hs : dk.size = n) (x y : Ik) (q : Nat) (os : Array Obj) :
    Calls Try.prog 59 #[.pointer (some ⟨g, 0, none⟩), eK x, eK y] (grow (W.drewN q) os) fun e w'' => e = .returned (.int .i64 (cf x y)) ∧ ∃ p : GrownBy, w'' = grow (W.drewN p.n) p.os :=
  Calls.grown_of (HC _ dk hs (S.grown q os) x y)
/-- Two places of the row, read. -/
theorem two_cells (R : Row1 eK w0 blk off d0) (h0 : d0.size = n) (hs : dk.size = n) (S : SW eK w0 blk off dk W) (i j : Nat) (hi : i < n) (hj : j < n) :
    (∀ (q : Nat) (os : Array Obj), (grow (W.drewN q) os).cell? ⟨blk, off + i, none⟩ = some (eK dk[i]!)) ∧ (∀ (q : Nat) (os : Array Obj), (grow (W.drewN q) os).cell? ⟨blk, off + j, none⟩ = some (eK dk[j]!)) :=
  ⟨S.cl R (by omega) i (by omega), S.cl R (by omega) j (by omega)⟩
/-- Two places of the row, to be exchanged. -/
theorem two_swap (R : Row1 eK w0 blk off d0) (h0 : d0.size = n) (hs : dk.size = n) (S : SW eK w0 blk off dk W) (i j : Nat) (hi : i < n) (hj : j < n) :
    W.cell? ⟨blk, off + i, none⟩ = some (eK dk[i]!) ∧ W.cell? ⟨blk, off + j, none⟩ = some (eK dk[j]!) ∧ W.frozen? ⟨blk, off + i, none⟩ = false ∧ W.frozen? ⟨blk, off + j, none⟩ = false ∧ (∃ u, (W.setCell ⟨blk, off + i, none⟩ (eK dk[j]!)).cell? ⟨blk, off + j, none⟩ = some u) ∧
      SW eK w0 blk off (swp dk i j) ((W.setCell ⟨blk, off + i, none⟩ (eK dk[j]!)).setCell ⟨blk, off + j, none⟩ (eK dk[i]!)).drew ∧ (swp dk i j).size = n :=
  ⟨S.c1 R (by omega) i (by omega), S.c1 R (by omega) j (by omega), S.f1 R (by omega) i (by omega), S.f1 R (by omega) j (by omega), S.c2 R (by omega) i j (by omega) (by omega) _, S.swapped R i j (by omega) (by omega), by rw [size_swp]; exact hs⟩
theorem wrapI {z : Int} (h1 : -1000000 ≤ z) (h2 : z ≤ 1000000) : IntKind.i64.wrap z = z := by rw [IntKind.wrap_i64]; omega
theorem lt_true {x y : Ik} (h : ltOf cf x y = true) : decide (cf x y < 0) = true := h
theorem lt_false {x y : Ik} (h : ltOf cf x y = false) : decide (cf x y < 0) = false := h

set_option maxRecDepth 1000000 in
set_option maxHeartbeats 4000000 in
theorem ins_s (HC : CmpB cf g blk off n w0) (R : Row1 eK w0 blk off d0) (h0 : d0.size = n) (hn : n ≤ 100000) (cap a b : Nat) (d : Array Ik) (w : World) (hs : d.size = n) (S : SW eK w0 blk off d w) (hab : a ≤ b) (hb : b ≤ n) :
    Calls Try.prog 70 #[.slice (some ⟨blk, off, none⟩) n cap, .int .i64 (a : Nat), .int .i64 (b : Nat), fvB g] w fun e w' => e = .returned (.tuple #[]) ∧ SW eK w0 blk off (insertionSort (ltOf cf) d a b) w' := by
  have mixed : Try.prog.follows .mixedOrders = true := by kernel_rfl
  have hcl0 := eK_one.cells
  simp only [Value.cells] at hcl0
  have hst := eK_one.store Try.prog
  have HH := Lib.hid HC
  have RR := Lib.hid R
  have S0 := Lib.hid (And.intro hs S)
  have H0 := Lib.hid h0
  clear HC R hs S h0
  go_enter Try.func70, Try.ntmps70
  go_wp2_with fail
  go_loopw [8] (fun x wr => ∃ (i : Nat) (dk : Array Ik), x = .int .i64 i ∧ a < i ∧ i ≤ b + 1 ∧ (dk.size = n ∧ SW eK w0 blk off dk wr) ∧ insOuter (ltOf cf) a b i dk = insOuter (ltOf cf) a b (a + 1) d) (fun x _ => b + 1 - (intOf x).toNat)
  case atStart => exact ⟨a + 1, d, by go_num, by omega, by omega, S0.out, rfl⟩
  case round =>
    clear S0
    obtain ⟨i, dk, rfl, hai, hib, hS, ho⟩ := hrel
    have HS := Lib.hid hS
    have HO := Lib.hid ho
    clear hS ho
    by_cases hlt : i < b
    · have d1 : decide ((i : Int) < (b : Nat)) = true := by simp; omega
      go_wp2_with fail
      go_loopw [9] (fun x wq => ∃ (j : Nat) (dj : Array Ik), x = .int .i64 j ∧ a ≤ j ∧ j ≤ i ∧ (dj.size = n ∧ SW eK w0 blk off dj wq) ∧ insInner (ltOf cf) a j dj = insInner (ltOf cf) a i dk) (fun x _ => (intOf x).toNat)
      case atStart => exact ⟨i, dk, rfl, by omega, Nat.le_refl _, HS.out, rfl⟩
      case round =>
        clear HS
        obtain ⟨j, dj, rfl, haj, hji, hS, hi⟩ := hrel
        have HI := Lib.hid hi
        have HS := Lib.hid hS
        clear hi hS
        have OUT := Lib.hid (show (j ≤ a ∨ (ltOf cf) dj[j]! dj[j - 1]! = false) → insOuter (ltOf cf) a b (i + 1) dj = insOuter (ltOf cf) a b (a + 1) d from fun h => by
          rw [← HO.out, insOuter_go _ _ _ _ _ hlt, ← HI.out, insInner_stop _ _ _ _ h])
        by_cases hja : a < j
        · obtain ⟨p, rfl⟩ : ∃ p, j = p + 1 := ⟨j - 1, by omega⟩
          obtain ⟨la, lb⟩ := two_cells RR.out H0.out HS.out.1 HS.out.2 (p + 1) p (by omega) (by omega)
          have hc := HH.out.at HS.out.2 HS.out.1 dj[p + 1]! dj[p]!
          have d3 : decide ((a : Int) < ((p + 1 : Nat) : Int)) = true := by simp; omega
          have e1 : IntKind.i64.wrap (((p + 1 : Nat) : Int) - 1) = (p : Nat) := by rw [wrapI] <;> omega
          have s0 : (0 : Int) ≤ ((p + 1 : Nat) : Int) := by omega
          have s1 : ((p + 1 : Nat) : Int) < (n : Nat) := by omega
          have s2 : (0 : Int) ≤ (p : Nat) := by omega
          have s3 : ((p : Nat) : Int) < (n : Nat) := by omega
          cases hlv : (ltOf cf) dj[p + 1]! dj[p]! with
          | true =>
            have hd := lt_true hlv
            have SWP := Lib.hid (fun W2 S2 => two_swap (W := W2) RR.out H0.out HS.out.1 S2 (p + 1) p (by omega) (by omega))
            have HG := Lib.hid (show insInner (ltOf cf) a p (swp dj (p + 1) p) = insInner (ltOf cf) a i dk from by rw [← HI.out, insInner_go (ltOf cf) a (p + 1) dj hja hlv]; rfl)
            have SG := Lib.hid (fun q os => HS.out.2.grown q os)
            clear hlv OUT HI HS HO
            generalize dj[p + 1]! = xa at *
            generalize dj[p]! = xb at *
            generalize hp1 : p + 1 = q1 at *
            go_wp2_with fail
            go_quiet_grown (first | (go_at_call 59; exact hc _ _))
            have S2 := SG.out nq osq
            clear la lb hc SG
            generalize grow (wr.drewN nq) osq = w2 at *
            obtain ⟨c1, c2, f1, f2, ⟨u, c3⟩, S3, hs3⟩ := SWP.out w2 S2
            have HS3 := Lib.hid (And.intro hs3 S3)
            clear SWP S2 S3 hs3
            go_wp2_with fail
            go_region
            clear c1 c2 c3 f1 f2
            generalize ((w2.setCell ⟨blk, off + q1, none⟩ (eK xb)).setCell ⟨blk, off + p, none⟩ (eK xa)).drew = w3 at *
            go_wp2_with fail
            go_roundw
            case rel => exact ⟨p, _, by first | rfl | go_num, by omega, by omega, HS3.out, HG.out⟩
            case measure => simp [intOf]; omega
          | false =>
            have hd := lt_false hlv
            have HG := Lib.hid (OUT.out (.inr hlv))
            have SG := Lib.hid (fun q os => And.intro HS.out.1 (HS.out.2.grown q os))
            clear hlv OUT HI HS HO
            generalize dj[p + 1]! = xa at *
            generalize dj[p]! = xb at *
            generalize hp1 : p + 1 = q1 at *
            go_wp2_with fail
            go_quiet_grown (first | (go_at_call 59; exact hc _ _))
            have S2 := Lib.hid (SG.out nq osq)
            clear la lb hc SG
            generalize grow (wr.drewN nq) osq = w2 at *
            go_wp2_with fail
            go_roundw
            case rel => exact ⟨i + 1, dj, by go_num, by omega, by omega, S2.out, HG.out⟩
            case measure => simp [intOf]; omega
        · have d3 : decide ((a : Int) < (j : Nat)) = false := by simp; omega
          have S2 := Lib.hid (And.intro HS.out.1 HS.out.2.drew)
          have HG := Lib.hid (OUT.out (.inl (by omega)))
          clear OUT HI HS HO
          go_wp2_with fail
          go_region
          generalize wr.drew = w2 at *
          go_wp2_with fail
          go_roundw
          case rel => exact ⟨i + 1, dj, by go_num, by omega, by omega, S2.out, HG.out⟩
          case measure => simp [intOf]; omega
    · have d1 : decide ((i : Int) < (b : Nat)) = false := by simp; omega
      have HF := Lib.hid (show SW eK w0 blk off (insertionSort (ltOf cf) d a b) wr from by unfold insertionSort; rw [← HO.out, insOuter_stop _ _ _ _ _ hlt]; exact HS.out.2)
      clear HO HS
      go_wp2_with fail
      go_end0
      exact ⟨rfl, HF.out⟩
end Go.Proofs.Ytjjanogfcfapcaa.W
