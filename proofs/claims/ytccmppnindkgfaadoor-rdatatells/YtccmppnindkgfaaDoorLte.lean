/- The walk of derricklaw04.RdataTells: whether data may be, their name, and the data that bytes are, are the document's. -/
import Derived.Test.YtccmppnindkgfaaDoorRfg
import Derived.Test.YtccmppnindkgfaaDoorRsh
import Derived.Test.YtccmppnindkgfaaDoorLwn
namespace Go.Proofs.YtccmppnindkgfaaDoor
open Go.RowKit
set_option linter.unusedVariables false

theorem le_maxLen {n : Int} (h : (Lit.int .i64 n).wf = true) : n ≤ maxLen := by
  simp [Lit.wf, IntKind.min, IntKind.max, IntKind.signed, IntKind.bits] at h
  unfold maxLen
  omega

set_option maxRecDepth 100000 in
set_option maxHeartbeats 4000000 in
theorem tells_walk (k : Nat) (d s : ByteArray) (p m : Int) (hk : k < 65536) (hd : d.size ≤ 140737488355328) (hs : s.size ≤ 140737488355328) (hp : (Lit.int .i64 p).wf = true) (hm : (Lit.int .i64 m).wf = true) (w : World) (hL : Lay w) :
    Calls Tryd.prog 3 #[.int .u16 (k : Nat), .string d, .string s, .int .i64 p, .int .i64 m] w fun e w' => e = .returned (.bool true) ∧ Below w.heap.size w w' := by
  have HL := Lib.hid hL
  have H0 := Lib.hid (lay_lt hL)
  have HP := Lib.hid (le_maxLen hp)
  clear hL hp hm
  go_enter Tryd.func3, Tryd.ntmps3
  go_wp2_with fail
  refine (rshown_any _ HL.out).mono ?_
  rintro e w1 ⟨rfl, hb1⟩
  have HB1 := Lib.hid hb1
  have HL1 := Lib.hid (HL.out.below H0.out hb1)
  clear hb1
  by_cases hd1 : d.size ≤ 1000
  · have c1 : decide ((1000 : Int) < (d.size : Int)) = false := by simp; omega
    have c2 : ¬ 1000 < d.size := by omega
    by_cases hs1 : s.size ≤ 1000
    · have c3 : decide ((1000 : Int) < (s.size : Int)) = false := by simp; omega
      have c4 : ¬ 1000 < s.size := by omega
      go_wp2_with fail
      refine (rtake_any s p m k (by omega) HP.out hk _ HL1.out).mono ?_
      rintro e w2 ⟨rfl, hb2⟩
      have HB2 := Lib.hid (bthen HB1.out hb2)
      clear hb2 c1 c2 c3 c4
      have hrt := fun w' => reftake_any s p m k hk hs1 w'
      have HRT := Lib.hid hrt
      clear hrt
      generalize tdS s p m k = Ts at *
      generalize tdE s p m k = Te at *
      go_wp2_with fail
      refine (HRT.out _).mono ?_
      rintro e w3 ⟨rfl, hb3⟩
      have HB3 := Lib.hid (bthen HB2.out hb3)
      have HL3 := Lib.hid (HL.out.below H0.out HB3.out)
      clear hb3
      go_wp2_with fail
      refine (rtarget_any k d (by omega) hk _ HL3.out).mono ?_
      rintro e w4 ⟨rfl, hb4⟩
      have HB4 := Lib.hid (bthen HB3.out hb4)
      have HL4 := Lib.hid (HL.out.below H0.out HB4.out)
      clear hb4
      rw [(tgt_eq k d).1, (tgt_eq k d).2]
      have hrt := fun w' => reftarget_any k d (by omega) hk w'
      have HRT2 := Lib.hid hrt
      clear hrt
      generalize (tgtD k d).getD ⟨#[]⟩ = Gs at *
      generalize (tgtD k d).isSome = Gb at *
      go_wp2_with fail
      refine (HRT2.out _).mono ?_
      rintro e w5 ⟨rfl, hb5⟩
      have HB5 := Lib.hid (bthen HB4.out hb5)
      have HL5 := Lib.hid (HL.out.below H0.out HB5.out)
      clear hb5
      go_wp2_with fail
      refine (rmay_any k d (by omega) hk _ HL5.out).mono ?_
      rintro e w6 ⟨rfl, hb6⟩
      rw [may_eq]
      have HB6 := Lib.hid (bthen HB5.out hb6)
      clear hb6
      have hrm := fun w' => refmay_any k d (by omega) hk w'
      have HRM := Lib.hid hrm
      clear hrm
      generalize mayD k d = Mb at *
      go_wp2_with fail
      refine (HRM.out _).mono ?_
      rintro e w7 ⟨rfl, hb7⟩
      have HB7 := Lib.hid (bthen HB6.out hb7)
      clear hb7
      have z1 := self_is Ts
      have z2 := self_is Gs
      have z3 : (Te == Te) = true := by simp
      have z4 : (Mb == Mb) = true := by simp
      have z5 : (Gb == Gb) = true := by simp
      go_wp2_with fail
      go_ret
      exact ⟨rfl, HB7.out⟩
    · have c3 : decide ((1000 : Int) < (s.size : Int)) = true := by simp; omega
      have c4 : 1000 < s.size := by omega
      go_wp2_with fail
      go_ret
      exact ⟨rfl, HB1.out⟩
  · have c1 : decide ((1000 : Int) < (d.size : Int)) = true := by simp; omega
    have c2 : 1000 < d.size := by omega
    go_wp2_with fail
    go_ret
    exact ⟨rfl, HB1.out⟩
end Go.Proofs.YtccmppnindkgfaaDoor
