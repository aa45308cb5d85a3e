/- The walk of derricklaw04.RdataVery: what is taken may be; with a byte more, or less, it isn't; a target is a name. -/
import Derived.Test.YtccmppnindkgfaaDoorRsh
import Derived.Test.YtccmppnindkgfaaDoorLwn
namespace Go.Proofs.YtccmppnindkgfaaDoor
open Go.RowKit
set_option linter.unusedVariables false

theorem tdO_eq {s : ByteArray} {p m k : Nat} (hm : m ≤ 65535) : tdO s p m k = if p + m ≤ s.size then takeD s p m k else none := by
  unfold tdO
  by_cases h : p + m ≤ s.size
  · rw [if_pos h, if_pos (Oc.okB_yes ⟨by omega, by omega, by omega⟩), show ((p : Int) + (m : Int)).toNat = p + m by omega]
    exact take_eq k h hm
  · rw [if_neg h, if_neg (by rw [Oc.okB_no (fun x => h (by have := x.2.2; omega))]; decide)]
theorem tdO_neg {s : ByteArray} {p k : Nat} {m : Int} (hm : m < 0) : tdO s p m k = none := by
  unfold tdO
  rw [if_neg (by rw [Oc.okB_no (fun x => by have := x.2.1; omega)]; decide)]
theorem td_may {s : ByteArray} {p m k : Nat} (hm : m ≤ 65535) {l : List UInt8} (h : tdO s p m k = some l) : mayD k ⟨l.toArray⟩ = true ∧ takeD s p m k = some l ∧ p + m ≤ s.size := by
  rw [tdO_eq hm] at h
  split at h
  · rename_i hp
    exact ⟨takeD_may hp h, h, hp⟩
  · cases h
theorem td_more {s : ByteArray} {p m k : Nat} (hm : m < 256) (hf : fixedD k = true) {l : List UInt8} (h : tdO s p m k = some l) : tdE s p ((m : Int) + 1) k = 2 ∧ tdE s p ((m : Int) - 1) k = 2 := by
  obtain ⟨_, h1, hp⟩ := td_may (by omega) h
  refine ⟨(td_none ?_).2, (td_none ?_).2⟩
  · rw [show (m : Int) + 1 = ((m + 1 : Nat) : Int) by omega, tdO_eq (by omega)]
    split
    · rename_i hp2
      exact takeD_exact hf hp hp2 h1 (by omega)
    · rfl
  · by_cases h0 : m = 0
    · subst h0
      exact tdO_neg (by omega)
    · rw [show (m : Int) - 1 = ((m - 1 : Nat) : Int) by omega, tdO_eq (by omega)]
      split
      · rename_i hp2
        exact takeD_exact hf hp hp2 h1 (by omega)
      · rfl
theorem fixed_or (k : Nat) : (k ≠ 1 ∧ k ≠ 28 ∧ k ≠ 2 ∧ k ≠ 5 ∧ k ≠ 12 ∧ k ≠ 15 ∧ k ≠ 6) ∨ k = 1 ∨ k = 28 ∨ k = 2 ∨ k = 5 ∨ k = 12 ∨ k = 15 ∨ k = 6 := by omega
theorem tg_cases (k : Nat) (d : ByteArray) : (tgB k d = false ∧ tgS k d = ⟨#[]⟩) ∨ (tgB k d = true ∧ mayB (tgS k d) = true ∧ (tgS k d).size ≤ d.size) := by
  obtain ⟨h1, h2⟩ := tgt_eq k d
  cases h : tgtD k d with
  | none => rw [h] at h1 h2; exact .inl ⟨h1, h2⟩
  | some n =>
    rw [h] at h1 h2
    obtain ⟨a, b⟩ := tgtD_name h
    refine .inr ⟨h1, ?_, ?_⟩
    · rw [h2]; exact a
    · rw [h2]; exact b

set_option maxRecDepth 100000 in
set_option maxHeartbeats 4000000 in
theorem very_walk (s : ByteArray) (a m k : Nat) (hs : s.size ≤ 140737488355328) (ha : a < 256) (hm : m < 256) (hk : k < 65536) (w : World) (hL : Lay w) :
    Calls Tryd.prog 6 #[.string s, .int .u8 (a : Nat), .int .u8 (m : Nat), .int .u16 (k : Nat)] w fun e w' => e = .returned (.bool true) ∧ Below w.heap.size w w' := by
  have HL := Lib.hid hL
  have H0 := Lib.hid (lay_lt hL)
  clear hL
  go_enter Tryd.func6, Tryd.ntmps6
  go_wp2_with fail
  refine (rshown_any _ HL.out).mono ?_
  rintro e w1 ⟨rfl, hb1⟩
  have HB1 := Lib.hid hb1
  have HL1 := Lib.hid (HL.out.below H0.out hb1)
  clear hb1
  by_cases hsz : s.size ≤ 1000
  · have c1 : decide ((1000 : Int) < (s.size : Int)) = false := by simp; omega
    have c2 : ¬ 1000 < s.size := by omega
    have ham : (a : Int) ≤ maxLen := by unfold maxLen; omega
    have HAM := Lib.hid ham
    clear ham
    go_wp2_with fail
    refine (rtake_any s a m k (by omega) HAM.out hk _ HL1.out).mono ?_
    rintro e w2 ⟨rfl, hb2⟩
    have HB2 := Lib.hid (bthen HB1.out hb2)
    have HL2 := Lib.hid (HL.out.below H0.out HB2.out)
    clear hb2 c1 c2 HL1
    cases ht : tdO s a m k with
    | none =>
      obtain ⟨t1, t2⟩ := td_none ht
      rw [t1, t2]
      clear t1 t2 ht
      go_wp2_with fail
      go_ret
      exact ⟨rfl, HB2.out⟩
    | some l =>
      obtain ⟨t1, t2⟩ := td_some ht
      rw [t1, t2]
      obtain ⟨hmay, _, _⟩ := td_may (by omega) ht
      have hmore : fixedD k = true → tdE s a ((m : Int) + 1) k = 2 ∧ tdE s a ((m : Int) - 1) k = 2 := fun hf => td_more hm hf ht
      generalize (⟨l.toArray⟩ : ByteArray) = D at *
      have hD : D.size ≤ 65535 := by unfold mayD at hmay; rw [Bool.and_eq_true, decide_eq_true_iff] at hmay; exact hmay.1
      have HM := Lib.hid ((may_eq k D).trans hmay)
      clear t1 t2 ht hmay
      go_wp2_with fail
      refine (rtake_any s a ((m : Int) + 1) k (by omega) HAM.out hk _ HL2.out).mono ?_
      rintro e w3 ⟨rfl, hb3⟩
      have HB3 := Lib.hid (bthen HB2.out hb3)
      have HL3 := Lib.hid (HL.out.below H0.out HB3.out)
      clear hb3 HL2
      generalize tdE s a ((m : Int) + 1) k = Fe at *
      generalize tdS s a ((m : Int) + 1) k = Fs
      go_wp2_with fail
      refine (rtake_any s a ((m : Int) - 1) k (by omega) HAM.out hk _ HL3.out).mono ?_
      rintro e w4 ⟨rfl, hb4⟩
      have HB4 := Lib.hid (bthen HB3.out hb4)
      have HL4 := Lib.hid (HL.out.below H0.out HB4.out)
      clear hb4 HL3
      generalize tdE s a ((m : Int) - 1) k = Ge at *
      generalize tdS s a ((m : Int) - 1) k = Gs
      have HMore := Lib.hid hmore
      clear hmore
      go_wp2_with fail
      refine (rtarget_any k D (by omega) hk _ HL4.out).mono ?_
      rintro e w5 ⟨rfl, hb5⟩
      have HB5 := Lib.hid (bthen HB4.out hb5)
      have HL5 := Lib.hid (HL.out.below H0.out HB5.out)
      clear hb5 HL4
      have htg := tg_cases k D
      generalize tgB k D = Tb at *
      generalize tgS k D = Ts at *
      have HTg := Lib.hid htg
      clear htg
      rcases fixed_or k with ⟨n1, n2, n3, n4, n5, n6, n7⟩ | hfx
      · have b1 : ((k : Int) == 1) = false := by simp; omega
        have b2 : ((k : Int) == 28) = false := by simp; omega
        have b3 : ((k : Int) == 2) = false := by simp; omega
        have b4 : ((k : Int) == 5) = false := by simp; omega
        have b5 : ((k : Int) == 12) = false := by simp; omega
        have b6 : ((k : Int) == 15) = false := by simp; omega
        have b7 : ((k : Int) == 6) = false := by simp; omega
        clear n1 n2 n3 n4 n5 n6 n7
        go_wp2_with fail
        refine (rmay_any k D (by omega) hk _ HL5.out).mono ?_
        rintro e w6 ⟨rfl, hb6⟩
        rw [HM.out]
        have HB6 := Lib.hid (bthen HB5.out hb6)
        clear hb6 b1 b2 b3 b4 b5 b6 b7
        rcases HTg.out with ⟨g1, g2⟩ | ⟨g1, g2, g3⟩
        · rw [g1]
          clear g1 g2
          go_wp2_with fail
          go_ret
          exact ⟨rfl, HB6.out⟩
        · rw [g1]
          have g4 : decide (Ts.size ≤ D.size) = true := by simpa using g3
          have HG := Lib.hid g2
          clear g1 g2
          go_wp2_with fail
          refine (may_any Ts (by omega) _).mono ?_
          rintro e w7 ⟨rfl, hb7⟩
          rw [HG.out]
          go_wp2_with fail
          go_ret
          exact ⟨rfl, bthen HB6.out hb7⟩
      · obtain ⟨f1, f2⟩ := HMore.out (by rcases hfx with rfl | rfl | rfl | rfl | rfl | rfl | rfl <;> rfl)
        rw [f1, f2]
        clear f1 f2
        rcases hfx with rfl | rfl | rfl | rfl | rfl | rfl | rfl
        all_goals
          go_wp2_with fail
          refine (rmay_any _ D (by omega) hk _ HL5.out).mono ?_
          rintro e w6 ⟨rfl, hb6⟩
          rw [HM.out]
          have HB6 := Lib.hid (bthen HB5.out hb6)
          clear hb6
          rcases HTg.out with ⟨g1, g2⟩ | ⟨g1, g2, g3⟩
          · rw [g1]
            clear g1 g2
            go_wp2_with fail
            go_ret
            exact ⟨rfl, HB6.out⟩
          · rw [g1]
            have g4 : decide (Ts.size ≤ D.size) = true := by simpa using g3
            have HG := Lib.hid g2
            clear g1 g2
            go_wp2_with fail
            refine (may_any Ts (by omega) _).mono ?_
            rintro e w7 ⟨rfl, hb7⟩
            rw [HG.out]
            go_wp2_with fail
            go_ret
            exact ⟨rfl, bthen HB6.out hb7⟩
  · have c1 : decide ((1000 : Int) < (s.size : Int)) = true := by simp; omega
    have c2 : 1000 < s.size := by omega
    go_wp2_with fail
    go_ret
    exact ⟨rfl, HB1.out⟩
end Go.Proofs.YtccmppnindkgfaaDoor
