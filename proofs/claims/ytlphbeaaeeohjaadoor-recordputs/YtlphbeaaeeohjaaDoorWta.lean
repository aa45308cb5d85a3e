/- The contract of wire.Take. -/
import Derived.Test.YtlphbeaaeeohjaaDoorWtk
namespace Go.Proofs.YtlphbeaaeeohjaaDoor
open Go.RowKit
set_option linter.unusedVariables false

theorem tkB_len {s : ByteArray} {b p : Nat} {r : List UInt8 × Nat} (h : tkB s b p = some r) : runOk s p = true ∧ (piece s p (endFrom s p)).length + 1 ≤ r.1.length := by
  cases hr : runOk s p with
  | false => rw [tkB_bad hr] at h; cases h
  | true =>
    refine ⟨rfl, ?_⟩
    by_cases h0 : lsz s (endFrom s p) = 0
    · rw [tkB_zero hr h0] at h
      cases h
      simp
    · cases hp : ptB s b (endFrom s p) with
      | false => rw [tkB_no hr h0 hp] at h; cases h
      | true =>
        rw [tkB_ptr hr h0 hp, Option.map_eq_some_iff] at h
        obtain ⟨q, hq, rfl⟩ := h
        obtain ⟨ls, _, g2, _, _⟩ := tkB_name _ _ q hq
        have := wire_len_pos ls
        show _ ≤ (piece _ _ _ ++ q.1).length
        rw [List.length_append, g2]
        omega
/-- What is behind a loop's rounds. -/
def aft (af nx : Nat) : Nat := if af = 0 then nx else af
def TkRel (s : ByteArray) (p k : Nat) (acc : List UInt8) (af : Nat) : Prop := tkB s p p = (tkB s k k).map fun r => (acc ++ r.1, aft af r.2)

set_option maxRecDepth 100000 in
set_option maxHeartbeats 2000000 in
theorem take_nat (s : ByteArray) (p : Nat) (hs : s.size ≤ 140737488355328) (hp : p ≤ maxLen) (w : World) :
    Calls Tryd.prog 62 #[.string s, .int .i64 (p : Nat)] w fun e w' => e = .returned (.tuple #[.string (tkS s p), .int .i64 (tkX s p : Nat), .int .i64 (tkE s p : Nat)]) ∧ Below w.heap.size w w' := by
  unfold maxLen at hp
  go_enter Tryd.func62, Tryd.ntmps62
  go_wp2_with fail
  go_loopw [1, 8] (fun i f wr => ∃ (k af : Nat) (acc : List UInt8), i = .int .i64 k ∧ f = .int .i64 af ∧ k ≤ p ∧ acc.length ≤ 254 ∧ IsB w.heap.size w.heap.size acc wr ∧ Below w.heap.size w wr ∧ TkRel s p k acc af) (fun i _ _ => (intOf i).toNat)
  case atStart =>
    refine ⟨p, 0, [], rfl, rfl, Nat.le_refl _, by simp, IsB.new w, (Below.refl _ _).alloc (Nat.le_refl _) _, ?_⟩
    show tkB s p p = _
    cases tkB s p p <;> rfl
  case round =>
    obtain ⟨k, af, acc, rfl, rfl, hkp, hacc, hB, hbel, hrel⟩ := hrel
    have HRel := Lib.hid hrel
    clear hrel
    have hsz := hbel.size
    have hkm : k ≤ maxLen := by unfold maxLen; omega
    go_wp2_with fail
    refine (run_nat s k hs hkm _).mono ?_
    rintro e w1 ⟨rfl, hb1⟩
    have hB1 := hB.below hb1
    have hbel1 : Below w.heap.size w w1 := hbel.trans (hb1.mono hsz)
    clear hkm hB hbel hb1
    cases hr : runOk s k with
    | false =>
      have hn : tkB s p p = none := by rw [HRel.out, tkB_bad hr]; rfl
      obtain ⟨r1, r2, r3⟩ := tk_none (s := s) (p := (p : Int)) (.inr (by simpa using hn))
      have HR := Lib.hid (And.intro r1 (And.intro r2 r3))
      have q1 : rnS s k = ⟨#[]⟩ := by unfold rnS; rw [if_neg (by rw [hr]; decide)]
      have q2 : rnX s k = 0 := by unfold rnX; rw [if_neg (by rw [hr]; decide)]
      have q3 : rnE s k = 2 := by unfold rnE; rw [if_neg (by rw [hr]; decide)]
      rw [q1, q2, q3]
      clear q1 q2 q3 r1 r2 r3 hn hr
      go_wp2_with fail
      go_ret3
      exact ⟨by rw [HR.out.1, HR.out.2.1, HR.out.2.2]; rfl, hbel1⟩
    | true =>
      obtain ⟨e, he⟩ : ∃ e, endFrom s k = e := ⟨_, rfl⟩
      have hlt := (runOk_iff.1 hr).1
      have hge := endFrom_ge' s k
      rw [he] at hlt hge
      have q1 : rnS s k = s.extract k e := by unfold rnS; rw [if_pos hr, he]
      have q2 : rnX s k = e := by unfold rnX; rw [if_pos hr, he]
      have q3 : rnE s k = 0 := by unfold rnE; rw [if_pos hr]
      obtain ⟨m, hm⟩ : ∃ m, e - k = m := ⟨_, rfl⟩
      have hpl : (piece s k e).length = m := by rw [← hm]; exact piece_len (by omega)
      have hxs : (s.extract k e).size = m := by rw [← ba_len]; exact hpl
      have hml : m ≤ 140737488355328 := by omega
      rw [q1, q2, q3]
      have HHr := Lib.hid hr
      have HHe := Lib.hid he
      have HPl := Lib.hid hpl
      have HXl : Hid ((s.extract k e).data.toList = piece s k e) := Lib.hid rfl
      clear q1 q2 q3 hr he hpl hm
      by_cases hlong : 255 < acc.length + m + 1
      · have hno : tkS s p = ⟨#[]⟩ ∧ tkX s p = 0 ∧ tkE s p = 2 := by
          have h1 := HRel.out
          unfold TkRel at h1
          cases ht : tkB s k k with
          | none => rw [ht] at h1; exact tk_none (.inr (by simpa using h1))
          | some r =>
            rw [ht] at h1
            have h2 := (tkB_len ht).2
            rw [HHe.out, HPl.out] at h2
            exact tk_long (r := (acc ++ r.1, aft af r.2)) (by omega) (by simpa using h1) (by show 255 < (acc ++ r.1).length; rw [List.length_append]; omega)
        have HR := Lib.hid hno
        have b1 : decide (255 < (acc.length : Int) + (m : Int) + 1) = true := by simp; omega
        clear hno hlong hlt hge
        go_wp2_with fail
        refine (blen _ _ _ _ hB1).mono ?_
        rintro e w2 ⟨rfl, rfl⟩
        go_wp2_with fail
        go_ret3
        exact ⟨by rw [HR.out.1, HR.out.2.1, HR.out.2.2]; rfl, hbel1⟩
      · have b1 : decide (255 < (acc.length : Int) + (m : Int) + 1) = false := by simp; omega
        have HXs := Lib.hid hxs
        go_wp2_with fail
        refine (blen _ _ _ _ hB1).mono ?_
        rintro e w2 ⟨rfl, rfl⟩
        go_wp2_with fail
        clear b1 hxs
        have hsz1 := hbel1.size
        refine (wstr _ _ _ _ _ hB1 (by rw [HXs.out]; omega) hsz1).mono ?_
        rintro e w2 ⟨rfl, hB2, hb2, hk2⟩
        have hbel2 : Below w.heap.size w w2 := hbel1.trans hb2
        rw [HXl.out] at hB2
        go_wp2_with fail
        refine (stop_any s e hs hlt _).mono ?_
        rintro e' w3 ⟨rfl, hb3⟩
        have hB3 := hB2.below hb3
        have hbel3 : Below w.heap.size w w3 := hbel2.trans (hb3.mono hbel2.size)
        clear hB1 hbel1 hB2 hb2 hk2 hbel2 hb3
        have hsz3 := hbel3.size
        have hal : (acc ++ piece s k e).length ≤ 254 := by rw [List.length_append, HPl.out]; omega
        have hemax : e + 2 ≤ 9223372036854775807 := by omega
        by_cases h0 : lsz s e = 0
        · have q1 : spT s e = -1 := by unfold spT; rw [if_pos h0]
          have q2 : spX s e = e + 1 := by unfold spX; rw [if_pos h0]
          have q3 : spE s e = 0 := by unfold spE; rw [if_pos h0]
          have hal2 : (acc ++ (piece s k e ++ [0])).length ≤ 255 := by rw [← List.append_assoc, List.length_append]; exact Nat.succ_le_succ hal
          have ht : tkB s p p = some (acc ++ (piece s k e ++ [0]), aft af (e + 1)) := by
            rw [HRel.out, tkB_zero HHr.out (by rw [HHe.out]; exact h0), HHe.out]
            simp
          obtain ⟨r1, r2, r3⟩ := tk_some (s := s) (p := (p : Int)) (by omega) (by simpa using ht) hal2
          have HR := Lib.hid (And.intro r1 (And.intro r2 r3))
          rw [q1, q2, q3]
          clear q1 q2 q3 r1 r2 r3 ht h0
          by_cases ha : af = 0
          · subst ha
            go_wp2_with fail
            refine (wstr _ _ _ _ _ hB3 (by show _ + 1 ≤ _; omega) hsz3).mono ?_
            rintro e' w4 ⟨rfl, hB4, hb4, hk4⟩
            go_wp2_with fail
            refine (bstr _ _ _ _ hB4 (Nat.le_trans hsz3 hb4.size)).mono ?_
            rintro e' w5 ⟨rfl, hb5⟩
            go_wp2_with fail
            refine (fold_any _ (by show (acc ++ (piece s k e ++ [0])).length ≤ _; omega) _).mono ?_
            rintro e' w6 ⟨rfl, hb6⟩
            go_wp2_with fail
            go_ret3
            have hbf := ((hbel3.trans hb4).trans hb5)
            refine ⟨?_, hbf.trans (hb6.mono hbf.size)⟩
            rw [HR.out.1, HR.out.2.1, HR.out.2.2]
            rfl
          · have b1 : ((af : Int) == 0) = false := by simpa using ha
            go_wp2_with fail
            refine (wstr _ _ _ _ _ hB3 (by show _ + 1 ≤ _; omega) hsz3).mono ?_
            rintro e' w4 ⟨rfl, hB4, hb4, hk4⟩
            go_wp2_with fail
            refine (bstr _ _ _ _ hB4 (Nat.le_trans hsz3 hb4.size)).mono ?_
            rintro e' w5 ⟨rfl, hb5⟩
            go_wp2_with fail
            refine (fold_any _ (by show (acc ++ (piece s k e ++ [0])).length ≤ _; omega) _).mono ?_
            rintro e' w6 ⟨rfl, hb6⟩
            go_wp2_with fail
            go_ret3
            have hbf := ((hbel3.trans hb4).trans hb5)
            refine ⟨?_, hbf.trans (hb6.mono hbf.size)⟩
            rw [HR.out.1, HR.out.2.1, HR.out.2.2]
            unfold aft
            rw [if_neg ha]
            rfl
        · by_cases h1 : e + 1 < s.size ∧ 192 ≤ lsz s e
          · have q1 : spT s e = (toOf s e : Nat) := by unfold spT; rw [if_neg h0, if_pos h1]
            have q2 : spX s e = e + 2 := by unfold spX; rw [if_neg h0, if_pos h1]
            have q3 : spE s e = 0 := by unfold spE; rw [if_neg h0, if_pos h1]
            rw [q1, q2, q3]
            have b2 : ((toOf s e : Int) == -1) = false := by simp
            clear q1 q2 q3
            by_cases hto : toOf s e < k
            · have b3 : decide ((k : Int) ≤ (toOf s e : Int)) = false := by simp; omega
              have ht : TkRel s p (toOf s e) (acc ++ piece s k e) (aft af (e + 2)) := by
                unfold TkRel
                rw [HRel.out, tkB_ptr HHr.out (by rw [HHe.out]; exact h0) (by rw [HHe.out]; exact ptB_iff.2 ⟨h1.1, h1.2, hto⟩), HHe.out, Option.map_map]
                congr 1
                funext r
                simp only [Function.comp, List.append_assoc, Prod.mk.injEq, true_and]
                unfold aft
                split <;> simp_all
              have HT := Lib.hid ht
              generalize toOf s e = to at *
              clear ht h0 h1
              by_cases ha : af = 0
              · subst ha
                go_wp2_with fail
                go_roundw
                case rel => exact ⟨to, e + 2, _, rfl, by go_num, by omega, hal, hB3, hbel3, HT.out⟩
                case measure => simp [intOf]; omega
              · have b1 : ((af : Int) == 0) = false := by simpa using ha
                have haf : aft af (e + 2) = af := by unfold aft; rw [if_neg ha]
                have HA := Lib.hid haf
                clear haf
                go_wp2_with fail
                go_roundw
                case rel => exact ⟨to, af, _, rfl, rfl, by omega, hal, hB3, hbel3, by have := HT.out; rw [HA.out] at this; exact this⟩
                case measure => simp [intOf]; omega
            · have b3 : decide ((k : Int) ≤ (toOf s e : Int)) = true := by simp; omega
              have hn : tkB s p p = none := by
                rw [HRel.out, tkB_no HHr.out (by rw [HHe.out]; exact h0) (by
                  rw [HHe.out]
                  cases hpb : ptB s k e with
                  | false => rfl
                  | true => exact absurd (ptB_iff.1 hpb).2.2 hto)]
                rfl
              obtain ⟨r1, r2, r3⟩ := tk_none (s := s) (p := (p : Int)) (.inr (by simpa using hn))
              have HR := Lib.hid (And.intro r1 (And.intro r2 r3))
              have h3 : k ≤ toOf s e := by omega
              generalize toOf s e = to at *
              clear r1 r2 r3 hn h0 h1 hto
              by_cases ha : af = 0
              · subst ha
                go_wp2_with fail
                go_ret3
                exact ⟨by rw [HR.out.1, HR.out.2.1, HR.out.2.2]; rfl, hbel3⟩
              · have b1 : ((af : Int) == 0) = false := by simpa using ha
                go_wp2_with fail
                go_ret3
                exact ⟨by rw [HR.out.1, HR.out.2.1, HR.out.2.2]; rfl, hbel3⟩
          · have q1 : spT s e = 0 := by unfold spT; rw [if_neg h0, if_neg h1]
            have q2 : spX s e = 0 := by unfold spX; rw [if_neg h0, if_neg h1]
            have q3 : spE s e = 2 := by unfold spE; rw [if_neg h0, if_neg h1]
            have hn : tkB s p p = none := by
              rw [HRel.out, tkB_no HHr.out (by rw [HHe.out]; exact h0) (by
                rw [HHe.out]
                cases hpb : ptB s k e with
                | false => rfl
                | true => exact absurd ⟨(ptB_iff.1 hpb).1, (ptB_iff.1 hpb).2.1⟩ h1)]
              rfl
            obtain ⟨r1, r2, r3⟩ := tk_none (s := s) (p := (p : Int)) (.inr (by simpa using hn))
            have HR := Lib.hid (And.intro r1 (And.intro r2 r3))
            rw [q1, q2, q3]
            clear q1 q2 q3 r1 r2 r3 hn h0 h1
            go_wp2_with fail
            go_ret3
            exact ⟨by rw [HR.out.1, HR.out.2.1, HR.out.2.2]; rfl, hbel3⟩

set_option maxRecDepth 100000 in
set_option maxHeartbeats 1000000 in
theorem take_neg (s : ByteArray) (p : Int) (hs : s.size ≤ 140737488355328) (hp : p < 0) (w : World) :
    Calls Tryd.prog 62 #[.string s, .int .i64 p] w fun e w' => e = .returned (.tuple #[.string ⟨#[]⟩, .int .i64 0, .int .i64 2]) ∧ Below w.heap.size w w' := by
  go_enter Tryd.func62, Tryd.ntmps62
  go_wp2_with fail
  refine wp_loop_rounds 1 ?_
  rw [rounds_succ]
  go_wp2_with fail
  refine (run_neg s p (by unfold maxLen; omega) hp _).mono ?_
  rintro e w1 ⟨rfl, hb1⟩
  go_wp2_with fail
  go_ret3
  exact ⟨rfl, ((Below.refl _ w).alloc (Nat.le_refl _) _).trans (hb1.mono (by simp))⟩
theorem take_any (s : ByteArray) (p : Int) (hs : s.size ≤ 140737488355328) (hp : p ≤ maxLen) (w : World) :
    Calls Tryd.prog 62 #[.string s, .int .i64 p] w fun e w' => e = .returned (.tuple #[.string (tkS s p), .int .i64 (tkX s p : Nat), .int .i64 (tkE s p : Nat)]) ∧ Below w.heap.size w w' := by
  by_cases h : 0 ≤ p
  · have h1 := take_nat s p.toNat hs (by omega) w
    rw [show ((p.toNat : Nat) : Int) = p by omega] at h1
    exact h1
  · obtain ⟨r1, r2, r3⟩ := tk_none (s := s) (p := p) (.inl (by omega))
    rw [r1, r2, r3]
    exact take_neg s p hs (by omega) w
end Go.Proofs.YtlphbeaaeeohjaaDoor
