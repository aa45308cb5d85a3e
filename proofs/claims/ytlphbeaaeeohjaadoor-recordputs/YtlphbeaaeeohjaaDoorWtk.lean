/- The contracts of wire.run, wire.stop and wire.Take. -/
import Derived.Test.YtlphbeaaeeohjaaDoorWpa
namespace Go.Proofs.YtlphbeaaeeohjaaDoor
open Go.RowKit
set_option linter.unusedVariables false

theorem lsz_le (s : ByteArray) (p : Nat) : lsz s p ≤ 255 := by
  unfold lsz
  split
  · have := (s[p]'(by assumption)).toNat_lt; omega
  · omega
theorem un_one {s : ByteArray} {k : Nat} (h : k < s.size) : Oc.un s (k : Int) 1 = (lsz s k : Nat) ∧ Oc.so s (k : Int) 1 = (k : Int) + 1 ∧ Oc.se s (k : Int) 1 = 0 := by
  have hk : Oc.okS s (k : Int) 1 := ⟨by omega, by omega, by omega⟩
  refine ⟨?_, by unfold Oc.so; rw [if_pos hk], by unfold Oc.se; rw [if_pos hk]⟩
  unfold Oc.un
  rw [if_pos hk, Oc.bnum_at1 s k (by omega) (by omega), lsz_eq h]
  simp
theorem un_two {s : ByteArray} {k : Nat} (h : k + 1 < s.size) : Oc.un s (k : Int) 2 = ((256 * lsz s k + lsz s (k + 1) : Nat) : Int) ∧ Oc.so s (k : Int) 2 = (k : Int) + 2 ∧ Oc.se s (k : Int) 2 = 0 := by
  have hk : Oc.okS s (k : Int) 2 := ⟨by omega, by omega, by omega⟩
  refine ⟨?_, by unfold Oc.so; rw [if_pos hk], by unfold Oc.se; rw [if_pos hk]⟩
  unfold Oc.un
  rw [if_pos hk, Oc.bnum_at2 s k (by omega) (by omega), lsz_eq h, lsz_eq (show k < s.size by omega)]
  simp
theorem un_not {s : ByteArray} {p m : Int} (h : ¬ Oc.okS s p m) : Oc.un s p m = 0 ∧ Oc.so s p m = 0 ∧ Oc.se s p m = 2 ∧ Oc.sx s p m = ⟨#[]⟩ := by
  exact ⟨if_neg h, if_neg h, if_neg h, if_neg h⟩

/-- wire.run's results. -/
def rnS (s : ByteArray) (p : Nat) : ByteArray := if runOk s p = true then s.extract p (endFrom s p) else ⟨#[]⟩
def rnX (s : ByteArray) (p : Nat) : Nat := if runOk s p = true then endFrom s p else 0
def rnE (s : ByteArray) (p : Nat) : Nat := if runOk s p = true then 0 else 2

theorem slice_mid (s : ByteArray) (a b : Nat) (h : a ≤ b) (h2 : b ≤ s.size) (w : World) :
    (Instr.slice 9 (.string s) (some (.int .i64 (a : Int))) (some (.int .i64 (b : Int))) none).run Tryd.prog w = .ok (.string (s.extract a b)) w := by
  have := run_slice_string (P := Tryd.prog) w 9 s .i64 .i64 (a : Int) (b : Int) Tryd.underlying9 (by omega) (by omega) (by omega)
  simpa using this

set_option maxRecDepth 100000 in
set_option maxHeartbeats 1000000 in
theorem run_nat (s : ByteArray) (p : Nat) (hs : s.size ≤ 140737488355328) (hp : p ≤ maxLen) (w : World) :
    Calls Tryd.prog 82 #[.string s, .int .i64 (p : Nat)] w fun e w' => e = .returned (.tuple #[.string (rnS s p), .int .i64 (rnX s p : Nat), .int .i64 (rnE s p : Nat)]) ∧ Below w.heap.size w w' := by
  unfold maxLen at hp
  have hs' : s.size ≤ maxLen := by unfold maxLen; omega
  have HS := Lib.hid hs'
  clear hs'
  go_enter Tryd.func82, Tryd.ntmps82
  go_wp2_with fail
  go_loopw [7] (fun i wr => ∃ k : Nat, i = .int .i64 k ∧ p ≤ k ∧ (k = p ∨ k ≤ s.size) ∧ endFrom s p = endFrom s k ∧ Below w.heap.size w wr) (fun i _ => s.size - (intOf i).toNat)
  case atStart => exact ⟨p, rfl, Nat.le_refl _, .inl rfl, rfl, Below.refl _ _⟩
  case round =>
    obtain ⟨k, rfl, hpk, hks, hef, hbel⟩ := hrel
    have HE := Lib.hid hef
    clear hef
    have hkm : (k : Int) ≤ maxLen := by unfold maxLen; omega
    go_wp2_with fail
    refine (Oc.u8_any s k _ HS.out hkm).mono ?_
    rintro e w1 ⟨rfl, hb1⟩
    have hbel1 : Below w.heap.size w w1 := hbel.trans (hb1.mono hbel.size)
    clear hkm hbel hb1
    by_cases hlt : k < s.size
    · obtain ⟨e1, e2, e3⟩ := un_one hlt
      rw [e1, e2, e3]
      clear e1 e2 e3
      have h8 := lsz_le s k
      by_cases h0 : lsz s k = 0 ∨ 63 < lsz s k
      · have hnl : ¬ isL s k = true := fun h => by have := isL_iff.1 h; omega
        have hend : endFrom s p = k := by rw [HE.out, endFrom_nil hnl]
        have hr : runOk s p = true := runOk_iff.2 (by rw [hend]; exact ⟨hlt, h0⟩)
        have r1 : rnS s p = s.extract p k := by unfold rnS; rw [if_pos hr, hend]
        have r2 : rnX s p = k := by unfold rnX; rw [if_pos hr, hend]
        have r3 : rnE s p = 0 := by unfold rnE; rw [if_pos hr]
        have HR := Lib.hid (And.intro r1 (And.intro r2 r3))
        have hsl := slice_mid s p k hpk (by omega)
        clear r1 r2 r3 hr hend hnl hks
        rcases h0 with h0 | h0
        · rw [h0]
          clear h8 h0
          go_wp2_with fail
          go_ret3
          exact ⟨by rw [HR.out.1, HR.out.2.1, HR.out.2.2]; rfl, hbel1⟩
        · have b0 : ((lsz s k : Int) == 0) = false := by simp; omega
          have b1 : decide (63 < (lsz s k : Int)) = true := by simp; omega
          clear h0
          go_wp2_with fail
          go_ret3
          exact ⟨by rw [HR.out.1, HR.out.2.1, HR.out.2.2]; rfl, hbel1⟩
      · have b0 : ((lsz s k : Int) == 0) = false := by simp; omega
        have b1 : decide (63 < (lsz s k : Int)) = false := by simp; omega
        have hk1 : (k : Int) + 1 ≤ maxLen := by unfold maxLen; omega
        by_cases hn : nxt s k ≤ s.size
        · have hL : isL s k = true := isL_iff.2 ⟨hlt, by omega, by omega, hn⟩
          have hok : Oc.okS s ((k : Int) + 1) (lsz s k : Nat) := ⟨by omega, by omega, by unfold nxt at hn; omega⟩
          have e2 : Oc.so s ((k : Int) + 1) (lsz s k : Nat) = (nxt s k : Nat) := by unfold Oc.so; rw [if_pos hok]; unfold nxt; omega
          have e3 : Oc.se s ((k : Int) + 1) (lsz s k : Nat) = 0 := by unfold Oc.se; rw [if_pos hok]
          have hnx : nxt s k = k + 1 + lsz s k := rfl
          have HL := Lib.hid hL
          have HNX := Lib.hid hnx
          clear hL hok h0 hnx hks
          go_wp2_with fail
          refine (Oc.some_any s ((k : Int) + 1) (lsz s k : Nat) _ HS.out hk1).mono ?_
          rintro e w2 ⟨rfl, rfl⟩
          rw [e2, e3]
          clear e2 e3 hk1 b0 b1
          go_wp2_with fail
          go_roundw
          case rel => exact ⟨nxt s k, rfl, by have := HNX.out; omega, .inr hn, by rw [HE.out, endFrom_cons HL.out], hbel1⟩
          case measure => have := HNX.out; simp [intOf]; omega
        · have hnl : ¬ isL s k = true := fun h => hn (isL_iff.1 h).2.2.2
          have hend : endFrom s p = k := by rw [HE.out, endFrom_nil hnl]
          have hr : ¬ runOk s p = true := fun h => by have := (runOk_iff.1 h).2; rw [hend] at this; exact h0 this
          have r1 : rnS s p = ⟨#[]⟩ := by unfold rnS; rw [if_neg hr]
          have r2 : rnX s p = 0 := by unfold rnX; rw [if_neg hr]
          have r3 : rnE s p = 2 := by unfold rnE; rw [if_neg hr]
          have HR := Lib.hid (And.intro r1 (And.intro r2 r3))
          have hno : ¬ Oc.okS s ((k : Int) + 1) (lsz s k : Nat) := fun h => hn (by have := h.2.2; unfold nxt; omega)
          obtain ⟨_, e2, e3, e4⟩ := un_not hno
          clear r1 r2 r3 hr hend hnl h0 hno hks hn
          go_wp2_with fail
          refine (Oc.some_any s ((k : Int) + 1) (lsz s k : Nat) _ HS.out hk1).mono ?_
          rintro e w2 ⟨rfl, rfl⟩
          rw [e2, e3, e4]
          clear e2 e3 e4 hk1 b0 b1
          go_wp2_with fail
          go_ret3
          exact ⟨by rw [HR.out.1, HR.out.2.1, HR.out.2.2]; rfl, hbel1⟩
    · have hnl : ¬ isL s k = true := fun h => hlt (isL_iff.1 h).1
      have hend : endFrom s p = k := by rw [HE.out, endFrom_nil hnl]
      have hr : ¬ runOk s p = true := fun h => by have := (runOk_iff.1 h).1; rw [hend] at this; exact hlt this
      have r1 : rnS s p = ⟨#[]⟩ := by unfold rnS; rw [if_neg hr]
      have r2 : rnX s p = 0 := by unfold rnX; rw [if_neg hr]
      have r3 : rnE s p = 2 := by unfold rnE; rw [if_neg hr]
      have HR := Lib.hid (And.intro r1 (And.intro r2 r3))
      obtain ⟨e1, e2, e3, _⟩ := un_not (s := s) (p := (k : Int)) (m := 1) (fun h => hlt (by have := h.2.2; omega))
      rw [e1, e2, e3]
      clear r1 r2 r3 hr hend hnl e1 e2 e3 hks hlt
      go_wp2_with fail
      go_ret3
      exact ⟨by rw [HR.out.1, HR.out.2.1, HR.out.2.2]; rfl, hbel1⟩

set_option maxHeartbeats 400000 in
theorem run_neg (s : ByteArray) (p : Int) (hs : s.size ≤ maxLen) (hp : p < 0) (w : World) :
    Calls Tryd.prog 82 #[.string s, .int .i64 p] w fun e w' => e = .returned (.tuple #[.string ⟨#[]⟩, .int .i64 0, .int .i64 2]) ∧ Below w.heap.size w w' := by
  obtain ⟨e1, e2, e3, _⟩ := un_not (s := s) (p := p) (m := 1) (fun h => by have := h.1; omega)
  go_enter Tryd.func82, Tryd.ntmps82
  go_wp2_with fail
  refine wp_loop_rounds 1 ?_
  rw [rounds_succ]
  go_wp2_with fail
  refine (Oc.u8_any s p _ hs (by unfold maxLen; omega)).mono ?_
  rintro e w1 ⟨rfl, hb1⟩
  rw [e1, e2, e3]
  clear e1 e2 e3
  go_wp2_with fail
  go_ret3
  exact ⟨rfl, hb1⟩

/-- wire.stop's results. -/
def spT (s : ByteArray) (e : Nat) : Int := if lsz s e = 0 then -1 else if e + 1 < s.size ∧ 192 ≤ lsz s e then (toOf s e : Nat) else 0
def spX (s : ByteArray) (e : Nat) : Nat := if lsz s e = 0 then e + 1 else if e + 1 < s.size ∧ 192 ≤ lsz s e then e + 2 else 0
def spE (s : ByteArray) (e : Nat) : Nat := if lsz s e = 0 then 0 else if e + 1 < s.size ∧ 192 ≤ lsz s e then 0 else 2
set_option maxRecDepth 100000 in
set_option maxHeartbeats 1000000 in
theorem stop_any (s : ByteArray) (k : Nat) (hs : s.size ≤ 140737488355328) (hk : k < s.size) (w : World) :
    Calls Tryd.prog 85 #[.string s, .int .i64 (k : Nat)] w fun e w' => e = .returned (.tuple #[.int .i64 (spT s k), .int .i64 (spX s k : Nat), .int .i64 (spE s k : Nat)]) ∧ Below w.heap.size w w' := by
  have hz : lsz s k = s[k].toNat := lsz_eq hk
  have hkm : (k : Int) ≤ maxLen := by unfold maxLen; omega
  have hsm : s.size ≤ maxLen := by unfold maxLen; omega
  by_cases h0 : lsz s k = 0
  · have r1 : spT s k = -1 := by unfold spT; rw [if_pos h0]
    have r2 : spX s k = k + 1 := by unfold spX; rw [if_pos h0]
    have r3 : spE s k = 0 := by unfold spE; rw [if_pos h0]
    have HR := Lib.hid (And.intro r1 (And.intro r2 r3))
    rw [hz] at h0
    clear hz hkm hsm r1 r2 r3
    go_enter Tryd.func85, Tryd.ntmps85
    go_wp2_with fail
    go_ret3
    exact ⟨by rw [HR.out.1, HR.out.2.1, HR.out.2.2]; simp, Below.refl _ _⟩
  · have b0 : ((s[k].toNat : Int) == 0) = false := by rw [hz] at h0; simp; omega
    by_cases h1 : k + 1 < s.size
    · obtain ⟨e1, e2, e3⟩ := un_two h1
      have h8 := lsz_le s k
      have h9 := lsz_le s (k + 1)
      by_cases h2 : 192 ≤ lsz s k
      · have r1 : spT s k = (toOf s k : Nat) := by unfold spT; rw [if_neg h0, if_pos ⟨h1, h2⟩]
        have r2 : spX s k = k + 2 := by unfold spX; rw [if_neg h0, if_pos ⟨h1, h2⟩]
        have r3 : spE s k = 0 := by unfold spE; rw [if_neg h0, if_pos ⟨h1, h2⟩]
        have r4 : ((256 * lsz s k + lsz s (k + 1) : Nat) : Int) = 49152 + (toOf s k : Nat) := by unfold toOf; omega
        have r5 : toOf s k < 16384 := by unfold toOf; omega
        rw [r4] at e1
        have HR := Lib.hid (And.intro r1 (And.intro r2 r3))
        clear hz r1 r2 r3 r4 h0 h1 h2 h8 h9
        generalize toOf s k = t at *
        have q1 : decide (49152 + (t : Int) < 49152) = false := by simp; omega
        have q2 : IntKind.u16.wrap (49152 + (t : Int) - 49152) = t := by rw [show 49152 + (t : Int) - 49152 = t by omega]; exact IntWalk.u16_in _ (by omega)
        go_enter Tryd.func85, Tryd.ntmps85
        go_wp2_with fail
        refine (Oc.u16_any s k _ hsm hkm).mono ?_
        rintro e w1 ⟨rfl, hb1⟩
        rw [e1, e2, e3]
        clear e1 e2 e3 hsm hkm b0
        go_wp2_with fail
        go_ret3
        exact ⟨by rw [HR.out.1, HR.out.2.1, HR.out.2.2]; simp, hb1⟩
      · have r1 : spT s k = 0 := by unfold spT; rw [if_neg h0, if_neg (fun h => h2 h.2)]
        have r2 : spX s k = 0 := by unfold spX; rw [if_neg h0, if_neg (fun h => h2 h.2)]
        have r3 : spE s k = 2 := by unfold spE; rw [if_neg h0, if_neg (fun h => h2 h.2)]
        have r5 : 256 * lsz s k + lsz s (k + 1) < 49152 := by omega
        generalize 256 * lsz s k + lsz s (k + 1) = m at *
        have HR := Lib.hid (And.intro r1 (And.intro r2 r3))
        have q1 : decide ((m : Int) < 49152) = true := by simp; omega
        clear hz r1 r2 r3 h0 h1 h2 h8 h9 r5
        go_enter Tryd.func85, Tryd.ntmps85
        go_wp2_with fail
        refine (Oc.u16_any s k _ hsm hkm).mono ?_
        rintro e w1 ⟨rfl, hb1⟩
        rw [e1, e2, e3]
        clear e1 e2 e3 hsm hkm b0
        go_wp2_with fail
        go_ret3
        exact ⟨by rw [HR.out.1, HR.out.2.1, HR.out.2.2]; simp, hb1⟩
    · have r1 : spT s k = 0 := by unfold spT; rw [if_neg h0, if_neg (fun h => h1 h.1)]
      have r2 : spX s k = 0 := by unfold spX; rw [if_neg h0, if_neg (fun h => h1 h.1)]
      have r3 : spE s k = 2 := by unfold spE; rw [if_neg h0, if_neg (fun h => h1 h.1)]
      have HR := Lib.hid (And.intro r1 (And.intro r2 r3))
      obtain ⟨e1, e2, e3, _⟩ := un_not (s := s) (p := (k : Int)) (m := 2) (fun h => h1 (by have := h.2.2; omega))
      clear hz r1 r2 r3 h0 h1
      go_enter Tryd.func85, Tryd.ntmps85
      go_wp2_with fail
      refine (Oc.u16_any s k _ hsm hkm).mono ?_
      rintro e w1 ⟨rfl, hb1⟩
      rw [e1, e2, e3]
      clear e1 e2 e3 hsm hkm b0
      go_wp2_with fail
      go_ret3
      exact ⟨by rw [HR.out.1, HR.out.2.1, HR.out.2.2]; simp, hb1⟩
end Go.Proofs.YtlphbeaaeeohjaaDoor
