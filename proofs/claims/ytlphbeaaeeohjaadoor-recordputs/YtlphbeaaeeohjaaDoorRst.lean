/- The contract of rdata.readStrings: strings, each behind its length byte, up to an end. -/
import Derived.Test.YtlphbeaaeeohjaaDoorWta
import Derived.Test.YtlphbeaaeeohjaaDoorRpa
namespace Go.Proofs.YtlphbeaaeeohjaaDoor
open Go.RowKit
set_option linter.unusedVariables false

/-- The offset behind strings that begin ahead of an end, one at least. -/
def txG (s : ByteArray) (p e : Nat) : Option Nat :=
  if h : p < s.size ∧ p + 1 + lsz s p ≤ s.size then (if p + 1 + lsz s p < e then txG s (p + 1 + lsz s p) e else some (p + 1 + lsz s p)) else none
termination_by s.size - p
decreasing_by omega
theorem txG_no {s : ByteArray} {p e : Nat} (h : ¬ (p < s.size ∧ p + 1 + lsz s p ≤ s.size)) : txG s p e = none := by rw [txG, dif_neg h]
theorem txG_go {s : ByteArray} {p e : Nat} (h : p < s.size ∧ p + 1 + lsz s p ≤ s.size) (h2 : p + 1 + lsz s p < e) : txG s p e = txG s (p + 1 + lsz s p) e := by rw [txG, dif_pos h, if_pos h2]
theorem txG_end {s : ByteArray} {p e : Nat} (h : p < s.size ∧ p + 1 + lsz s p ≤ s.size) (h2 : ¬ p + 1 + lsz s p < e) : txG s p e = some (p + 1 + lsz s p) := by rw [txG, dif_pos h, if_neg h2]
theorem txG_lt {s : ByteArray} {e : Nat} : ∀ (m p : Nat), s.size - p ≤ m → ∀ q, txG s p e = some q → p < q ∧ q ≤ s.size ∧ e ≤ q := by
  intro m
  induction m with
  | zero =>
    intro p hm q h
    rw [txG_no (by omega)] at h
    cases h
  | succ m ih =>
    intro p hm q h
    by_cases h1 : p < s.size ∧ p + 1 + lsz s p ≤ s.size
    · by_cases h2 : p + 1 + lsz s p < e
      · rw [txG_go h1 h2] at h
        have := ih _ (by omega) q h
        omega
      · rw [txG_end h1 h2] at h
        cases h
        omega
    · rw [txG_no h1] at h
      cases h
def rsS (s : ByteArray) (p e : Nat) : ByteArray := match txG s p e with | some q => s.extract p q | none => ⟨#[]⟩
def rsX (s : ByteArray) (p e : Nat) : Nat := match txG s p e with | some q => q | none => 0
def rsE (s : ByteArray) (p e : Nat) : Nat := match txG s p e with | some _ => 0 | none => 2
theorem rs_some {s : ByteArray} {p e q : Nat} (h : txG s p e = some q) : rsS s p e = s.extract p q ∧ rsX s p e = q ∧ rsE s p e = 0 := by unfold rsS rsX rsE; rw [h]; exact ⟨rfl, rfl, rfl⟩
theorem rs_none {s : ByteArray} {p e : Nat} (h : txG s p e = none) : rsS s p e = ⟨#[]⟩ ∧ rsX s p e = 0 ∧ rsE s p e = 2 := by unfold rsS rsX rsE; rw [h]; exact ⟨rfl, rfl, rfl⟩

set_option maxRecDepth 100000 in
set_option maxHeartbeats 1000000 in
theorem strings_any (s : ByteArray) (p e : Nat) (hs : s.size ≤ 140737488355328) (hp : p ≤ 140737488355328) (he : e ≤ 140737488355328) (w : World) :
    Calls Tryd.prog 97 #[.string s, .int .i64 (p : Nat), .int .i64 (e : Nat)] w fun en w' => en = .returned (.tuple #[.string (rsS s p e), .int .i64 (rsX s p e : Nat), .int .i64 (rsE s p e : Nat)]) ∧ Below w.heap.size w w' := by
  have hs' : s.size ≤ maxLen := by unfold maxLen; omega
  have HS := Lib.hid hs'
  clear hs'
  go_enter Tryd.func97, Tryd.ntmps97
  go_wp2_with fail
  go_loopw [9] (fun i wr => ∃ k : Nat, i = .int .i64 k ∧ p ≤ k ∧ (k = p ∨ k ≤ s.size) ∧ ((k = p ∨ k < e) → txG s p e = txG s k e) ∧ (k ≠ p → e ≤ k → txG s p e = some k) ∧ Below w.heap.size w wr) (fun i _ => s.size - (intOf i).toNat)
  case atStart => exact ⟨p, rfl, Nat.le_refl _, .inl rfl, (fun _ => rfl), (fun h => absurd rfl h), Below.refl _ _⟩
  case round =>
    obtain ⟨k, rfl, hpk, hks, hgo, hend, hbel⟩ := hrel
    by_cases hx : k ≠ p ∧ e ≤ k
    · have HR := Lib.hid (rs_some (hend hx.1 hx.2))
      have hb0 : ((k : Int) == (p : Int)) = false := by simp; omega
      have hb1 : decide (k < e) = false := by simp; omega
      have hb2 : ¬ k < e := by omega
      have hsl := slice_mid s p k hpk (by omega)
      clear hgo hend hx hks
      go_wp2_with fail
      go_ret3
      exact ⟨by rw [HR.out.1, HR.out.2.1, HR.out.2.2]; rfl, hbel⟩
    · have hgo' := hgo (by omega)
      have HG := Lib.hid hgo'
      have hcond : ((k : Int) == (p : Int)) = true ∨ (((k : Int) == (p : Int)) = false ∧ decide (k < e) = true ∧ k < e) := by
        by_cases h : k = p
        · left; simp [h]
        · right; exact ⟨by simp; omega, by simp; omega, by omega⟩
      have hkm : (k : Int) ≤ maxLen := by unfold maxLen; omega
      clear hgo hend hgo' hx
      rcases hcond with hb0 | ⟨hb0, hb2, hb3⟩
      all_goals
        go_wp2_with fail
        refine (Oc.u8_any s k _ HS.out hkm).mono ?_
        rintro en w1 ⟨rfl, hb1⟩
        have hbel1 : Below w.heap.size w w1 := hbel.trans (hb1.mono hbel.size)
        clear hkm hbel hb1
        by_cases hlt : k < s.size
        · obtain ⟨e1, e2, e3⟩ := un_one hlt
          rw [e1, e2, e3]
          clear e1 e2 e3
          have h8 := lsz_le s k
          have hk1 : (k : Int) + 1 ≤ maxLen := by unfold maxLen; omega
          by_cases hn : k + 1 + lsz s k ≤ s.size
          · have hok : Oc.okS s ((k : Int) + 1) (lsz s k : Nat) := ⟨by omega, by omega, by omega⟩
            have e2 : Oc.so s ((k : Int) + 1) (lsz s k : Nat) = ((k + 1 + lsz s k : Nat) : Int) := by unfold Oc.so; rw [if_pos hok]; omega
            have e3 : Oc.se s ((k : Int) + 1) (lsz s k : Nat) = 0 := by unfold Oc.se; rw [if_pos hok]
            clear hok hks
            go_wp2_with fail
            refine (Oc.some_any s ((k : Int) + 1) (lsz s k : Nat) _ HS.out hk1).mono ?_
            rintro en w2 ⟨rfl, rfl⟩
            rw [e2, e3]
            clear e2 e3 hk1
            go_wp2_with fail
            go_roundw
            case rel => exact ⟨k + 1 + lsz s k, rfl, by omega, .inr hn, (fun h => by rw [HG.out, txG_go ⟨hlt, hn⟩ (by omega)]), (fun _ h => by rw [HG.out, txG_end ⟨hlt, hn⟩ (by omega)]), hbel1⟩
            case measure => simp [intOf]; omega
          · have HR := Lib.hid (rs_none (HG.out.trans (txG_no (fun h => hn h.2))))
            obtain ⟨_, e2, e3, e4⟩ := un_not (s := s) (p := (k : Int) + 1) (m := (lsz s k : Nat)) (fun h => hn (by have := h.2.2; omega))
            clear hn hks
            go_wp2_with fail
            refine (Oc.some_any s ((k : Int) + 1) (lsz s k : Nat) _ HS.out hk1).mono ?_
            rintro en w2 ⟨rfl, rfl⟩
            rw [e2, e3, e4]
            clear e2 e3 e4 hk1
            go_wp2_with fail
            go_ret3
            exact ⟨by rw [HR.out.1, HR.out.2.1, HR.out.2.2]; rfl, hbel1⟩
        · have HR := Lib.hid (rs_none (HG.out.trans (txG_no (fun h => hlt h.1))))
          obtain ⟨e1, e2, e3, _⟩ := un_not (s := s) (p := (k : Int)) (m := 1) (fun h => hlt (by have := h.2.2; omega))
          rw [e1, e2, e3]
          clear e1 e2 e3 hks hlt
          go_wp2_with fail
          go_ret3
          exact ⟨by rw [HR.out.1, HR.out.2.1, HR.out.2.2]; rfl, hbel1⟩
end Go.Proofs.YtlphbeaaeeohjaaDoor
