/- The contracts of derrickref03.labels and ends. -/
import Derived.Test.YtnakljbginbenaaGreatDoorBwi
namespace Go.Proofs.YtnakljbginbenaaGreatDoor
open Go.RowKit
set_option linter.unusedVariables false

/-- derrickref03.labels' results. -/
def rlS (s : ByteArray) (p : Nat) : ByteArray := if runOk s p = true then (if lsz s (endFrom s p) = 0 then s.extract p (endFrom s p + 1) else if 192 ≤ lsz s (endFrom s p) then s.extract p (endFrom s p) else ⟨#[]⟩) else ⟨#[]⟩
def rlX (s : ByteArray) (p : Nat) : Int := if runOk s p = true then (if lsz s (endFrom s p) = 0 then (endFrom s p + 1 : Nat) else if 192 ≤ lsz s (endFrom s p) then (endFrom s p : Nat) else -1) else -1

set_option maxRecDepth 100000 in
set_option maxHeartbeats 1000000 in
theorem rlabels_nat (s : ByteArray) (p : Nat) (hs : s.size ≤ 1500) (hp : p ≤ maxLen) (w : World) :
    Calls Tryz.prog 97 #[.string s, .int .i64 (p : Nat)] w fun e w' => e = .returned (.tuple #[.string (rlS s p), .int .i64 (rlX s p)]) ∧ w = w' := by
  unfold maxLen at hp
  go_enter Tryz.func97, Tryz.ntmps97
  go_wp2_with fail
  go_loop [1] (fun i => ∃ k : Nat, i = .int .i64 k ∧ p ≤ k ∧ (k = p ∨ k ≤ s.size + 100) ∧ ((k ≤ s.size ∨ k = p) ∧ endFrom s p = endFrom s k ∨ s.size < k ∧ runOk s p = false)) (fun i => s.size + 100 - (intOf i).toNat)
  case atStart => exact ⟨p, rfl, Nat.le_refl _, .inl rfl, .inl ⟨.inr rfl, rfl⟩⟩
  case round =>
    obtain ⟨k, rfl, hpk, hk2, hrel⟩ := hrel
    by_cases hlt : k < s.size
    · have hef : endFrom s p = endFrom s k := by
        rcases hrel with h | h
        · exact h.2
        · omega
      have HE := Lib.hid hef
      clear hef hrel hk2
      have hz := lsz_eq hlt
      have h8 := s[k].toNat_lt
      have b0 : decide (0 ≤ (k : Int)) = true := by simp
      by_cases h192 : 192 ≤ s[k].toNat
      · have hnl : ¬ isL s k = true := fun h => by have := isL_iff.1 h; omega
        have hend : endFrom s p = k := by rw [HE.out, endFrom_nil hnl]
        have hr : runOk s p = true := runOk_iff.2 (by rw [hend]; exact ⟨hlt, .inr (by omega)⟩)
        have r1 : rlS s p = s.extract p k := by unfold rlS; rw [if_pos hr, hend, if_neg (by omega), if_pos (by omega)]
        have r2 : rlX s p = (k : Nat) := by unfold rlX; rw [if_pos hr, hend, if_neg (by omega), if_pos (by omega)]
        have HR := Lib.hid (And.intro r1 r2)
        have hsl := slice_mid s p k hpk (by omega)
        clear r1 r2 hr hend hnl hz
        go_wp2_with fail
        go_ret2
        exact ⟨by rw [HR.out.1, HR.out.2]; rfl, rfl⟩
      · by_cases h63 : 63 < s[k].toNat
        · have hnl : ¬ isL s k = true := fun h => by have := isL_iff.1 h; omega
          have hend : endFrom s p = k := by rw [HE.out, endFrom_nil hnl]
          have r1 : rlS s p = ⟨#[]⟩ := by
            unfold rlS
            rw [hend, if_neg (show ¬ lsz s k = 0 by omega), if_neg (show ¬ 192 ≤ lsz s k by omega)]
            split <;> rfl
          have r2 : rlX s p = -1 := by
            unfold rlX
            rw [hend, if_neg (show ¬ lsz s k = 0 by omega), if_neg (show ¬ 192 ≤ lsz s k by omega)]
            split <;> rfl
          have HR := Lib.hid (And.intro r1 r2)
          clear r1 r2 hend hnl hz
          go_wp2_with fail
          go_ret2
          exact ⟨by rw [HR.out.1, HR.out.2]; rfl, rfl⟩
        · by_cases h0 : s[k].toNat = 0
          · have hnl : ¬ isL s k = true := fun h => by have := isL_iff.1 h; omega
            have hend : endFrom s p = k := by rw [HE.out, endFrom_nil hnl]
            have hr : runOk s p = true := runOk_iff.2 (by rw [hend]; exact ⟨hlt, .inl (by omega)⟩)
            have r1 : rlS s p = s.extract p (k + 1) := by unfold rlS; rw [if_pos hr, hend, if_pos (by omega)]
            have r2 : rlX s p = (k + 1 : Nat) := by unfold rlX; rw [if_pos hr, hend, if_pos (by omega)]
            have HR := Lib.hid (And.intro r1 r2)
            have hsl := slice_mid s p (k + 1) (by omega) (by omega)
            rw [show ((k + 1 : Nat) : Int) = (k : Int) + 1 by omega] at hsl
            clear r1 r2 hr hend hnl hz
            go_wp2_with fail
            go_ret2
            exact ⟨by rw [HR.out.1, HR.out.2]; simp, rfl⟩
          · have hnx : nxt s k = k + 1 + s[k].toNat := by unfold nxt; rw [hz]
            have hrel' : (nxt s k ≤ s.size ∨ nxt s k = p) ∧ endFrom s p = endFrom s (nxt s k) ∨ s.size < nxt s k ∧ runOk s p = false := by
              by_cases hn : nxt s k ≤ s.size
              · have hL : isL s k = true := isL_iff.2 ⟨hlt, by omega, by omega, hn⟩
                exact .inl ⟨.inl hn, by rw [HE.out, endFrom_cons hL]⟩
              · have hnl : ¬ isL s k = true := fun h => hn (isL_iff.1 h).2.2.2
                have hend : endFrom s p = k := by rw [HE.out, endFrom_nil hnl]
                refine .inr ⟨by omega, ?_⟩
                cases hr : runOk s p with
                | false => rfl
                | true => have := (runOk_iff.1 hr).2; rw [hend] at this; omega
            have HR := Lib.hid hrel'
            have HX := Lib.hid hnx
            clear hrel' hnx hz
            go_wp2_with fail
            go_round
            case rel => exact ⟨nxt s k, by have := HX.out; go_num, by have := HX.out; omega, .inr (by have := HX.out; omega), HR.out⟩
            case measure => simp [intOf]; omega
    · have hno : runOk s p = false := by
        rcases hrel with h | h
        · cases hr : runOk s p with
          | false => rfl
          | true =>
            have h1 := (runOk_iff.1 hr).1
            have hnl : ¬ isL s k = true := fun h' => hlt (isL_iff.1 h').1
            rw [h.2, endFrom_nil hnl] at h1
            exact absurd h1 hlt
        · exact h.2
      have r1 : rlS s p = ⟨#[]⟩ := by unfold rlS; rw [if_neg (by rw [hno]; decide)]
      have r2 : rlX s p = -1 := by unfold rlX; rw [if_neg (by rw [hno]; decide)]
      have HR := Lib.hid (And.intro r1 r2)
      clear r1 r2 hno hrel
      go_wp2_with fail
      go_ret2
      exact ⟨by rw [HR.out.1, HR.out.2]; rfl, rfl⟩

set_option maxHeartbeats 400000 in
theorem rlabels_neg (s : ByteArray) (p : Int) (hp : p < 0) (w : World) :
    Calls Tryz.prog 97 #[.string s, .int .i64 p] w fun e w' => e = .returned (.tuple #[.string ⟨#[]⟩, .int .i64 (-1)]) ∧ w = w' := by
  have b0 : decide (0 ≤ p) = false := by simp; omega
  go_enter Tryz.func97, Tryz.ntmps97
  go_wp2_with fail
  refine wp_loop_rounds 1 ?_
  rw [rounds_succ]
  go_wp2_with fail
  go_ret2
  exact ⟨rfl, rfl⟩

theorem byte_at {s : ByteArray} {k : Nat} {c : UInt8} {R : List UInt8} (h : s.data.toList.drop k = c :: R) : ∃ hk : k < s.size, s[k].toNat = c.toNat ∧ s.data.toList.drop (k + 1) = R := by
  obtain ⟨h1, h2, h3⟩ := lsz_at h
  exact ⟨h1, by rw [← lsz_eq h1]; exact h2, h3⟩
set_option maxRecDepth 100000 in
set_option maxHeartbeats 1000000 in
theorem ends_yes (x : ByteArray) (ls : List (List UInt8)) (hx : x.size ≤ 4194304) (hok : ∀ l ∈ ls, okLb l) (h : x.data.toList = wire ls) (w : World) :
    Calls Tryz.prog 98 #[.string x] w fun e w' => e = .returned (.bool true) ∧ w = w' := by
  have HO := Lib.hid hok
  have HH := Lib.hid h
  clear hok h
  go_enter Tryz.func98, Tryz.ntmps98
  go_wp2_with fail
  go_loop [3] (fun i => ∃ (k : Nat) (ls' : List (List UInt8)), i = .int .i64 k ∧ (∀ l ∈ ls', okLb l) ∧ x.data.toList.drop k = wire ls') (fun i => x.size - (intOf i).toNat)
  case atStart => exact ⟨0, ls, rfl, HO.out, by rw [List.drop_zero]; exact HH.out⟩
  case round =>
    obtain ⟨k, ls', rfl, hok, hd⟩ := hrel
    cases ls' with
    | nil =>
      obtain ⟨hk, hc, hr⟩ := byte_at (show x.data.toList.drop k = 0 :: [] from hd)
      have hlen := congrArg List.length hr
      rw [List.length_drop, ba_len] at hlen
      have hc0 : x[k].toNat = 0 := hc
      have b1 : ((k : Int) == (x.size : Int) - 1) = true := by simp at hlen ⊢; omega
      clear hd hr hlen hok hc
      go_wp2_with fail
      go_ret
      exact ⟨rfl, rfl⟩
    | cons l ls' =>
      have hokl := hok l (by simp)
      unfold okLb at hokl
      rw [wire_cons] at hd
      obtain ⟨hk, hc, hr⟩ := byte_at (show x.data.toList.drop k = UInt8.ofNat l.length :: (l ++ wire ls') from hd)
      rw [UInt8.toNat_ofNat'] at hc
      have hc1 : x[k].toNat = l.length := by omega
      have hr2 : x.data.toList.drop (k + 1 + l.length) = wire ls' := by rw [← List.drop_drop, hr, List.drop_left']; rfl
      have b1 : ((x[k].toNat : Int) == 0) = false := by simp; omega
      have HR := Lib.hid (And.intro (fun l' hl' => hok l' (List.mem_cons_of_mem _ hl') : ∀ l' ∈ ls', okLb l') hr2)
      clear hd hr hok hc hr2
      go_wp2_with fail
      go_round
      case rel => exact ⟨k + 1 + l.length, ls', by go_num, HR.out.1, HR.out.2⟩
      case measure => simp [intOf]; omega
set_option maxRecDepth 100000 in
set_option maxHeartbeats 1000000 in
theorem ends_no (x : ByteArray) (ls : List (List UInt8)) (hx : x.size ≤ 4194304) (hok : ∀ l ∈ ls, okLb l) (h : x.data.toList = ls.flatMap enc1) (w : World) :
    Calls Tryz.prog 98 #[.string x] w fun e w' => e = .returned (.bool false) ∧ w = w' := by
  have HO := Lib.hid hok
  have HH := Lib.hid h
  clear hok h
  go_enter Tryz.func98, Tryz.ntmps98
  go_wp2_with fail
  go_loop [3] (fun i => ∃ (k : Nat) (ls' : List (List UInt8)), i = .int .i64 k ∧ (∀ l ∈ ls', okLb l) ∧ k ≤ x.size ∧ x.data.toList.drop k = ls'.flatMap enc1) (fun i => x.size - (intOf i).toNat)
  case atStart => exact ⟨0, ls, rfl, HO.out, Nat.zero_le _, by rw [List.drop_zero]; exact HH.out⟩
  case round =>
    obtain ⟨k, ls', rfl, hok, hkx, hd⟩ := hrel
    cases ls' with
    | nil =>
      have hlen := congrArg List.length hd
      rw [List.length_drop, ba_len] at hlen
      have hk : k = x.size := by simp at hlen; omega
      subst hk
      clear hd hlen hok
      go_wp2_with fail
      go_ret
      exact ⟨rfl, rfl⟩
    | cons l ls' =>
      have hokl := hok l (by simp)
      unfold okLb at hokl
      rw [List.flatMap_cons] at hd
      obtain ⟨hk, hc, hr⟩ := byte_at (show x.data.toList.drop k = UInt8.ofNat l.length :: (l ++ ls'.flatMap enc1) from hd)
      rw [UInt8.toNat_ofNat'] at hc
      have hc1 : x[k].toNat = l.length := by omega
      have hlen := congrArg List.length hr
      rw [List.length_drop, ba_len, List.length_append] at hlen
      have hr2 : x.data.toList.drop (k + 1 + l.length) = ls'.flatMap enc1 := by rw [← List.drop_drop, hr, List.drop_left']; rfl
      have b1 : ((x[k].toNat : Int) == 0) = false := by simp; omega
      have hle : k + 1 + l.length ≤ x.size := by omega
      have HR := Lib.hid (And.intro (fun l' hl' => hok l' (List.mem_cons_of_mem _ hl') : ∀ l' ∈ ls', okLb l') (And.intro hle hr2))
      clear hd hr hok hc hr2 hlen hle
      go_wp2_with fail
      go_round
      case rel => exact ⟨k + 1 + l.length, ls', by go_num, HR.out.1, HR.out.2.1, HR.out.2.2⟩
      case measure => simp [intOf]; omega
end Go.Proofs.YtnakljbginbenaaGreatDoor
