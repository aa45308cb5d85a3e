/- The contracts of derrickref01, derrickref03 and derrickref04 that the document's answer of layer 5 calls (texts of their own, joined). -/
import Derived.Test.YtlphbeaaeeohjaaDoorWta
import Derived.Test.YtlphbeaaeeohjaaDoorLwn
import Derived.Test.YtlphbeaaeeohjaaDoorOcd
import Derived.Test.YtlphbeaaeeohjaaDoorRew
import Derived.Test.YtlphbeaaeeohjaaDoorRmn
import Derived.Test.YtlphbeaaeeohjaaDoorLve

namespace Go.Proofs.YtlphbeaaeeohjaaDoor
open Go.RowKit
set_option linter.unusedVariables false

/-- derrickref03.labels' results. -/
def rlS (s : ByteArray) (p : Nat) : ByteArray := if runOk s p = true then (if lsz s (endFrom s p) = 0 then s.extract p (endFrom s p + 1) else if 192 ≤ lsz s (endFrom s p) then s.extract p (endFrom s p) else ⟨#[]⟩) else ⟨#[]⟩
def rlX (s : ByteArray) (p : Nat) : Int := if runOk s p = true then (if lsz s (endFrom s p) = 0 then (endFrom s p + 1 : Nat) else if 192 ≤ lsz s (endFrom s p) then (endFrom s p : Nat) else -1) else -1

set_option maxRecDepth 100000 in
set_option maxHeartbeats 1000000 in
theorem rlabels_nat (s : ByteArray) (p : Nat) (hs : s.size ≤ 1000) (hp : p ≤ maxLen) (w : World) :
    Calls Tryd.prog 63 #[.string s, .int .i64 (p : Nat)] w fun e w' => e = .returned (.tuple #[.string (rlS s p), .int .i64 (rlX s p)]) ∧ w = w' := by
  unfold maxLen at hp
  go_enter Tryd.func63, Tryd.ntmps63
  go_wp2_with fail
  go_loop [1] (fun i => ∃ k : Nat, i = .int .i64 k ∧ p ≤ k ∧ (k = p ∨ k ≤ s.size + 100) ∧ ((k ≤ s.size ∨ k = p) ∧ endFrom s p = endFrom s k ∨ s.size < k ∧ runOk s p = false)) (fun i => s.size + 100 - (intOf i).toNat)
  case atStart => exact ⟨p, rfl, Nat.le_refl _, .inl rfl, .inl ⟨.inr rfl, rfl⟩⟩
  case round =>
    obtain ⟨k, rfl, hpk, hk2, hrel⟩ := hrel
    by_cases hlt : k < s.size
    · have hef : endFrom s p = endFrom s k := by
        rcases hrel with h | h
        · exact h.2
        · omega
      have HE := Lib.hid hef
      clear hef hrel hk2
      have hz := lsz_eq hlt
      have h8 := s[k].toNat_lt
      have b0 : decide (0 ≤ (k : Int)) = true := by simp
      by_cases h192 : 192 ≤ s[k].toNat
      · have hnl : ¬ isL s k = true := fun h => by have := isL_iff.1 h; omega
        have hend : endFrom s p = k := by rw [HE.out, endFrom_nil hnl]
        have hr : runOk s p = true := runOk_iff.2 (by rw [hend]; exact ⟨hlt, .inr (by omega)⟩)
        have r1 : rlS s p = s.extract p k := by unfold rlS; rw [if_pos hr, hend, if_neg (by omega), if_pos (by omega)]
        have r2 : rlX s p = (k : Nat) := by unfold rlX; rw [if_pos hr, hend, if_neg (by omega), if_pos (by omega)]
        have HR := Lib.hid (And.intro r1 r2)
        have hsl := slice_mid s p k hpk (by omega)
        clear r1 r2 hr hend hnl hz
        go_wp2_with fail
        go_ret2
        exact ⟨by rw [HR.out.1, HR.out.2]; rfl, rfl⟩
      · by_cases h63 : 63 < s[k].toNat
        · have hnl : ¬ isL s k = true := fun h => by have := isL_iff.1 h; omega
          have hend : endFrom s p = k := by rw [HE.out, endFrom_nil hnl]
          have r1 : rlS s p = ⟨#[]⟩ := by
            unfold rlS
            rw [hend, if_neg (show ¬ lsz s k = 0 by omega), if_neg (show ¬ 192 ≤ lsz s k by omega)]
            split <;> rfl
          have r2 : rlX s p = -1 := by
            unfold rlX
            rw [hend, if_neg (show ¬ lsz s k = 0 by omega), if_neg (show ¬ 192 ≤ lsz s k by omega)]
            split <;> rfl
          have HR := Lib.hid (And.intro r1 r2)
          clear r1 r2 hend hnl hz
          go_wp2_with fail
          go_ret2
          exact ⟨by rw [HR.out.1, HR.out.2]; rfl, rfl⟩
        · by_cases h0 : s[k].toNat = 0
          · have hnl : ¬ isL s k = true := fun h => by have := isL_iff.1 h; omega
            have hend : endFrom s p = k := by rw [HE.out, endFrom_nil hnl]
            have hr : runOk s p = true := runOk_iff.2 (by rw [hend]; exact ⟨hlt, .inl (by omega)⟩)
            have r1 : rlS s p = s.extract p (k + 1) := by unfold rlS; rw [if_pos hr, hend, if_pos (by omega)]
            have r2 : rlX s p = (k + 1 : Nat) := by unfold rlX; rw [if_pos hr, hend, if_pos (by omega)]
            have HR := Lib.hid (And.intro r1 r2)
            have hsl := slice_mid s p (k + 1) (by omega) (by omega)
            rw [show ((k + 1 : Nat) : Int) = (k : Int) + 1 by omega] at hsl
            clear r1 r2 hr hend hnl hz
            go_wp2_with fail
            go_ret2
            exact ⟨by rw [HR.out.1, HR.out.2]; simp, rfl⟩
          · have hnx : nxt s k = k + 1 + s[k].toNat := by unfold nxt; rw [hz]
            have hrel' : (nxt s k ≤ s.size ∨ nxt s k = p) ∧ endFrom s p = endFrom s (nxt s k) ∨ s.size < nxt s k ∧ runOk s p = false := by
              by_cases hn : nxt s k ≤ s.size
              · have hL : isL s k = true := isL_iff.2 ⟨hlt, by omega, by omega, hn⟩
                exact .inl ⟨.inl hn, by rw [HE.out, endFrom_cons hL]⟩
              · have hnl : ¬ isL s k = true := fun h => hn (isL_iff.1 h).2.2.2
                have hend : endFrom s p = k := by rw [HE.out, endFrom_nil hnl]
                refine .inr ⟨by omega, ?_⟩
                cases hr : runOk s p with
                | false => rfl
                | true => have := (runOk_iff.1 hr).2; rw [hend] at this; omega
            have HR := Lib.hid hrel'
            have HX := Lib.hid hnx
            clear hrel' hnx hz
            go_wp2_with fail
            go_round
            case rel => exact ⟨nxt s k, by have := HX.out; go_num, by have := HX.out; omega, .inr (by have := HX.out; omega), HR.out⟩
            case measure => simp [intOf]; omega
    · have hno : runOk s p = false := by
        rcases hrel with h | h
        · cases hr : runOk s p with
          | false => rfl
          | true =>
            have h1 := (runOk_iff.1 hr).1
            have hnl : ¬ isL s k = true := fun h' => hlt (isL_iff.1 h').1
            rw [h.2, endFrom_nil hnl] at h1
            exact absurd h1 hlt
        · exact h.2
      have r1 : rlS s p = ⟨#[]⟩ := by unfold rlS; rw [if_neg (by rw [hno]; decide)]
      have r2 : rlX s p = -1 := by unfold rlX; rw [if_neg (by rw [hno]; decide)]
      have HR := Lib.hid (And.intro r1 r2)
      clear r1 r2 hno hrel
      go_wp2_with fail
      go_ret2
      exact ⟨by rw [HR.out.1, HR.out.2]; rfl, rfl⟩

set_option maxHeartbeats 400000 in
theorem rlabels_neg (s : ByteArray) (p : Int) (hp : p < 0) (w : World) :
    Calls Tryd.prog 63 #[.string s, .int .i64 p] w fun e w' => e = .returned (.tuple #[.string ⟨#[]⟩, .int .i64 (-1)]) ∧ w = w' := by
  have b0 : decide (0 ≤ p) = false := by simp; omega
  go_enter Tryd.func63, Tryd.ntmps63
  go_wp2_with fail
  refine wp_loop_rounds 1 ?_
  rw [rounds_succ]
  go_wp2_with fail
  go_ret2
  exact ⟨rfl, rfl⟩

theorem byte_at {s : ByteArray} {k : Nat} {c : UInt8} {R : List UInt8} (h : s.data.toList.drop k = c :: R) : ∃ hk : k < s.size, s[k].toNat = c.toNat ∧ s.data.toList.drop (k + 1) = R := by
  obtain ⟨h1, h2, h3⟩ := lsz_at h
  exact ⟨h1, by rw [← lsz_eq h1]; exact h2, h3⟩
set_option maxRecDepth 100000 in
set_option maxHeartbeats 1000000 in
theorem ends_yes (x : ByteArray) (ls : List (List UInt8)) (hx : x.size ≤ 1048576) (hok : ∀ l ∈ ls, okLb l) (h : x.data.toList = wire ls) (w : World) :
    Calls Tryd.prog 64 #[.string x] w fun e w' => e = .returned (.bool true) ∧ w = w' := by
  have HO := Lib.hid hok
  have HH := Lib.hid h
  clear hok h
  go_enter Tryd.func64, Tryd.ntmps64
  go_wp2_with fail
  go_loop [3] (fun i => ∃ (k : Nat) (ls' : List (List UInt8)), i = .int .i64 k ∧ (∀ l ∈ ls', okLb l) ∧ x.data.toList.drop k = wire ls') (fun i => x.size - (intOf i).toNat)
  case atStart => exact ⟨0, ls, rfl, HO.out, by rw [List.drop_zero]; exact HH.out⟩
  case round =>
    obtain ⟨k, ls', rfl, hok, hd⟩ := hrel
    cases ls' with
    | nil =>
      obtain ⟨hk, hc, hr⟩ := byte_at (show x.data.toList.drop k = 0 :: [] from hd)
      have hlen := congrArg List.length hr
      rw [List.length_drop, ba_len] at hlen
      have hc0 : x[k].toNat = 0 := hc
      have b1 : ((k : Int) == (x.size : Int) - 1) = true := by simp at hlen ⊢; omega
      clear hd hr hlen hok hc
      go_wp2_with fail
      go_ret
      exact ⟨rfl, rfl⟩
    | cons l ls' =>
      have hokl := hok l (by simp)
      unfold okLb at hokl
      rw [wire_cons] at hd
      obtain ⟨hk, hc, hr⟩ := byte_at (show x.data.toList.drop k = UInt8.ofNat l.length :: (l ++ wire ls') from hd)
      rw [UInt8.toNat_ofNat'] at hc
      have hc1 : x[k].toNat = l.length := by omega
      have hr2 : x.data.toList.drop (k + 1 + l.length) = wire ls' := by rw [← List.drop_drop, hr, List.drop_left']; rfl
      have b1 : ((x[k].toNat : Int) == 0) = false := by simp; omega
      have HR := Lib.hid (And.intro (fun l' hl' => hok l' (List.mem_cons_of_mem _ hl') : ∀ l' ∈ ls', okLb l') hr2)
      clear hd hr hok hc hr2
      go_wp2_with fail
      go_round
      case rel => exact ⟨k + 1 + l.length, ls', by go_num, HR.out.1, HR.out.2⟩
      case measure => simp [intOf]; omega
set_option maxRecDepth 100000 in
set_option maxHeartbeats 1000000 in
theorem ends_no (x : ByteArray) (ls : List (List UInt8)) (hx : x.size ≤ 1048576) (hok : ∀ l ∈ ls, okLb l) (h : x.data.toList = ls.flatMap enc1) (w : World) :
    Calls Tryd.prog 64 #[.string x] w fun e w' => e = .returned (.bool false) ∧ w = w' := by
  have HO := Lib.hid hok
  have HH := Lib.hid h
  clear hok h
  go_enter Tryd.func64, Tryd.ntmps64
  go_wp2_with fail
  go_loop [3] (fun i => ∃ (k : Nat) (ls' : List (List UInt8)), i = .int .i64 k ∧ (∀ l ∈ ls', okLb l) ∧ k ≤ x.size ∧ x.data.toList.drop k = ls'.flatMap enc1) (fun i => x.size - (intOf i).toNat)
  case atStart => exact ⟨0, ls, rfl, HO.out, Nat.zero_le _, by rw [List.drop_zero]; exact HH.out⟩
  case round =>
    obtain ⟨k, ls', rfl, hok, hkx, hd⟩ := hrel
    cases ls' with
    | nil =>
      have hlen := congrArg List.length hd
      rw [List.length_drop, ba_len] at hlen
      have hk : k = x.size := by simp at hlen; omega
      subst hk
      clear hd hlen hok
      go_wp2_with fail
      go_ret
      exact ⟨rfl, rfl⟩
    | cons l ls' =>
      have hokl := hok l (by simp)
      unfold okLb at hokl
      rw [List.flatMap_cons] at hd
      obtain ⟨hk, hc, hr⟩ := byte_at (show x.data.toList.drop k = UInt8.ofNat l.length :: (l ++ ls'.flatMap enc1) from hd)
      rw [UInt8.toNat_ofNat'] at hc
      have hc1 : x[k].toNat = l.length := by omega
      have hlen := congrArg List.length hr
      rw [List.length_drop, ba_len, List.length_append] at hlen
      have hr2 : x.data.toList.drop (k + 1 + l.length) = ls'.flatMap enc1 := by rw [← List.drop_drop, hr, List.drop_left']; rfl
      have b1 : ((x[k].toNat : Int) == 0) = false := by simp; omega
      have hle : k + 1 + l.length ≤ x.size := by omega
      have HR := Lib.hid (And.intro (fun l' hl' => hok l' (List.mem_cons_of_mem _ hl') : ∀ l' ∈ ls', okLb l') (And.intro hle hr2))
      clear hd hr hok hc hr2 hlen hle
      go_wp2_with fail
      go_round
      case rel => exact ⟨k + 1 + l.length, ls', by go_num, HR.out.1, HR.out.2.1, HR.out.2.2⟩
      case measure => simp [intOf]; omega
end Go.Proofs.YtlphbeaaeeohjaaDoor

namespace Go.Proofs.YtlphbeaaeeohjaaDoor
open Go.RowKit
set_option linter.unusedVariables false

/-- A piece of labels. -/
theorem piece_labs {s : ByteArray} {p : Nat} (hr : runOk s p = true) : piece s p (endFrom s p) = ((labsFrom s p).map lab).flatMap enc1 ∧ ∀ l ∈ (labsFrom s p).map lab, okLb l := by
  have hge := endFrom_ge' s p
  have hlt := (runOk_iff.1 hr).1
  constructor
  · have h1 := split_from s s.size p (by omega)
    have h2 : s.data.toList.drop p = piece s p (endFrom s p) ++ s.data.toList.drop (endFrom s p) := by
      rw [piece_eq, List.drop_take]
      have : s.data.toList.drop (endFrom s p) = (s.data.toList.drop p).drop (endFrom s p - p) := by rw [List.drop_drop]; congr 1; omega
      rw [this, List.take_append_drop]
    rw [h2] at h1
    exact List.append_cancel_right h1
  · intro l hl
    obtain ⟨x, _, rfl⟩ := List.mem_map.1 hl
    exact lab_ok x
theorem piece_zero {s : ByteArray} {p e : Nat} (hp : p ≤ e) (he : e < s.size) (h0 : lsz s e = 0) : (s.extract p (e + 1)).data.toList = piece s p e ++ [0] := by
  have hl : e < s.data.toList.length := by rw [ba_len]; exact he
  rw [extract_list, List.take_succ_eq_append_getElem hl, List.drop_append, piece_eq]
  have hz : s.data.toList[e] = 0 := by
    have h1 := lsz_eq he
    rw [h0] at h1
    apply UInt8.toNat_inj.1
    exact h1.symm
  rw [hz]
  have : p - (s.data.toList.take e).length = 0 := by rw [List.length_take, ba_len]; omega
  rw [this]
  rfl
/-- 'behind' in the reference's loop. -/
def bhd (af : Nat) : Int := if af = 0 then -1 else (af : Nat)

set_option maxRecDepth 100000 in
set_option maxHeartbeats 2000000 in
theorem rtake_nat (s : ByteArray) (p : Nat) (hs : s.size ≤ 1000) (hp : p ≤ maxLen) (w : World) :
    Calls Tryd.prog 39 #[.string s, .int .i64 (p : Nat)] w fun e w' => e = .returned (.tuple #[.string (tkS s p), .int .i64 (tkX s p : Nat), .int .i64 (tkE s p : Nat)]) ∧ Below w.heap.size w w' := by
  unfold maxLen at hp
  go_enter Tryd.func39, Tryd.ntmps39
  go_wp2_with fail
  go_loopw [1, 7, 8] (fun i n f wr => ∃ (k af : Nat) (N : ByteArray), i = .int .i64 k ∧ n = .string N ∧ f = .int .i64 (bhd af) ∧ k ≤ p ∧ (k = p ∨ p ≤ 1000) ∧ N.size ≤ 1001 * (p - k) ∧ Below w.heap.size w wr ∧ TkRel s p k N.data.toList af) (fun i _ _ _ => (intOf i).toNat)
  case atStart =>
    refine ⟨p, 0, ⟨#[]⟩, rfl, rfl, rfl, Nat.le_refl _, .inl rfl, by simp [ByteArray.size], Below.refl _ _, ?_⟩
    show tkB s p p = _
    cases tkB s p p <;> rfl
  case round =>
    obtain ⟨k, af, N, rfl, rfl, rfl, hkp, hp1, hN, hbel, hrel⟩ := hrel
    have HRel := Lib.hid hrel
    clear hrel
    have hsz := hbel.size
    have hkm : k ≤ maxLen := by unfold maxLen; omega
    go_wp2_with fail
    refine (rlabels_nat s k hs hkm _).mono ?_
    rintro e w1 ⟨rfl, rfl⟩
    clear hkm
    by_cases hbad : runOk s k = false ∨ (lsz s (endFrom s k) ≠ 0 ∧ lsz s (endFrom s k) < 192)
    · have hn : tkB s p p = none := by
        rw [HRel.out]
        rcases hbad with h | ⟨h1, h2⟩
        · rw [tkB_bad h]; rfl
        · cases hr : runOk s k with
          | false => rw [tkB_bad hr]; rfl
          | true =>
            rw [tkB_no hr h1 (by
              cases hpb : ptB s k (endFrom s k) with
              | false => rfl
              | true => have := (ptB_iff.1 hpb).2.1; omega)]
            rfl
      obtain ⟨r1, r2, r3⟩ := tk_none (s := s) (p := (p : Int)) (.inr (by simpa using hn))
      have HR := Lib.hid (And.intro r1 (And.intro r2 r3))
      have q1 : rlS s k = ⟨#[]⟩ := by
        unfold rlS
        rcases hbad with h | ⟨h1, h2⟩
        · rw [if_neg (by rw [h]; decide)]
        · rw [if_neg h1, if_neg (show ¬ 192 ≤ lsz s (endFrom s k) by omega)]
          split <;> rfl
      have q2 : rlX s k = -1 := by
        unfold rlX
        rcases hbad with h | ⟨h1, h2⟩
        · rw [if_neg (by rw [h]; decide)]
        · rw [if_neg h1, if_neg (show ¬ 192 ≤ lsz s (endFrom s k) by omega)]
          split <;> rfl
      rw [q1, q2]
      clear q1 q2 r1 r2 r3 hn hbad
      go_wp2_with fail
      go_ret3
      exact ⟨by rw [HR.out.1, HR.out.2.1, HR.out.2.2]; rfl, hbel⟩
    · have hr : runOk s k = true := by
        cases hr : runOk s k with
        | true => rfl
        | false => exact absurd (.inl hr) hbad
      obtain ⟨e, he⟩ : ∃ e, endFrom s k = e := ⟨_, rfl⟩
      have hlt := (runOk_iff.1 hr).1
      have hge := endFrom_ge' s k
      obtain ⟨hpc, hokl⟩ := piece_labs hr
      rw [he] at hlt hge hpc
      have hpl : (piece s k e).length = e - k := piece_len (by omega)
      have hpp : p ≤ 1000 := by omega
      by_cases h0 : lsz s e = 0
      · have hx := piece_zero hge hlt h0
        obtain ⟨X, hX⟩ : ∃ X, s.extract k (e + 1) = X := ⟨_, rfl⟩
        rw [hX] at hx
        have hxs : X.size = e - k + 1 := by rw [← ba_len, hx, List.length_append, hpl]; rfl
        have q1 : rlS s k = X := by unfold rlS; rw [if_pos hr, he, if_pos h0, hX]
        have q2 : rlX s k = (e + 1 : Nat) := by unfold rlX; rw [if_pos hr, he, if_pos h0]
        have hxw : X.data.toList = wire ((labsFrom s k).map lab) := by rw [hx, hpc]; rfl
        obtain ⟨m, hm⟩ : ∃ m, e - k = m := ⟨_, rfl⟩
        rw [hm] at hxs hpl
        have hml : m ≤ 1000 := by omega
        have hd : X.data.toList.drop m = 0 :: [] := by
          rw [hx, ← hpl, List.drop_left']
          rfl
        obtain ⟨hl1, hl2, _⟩ := byte_at hd
        have hl3 : X[m].toNat = 0 := hl2
        have ht : tkB s p p = some (N.data.toList ++ X.data.toList, aft af (e + 1)) := by
          rw [HRel.out, tkB_zero hr (by rw [he]; exact h0), he, hx]
          rfl
        have hNX : (N ++ X).data.toList = N.data.toList ++ X.data.toList := by simp
        have hne : X.toList.isEmpty = false := by
          rw [ByteArray.toList_eq, hx]
          simp
        have hne2 : ¬ X.toList = [] := by
          rw [ByteArray.toList_eq, hx]
          simp
        have HT := Lib.hid ht
        have HXw := Lib.hid hxw
        have HOk := Lib.hid hokl
        have HNX := Lib.hid hNX
        rw [q1, q2]
        have hNs : N.size ≤ 1002000 := by omega
        have hcat : ¬ 9223372036854775807 < N.size + X.size := by omega
        have hfo : foldB (N ++ X) = ⟨((N.data.toList ++ X.data.toList).map low).toArray⟩ := by
          show ByteArray.mk ((N ++ X).data.toList.map low).toArray = _
          rw [hNX]
        have HFo := Lib.hid hfo
        clear q1 q2 hr he hpc hokl hbad ht hxw hx hX hpl h0 hNX hfo hd hl2 hm
        go_wp2_with fail
        refine (ends_yes X _ (by omega) HOk.out HXw.out _).mono ?_
        rintro e' w1 ⟨rfl, rfl⟩
        by_cases hlong : 255 < N.size + X.size
        · obtain ⟨r1, r2, r3⟩ := tk_long (s := s) (p := (p : Int)) (by omega) (by simpa using HT.out) (by show 255 < (N.data.toList ++ X.data.toList).length; rw [List.length_append, ba_len, ba_len]; exact hlong)
          have HR := Lib.hid (And.intro r1 (And.intro r2 r3))
          clear r1 r2 r3
          by_cases ha : af = 0
          · have hb : bhd af = -1 := by unfold bhd; rw [if_pos ha]
            rw [hb]
            clear hb
            go_wp2_with fail
            go_ret3
            exact ⟨by rw [HR.out.1, HR.out.2.1, HR.out.2.2]; rfl, hbel⟩
          · have hb : bhd af = (af : Nat) := by unfold bhd; rw [if_neg ha]
            rw [hb]
            clear hb
            go_wp2_with fail
            go_ret3
            exact ⟨by rw [HR.out.1, HR.out.2.1, HR.out.2.2]; rfl, hbel⟩
        · obtain ⟨r1, r2, r3⟩ := tk_some (s := s) (p := (p : Int)) (by omega) (by simpa using HT.out) (by show (N.data.toList ++ X.data.toList).length ≤ 255; rw [List.length_append, ba_len, ba_len]; omega)
          have HR := Lib.hid (And.intro r1 (And.intro r2 r3))
          clear r1 r2 r3
          by_cases ha : af = 0
          · have hb : bhd af = -1 := by unfold bhd; rw [if_pos ha]
            have ha2 : aft af (e + 1) = e + 1 := by unfold aft; rw [if_pos ha]
            have HA := Lib.hid ha2
            rw [hb]
            clear hb ha2
            go_wp2_with fail
            refine (ref_fold (N ++ X) (by rw [ByteArray.size_append]; omega) _).mono ?_
            rintro e' w2 ⟨rfl, hb2⟩
            go_wp2_with fail
            go_ret3
            refine ⟨?_, bthen hbel hb2⟩
            rw [HR.out.1, HR.out.2.1, HR.out.2.2, HFo.out]
            simp only [HA.out]
            rfl
          · have hb : bhd af = (af : Nat) := by unfold bhd; rw [if_neg ha]
            have ha2 : aft af (e + 1) = af := by unfold aft; rw [if_neg ha]
            have HA := Lib.hid ha2
            rw [hb]
            clear hb ha2
            go_wp2_with fail
            refine (ref_fold (N ++ X) (by rw [ByteArray.size_append]; omega) _).mono ?_
            rintro e' w2 ⟨rfl, hb2⟩
            go_wp2_with fail
            go_ret3
            refine ⟨?_, bthen hbel hb2⟩
            rw [HR.out.1, HR.out.2.1, HR.out.2.2, HFo.out]
            simp only [HA.out]
            rfl
      · have h192 : 192 ≤ lsz s e := by
          rcases Nat.lt_or_ge (lsz s e) 192 with h | h
          · exact absurd (.inr ⟨by rw [he]; exact h0, by rw [he]; exact h⟩) hbad
          · exact h
        obtain ⟨X, hX⟩ : ∃ X, s.extract k e = X := ⟨_, rfl⟩
        have hx : X.data.toList = piece s k e := by rw [← hX]; rfl
        have hxs : X.size = e - k := by rw [← ba_len, hx, hpl]
        have q1 : rlS s k = X := by unfold rlS; rw [if_pos hr, he, if_neg h0, if_pos h192, hX]
        have q2 : rlX s k = (e : Nat) := by unfold rlX; rw [if_pos hr, he, if_neg h0, if_pos h192]
        have hxw : X.data.toList = ((labsFrom s k).map lab).flatMap enc1 := by rw [hx, hpc]
        have hNX : (N ++ X).data.toList = N.data.toList ++ X.data.toList := by simp
        rw [q1, q2]
        have hNs : N.size ≤ 1002000 := by omega
        have hcat : ¬ 9223372036854775807 < N.size + X.size := by omega
        have h8 := lsz_le s e
        have h9 := lsz_le s (e + 1)
        -- where the pointer leads
        obtain ⟨t, u, v, hu, hcases⟩ : ∃ (t : Nat) (u v : Int), (Oc.un s (e : Int) 2 = u ∧ Oc.so s (e : Int) 2 = v ∧ u.tmod 16384 = t ∧ 0 ≤ u ∧ u ≤ 65535 ∧ t < 16384) ∧ ((Oc.se s (e : Int) 2 = 2 ∧ tkB s p p = none) ∨ (Oc.se s (e : Int) 2 = 0 ∧ k ≤ t ∧ tkB s p p = none) ∨ (Oc.se s (e : Int) 2 = 0 ∧ t < k ∧ v = (e + 2 : Nat) ∧ TkRel s p t (N ++ X).data.toList (aft af (e + 2)))) := by
          by_cases h1 : e + 1 < s.size
          · obtain ⟨e1, e2, e3⟩ := un_two h1
            have r4 : ((256 * lsz s e + lsz s (e + 1) : Nat) : Int) = 49152 + (toOf s e : Nat) := by unfold toOf; omega
            have r5 : toOf s e < 16384 := by unfold toOf; omega
            rw [r4] at e1
            refine ⟨toOf s e, _, _, ⟨e1, e2, ?_, by omega, by omega, r5⟩, .inr ?_⟩
            · rw [Int.tmod_eq_emod_of_nonneg (by omega)]; omega
            · by_cases hto : toOf s e < k
              · refine .inr ⟨e3, hto, by omega, ?_⟩
                unfold TkRel
                rw [HRel.out, tkB_ptr hr (by rw [he]; exact h0) (by rw [he]; exact ptB_iff.2 ⟨h1, h192, hto⟩), he, Option.map_map, hNX, hx]
                congr 1
                funext r
                simp only [Function.comp, List.append_assoc, Prod.mk.injEq, true_and]
                unfold aft
                split <;> simp_all
              · refine .inl ⟨e3, by omega, ?_⟩
                rw [HRel.out, tkB_no hr (by rw [he]; exact h0) (by
                  rw [he]
                  cases hpb : ptB s k e with
                  | false => rfl
                  | true => exact absurd (ptB_iff.1 hpb).2.2 hto)]
                rfl
          · obtain ⟨e1, e2, e3, _⟩ := un_not (s := s) (p := (e : Int)) (m := 2) (fun h => h1 (by have := h.2.2; omega))
            refine ⟨0, 0, 0, ⟨e1, e2, rfl, by omega, by omega, by omega⟩, .inl ⟨e3, ?_⟩⟩
            rw [HRel.out, tkB_no hr (by rw [he]; exact h0) (by
              rw [he]
              cases hpb : ptB s k e with
              | false => rfl
              | true => exact absurd (ptB_iff.1 hpb).1 h1)]
            rfl
        obtain ⟨u1, u2, u3, u4, u5, u6⟩ := hu
        have HXw := Lib.hid hxw
        have HOk := Lib.hid hokl
        have HC := Lib.hid hcases
        have HU := Lib.hid (And.intro u1 u2)
        have hsplit : X.size = 0 ∨ (∃ m, X.size = m + 1 ∧ m ≤ 1000 ∧ ∃ h : m < X.size, X[m].toNat = 0) ∨ (∃ m, X.size = m + 1 ∧ m ≤ 1000 ∧ ∃ h : m < X.size, X[m].toNat ≠ 0) := by
          by_cases hz : X.size = 0
          · exact .inl hz
          · by_cases hl : (X[X.size - 1]'(by omega)).toNat = 0
            · exact .inr (.inl ⟨X.size - 1, by omega, by omega, by omega, hl⟩)
            · exact .inr (.inr ⟨X.size - 1, by omega, by omega, by omega, hl⟩)
        have hxs1 : N.size + X.size ≤ 1001 * (p - k) + 1000 ∧ N.size + X.size ≤ 1001 * (p - k) + (e - k) := by omega
        have HXS := Lib.hid (And.intro hxs hge)
        clear hxs
        clear q1 q2 hr he hpc hokl hbad hxw hx hX hpl h0 hNX hcases u1 u2 h192 h8 h9
        have hne : X.size ≠ 0 → X.toList.isEmpty = false ∧ ¬ X.toList = [] := fun h => by
          rw [ByteArray.toList_eq]
          have : X.data.toList ≠ [] := fun e => h (by rw [← ba_len, e]; rfl)
          exact ⟨by simpa using this, this⟩
        rcases hsplit with hz | ⟨m, hm, hm1, hl1, hl2⟩ | ⟨m, hm, hm1, hl1, hl2⟩
        case' neg.inl =>
          have hX0 : X = ⟨#[]⟩ := by
            apply ba_ext
            exact List.eq_nil_of_length_eq_zero (by rw [ba_len]; exact hz)
          obtain ⟨f1, f2⟩ := empty_is X hX0
          have f3 : X.toList = [] := by rw [hX0, ByteArray.toList_eq]
          clear hne hX0
          go_wp2_with fail
        case' neg.inr.inl =>
          obtain ⟨f1, f2⟩ := hne (by omega)
          clear hne
          go_wp2_with fail
          refine (ends_no X _ (by omega) HOk.out HXw.out _).mono ?_
          rintro e' w1 ⟨rfl, rfl⟩
          go_wp2_with fail
        case' neg.inr.inr =>
          obtain ⟨f1, f2⟩ := hne (by omega)
          have b1 : ((X[m].toNat : Int) == 0) = false := by simpa using hl2
          clear hne
          go_wp2_with fail
        all_goals
          refine (Oc.ru16_any s e _ (by omega)).mono ?_
          rintro e' w2 ⟨rfl, hb2⟩
          rw [HU.out.1, HU.out.2]
          have hbel2 := bthen hbel hb2
          rcases HC.out with ⟨g1, g2⟩ | ⟨g1, g2, g3⟩ | ⟨g1, g2, g3, g4⟩
          · obtain ⟨r1, r2, r3⟩ := tk_none (s := s) (p := (p : Int)) (.inr (by simpa using g2))
            have HR := Lib.hid (And.intro r1 (And.intro r2 r3))
            rw [g1]
            clear r1 r2 r3 g1 g2
            go_wp2_with fail
            go_ret3
            exact ⟨by rw [HR.out.1, HR.out.2.1, HR.out.2.2]; rfl, hbel2⟩
          · obtain ⟨r1, r2, r3⟩ := tk_none (s := s) (p := (p : Int)) (.inr (by simpa using g3))
            have HR := Lib.hid (And.intro r1 (And.intro r2 r3))
            rw [g1]
            clear r1 r2 r3 g1 g3
            go_wp2_with fail
            go_ret3
            exact ⟨by rw [HR.out.1, HR.out.2.1, HR.out.2.2]; rfl, hbel2⟩
          · have HG := Lib.hid g4
            rw [g1, g3]
            clear g1 g4 g3
            by_cases ha : af = 0
            · have hb : bhd af = -1 := by unfold bhd; rw [if_pos ha]
              have ha2 : aft af (e + 2) = e + 2 := by unfold aft; rw [if_pos ha]
              have HA := Lib.hid ha2
              have hbe : bhd (e + 2) = (e + 2 : Nat) := by unfold bhd; rw [if_neg (by omega)]
              have HB := Lib.hid hbe
              rw [hb]
              clear hb ha2 hbe
              go_wp2_with fail
              go_roundw
              case rel => exact ⟨t, e + 2, N ++ X, rfl, rfl, by rw [HB.out]; go_num, by omega, .inr hpp, by rw [ByteArray.size_append]; omega, hbel2, by have := HG.out; rw [HA.out] at this; exact this⟩
              case measure => simp [intOf]; omega
            · have hb : bhd af = (af : Nat) := by unfold bhd; rw [if_neg ha]
              have ha2 : aft af (e + 2) = af := by unfold aft; rw [if_neg ha]
              have HA := Lib.hid ha2
              have HB := Lib.hid hb
              rw [hb]
              clear hb ha2
              go_wp2_with fail
              go_roundw
              case rel => exact ⟨t, af, N ++ X, rfl, rfl, by rw [HB.out], by omega, .inr hpp, by rw [ByteArray.size_append]; omega, hbel2, by have := HG.out; rw [HA.out] at this; exact this⟩
              case measure => simp [intOf]; omega
end Go.Proofs.YtlphbeaaeeohjaaDoor

namespace Go.Proofs.YtlphbeaaeeohjaaDoor.Oc
open Go.RowKit
set_option linter.unusedVariables false

/-- The first k bytes from p on. -/
def part (s : ByteArray) (p k : Nat) : List UInt8 := (s.data.toList.drop p).take k
theorem part_length (s : ByteArray) (p k : Nat) (h : p + k ≤ s.size) : (part s p k).length = k := by simp [part]; omega
theorem part_succ (s : ByteArray) (p k : Nat) (h : p + k < s.size) : part s p (k + 1) = part s p k ++ [s[p + k]] := by
  unfold part
  rw [List.take_succ_eq_append_getElem (by simp; omega)]
  congr 1
  simp
  rfl
theorem part_extract (s : ByteArray) (p k : Nat) : (⟨(part s p k).toArray⟩ : ByteArray) = s.extract p (p + k) := by
  apply ByteArray.ext
  apply Array.toList_inj.1
  rw [extract_list]
  simp [part, List.drop_take]

set_option maxRecDepth 100000 in
set_option maxHeartbeats 1000000 in
theorem rsome_any (s : ByteArray) (p m : Int) (w : World) (hs : s.size ≤ 2000) :
    Calls Tryd.prog 60 #[.string s, .int .i64 p, .int .i64 m] w fun e w' => e = .returned (.tuple #[.string (sx s p m), .int .i64 (so s p m), .int .i64 (se s p m)]) ∧ Below w.heap.size w w' := by
  by_cases h : okS s p m
  · have hb : okB s p m = true := okB_yes h
    simp only [sx, so, se, if_pos h]
    obtain ⟨p0, m0, pm⟩ := h
    obtain ⟨q, rfl⟩ := Int.eq_ofNat_of_zero_le p0
    obtain ⟨n, rfl⟩ := Int.eq_ofNat_of_zero_le m0
    have pm' : q + n ≤ s.size := by omega
    have e1 : ((q : Int) + (n : Int)).toNat = q + n := by omega
    have e0 : (q : Int).toNat = q := by omega
    rw [e1, e0, ← part_extract]
    clear e1 e0 p0 m0
    obtain ⟨i0, hi, hz0, hz1, hz2⟩ := info_parts Tryd.info5
    go_enter Tryd.func60, Tryd.ntmps60
    go_wp2_with (go_at_call 59; refine (there_any s q n _ hs).mono ?_; rintro e w1 ⟨rfl, rfl⟩)
    go_loopw [9, 10] (fun v i wr => ∃ k : Nat, k ≤ n ∧ i = .int .i64 k ∧ wr.ownsRow w.heap.size 5 1 v k (bcells (part s q k)) ∧ Below w.heap.size w wr) (fun _ i _ => n - (intOf i).toNat)
    case atStart => exact ⟨0, Nat.zero_le _, rfl, World.ownsRow_nil _ _ _ _, Below.refl _ _⟩
    case round =>
      obtain ⟨k, hk, rfl, hown, hbel⟩ := hrel
      have hz := hbel.size
      obtain ⟨A0, cap0, rfl⟩ := own_form hown
      by_cases hlt : k < n
      · have hsn := Lib.hid (part_succ s q k (by omega))
        go_wp2_with (at_builtin; refine wpList_append_own _ rfl _ _ 74 rfl w.heap.size 5 i0 (.int .u8 0) 1 1 Tryd.underlying74 hi hz0 hz1 hz2 rfl (by decide) (.slice A0 k cap0) _ _ rfl (hown.alloc _) ⟨wr.heap.size, 0, none⟩ 1 1 [.int .u8 (s[q + k].toNat : Int)] rfl rfl ?c1 ?c2 ?c3 ?c4 ?c5 ?_)
        case c1 => exact cell_one_new _ _ _
        case c2 => intro u hu; simp at hu; subst hu; rfl
        case c3 => unfold maxLen; omega
        case c4 => omega
        case c5 => simp; omega
        intro v' w1 hown' hgrow _
        obtain ⟨A1, cap1, rfl⟩ := own_form hown'
        rw [← bcells_snoc, ← hsn.out] at hown'
        have hb' : Below w.heap.size w w1 := (hbel.alloc hz _).grown hgrow (by simp; omega) (fun g hg => (hown.lt g hg).1)
        clear hown hgrow hbel hsn
        go_wp2
        go_roundw
        case rel => exact ⟨k + 1, hlt, by go_num, hown', hb'⟩
        case measure => simp [intOf]; omega
      · obtain rfl : k = n := by omega
        have hl := part_length s q k pm'
        have hcv := conv_own (part s q k) (by rw [hl]; exact hown)
        clear hl
        go_wp2
        go_ret3
        exact ⟨rfl, hbel⟩
  · have hb : okB s p m = false := okB_no h
    simp only [sx, so, se, if_neg h]
    clear h
    go_enter Tryd.func60, Tryd.ntmps60
    go_wp2_with (go_at_call 59; refine (there_any s p m _ hs).mono ?_; rintro e w1 ⟨rfl, rfl⟩)
    go_ret3
    exact ⟨rfl, Below.refl _ _⟩
end Go.Proofs.YtlphbeaaeeohjaaDoor.Oc

namespace Go.Proofs.YtlphbeaaeeohjaaDoor
open Go.RowKit
set_option linter.unusedVariables false

theorem szN_zero {s : ByteArray} (h : ∀ j, 1 ≤ j → j ≤ 255 → j ≤ s.size → mayB (s.extract 0 j) = false) : szN s = 0 := by
  rcases Nat.eq_zero_or_pos (szN s) with h0 | h0
  · exact h0
  · obtain ⟨a, b, c⟩ := szN_pos h0
    rw [h _ h0 b a] at c
    cases c
theorem sl_to (s : ByteArray) (n : Nat) (h : n ≤ s.size) (w : World) : (Instr.slice 9 (.string s) none (some (.int .i64 (n : Int))) none).run Tryd.prog w = .ok (.string (s.extract 0 n)) w := by
  have := run_slice_string_to_if (P := Tryd.prog) (w := w) 9 s .i64 (n : Int) Tryd.underlying9
  simpa [h] using this
theorem sl_from (s : ByteArray) (n : Nat) (h : n ≤ s.size) (w : World) : (Instr.slice 9 (.string s) (some (.int .i64 (n : Int))) none none).run Tryd.prog w = .ok (.string (s.extract n s.size)) w := by
  have := run_slice_string_from_if (P := Tryd.prog) (w := w) 9 s .i64 (n : Int) Tryd.underlying9
  simpa [h] using this

set_option maxRecDepth 100000 in
set_option maxHeartbeats 1000000 in
theorem rsize_any (s : ByteArray) (hs : s.size ≤ 1048576) (w : World) :
    Calls Tryd.prog 70 #[.string s] w fun e w' => e = .returned (.int .i64 (szN s : Nat)) ∧ Below w.heap.size w w' := by
  go_enter Tryd.func70, Tryd.ntmps70
  go_wp2_with fail
  go_loopw [3] (fun i wr => ∃ k : Nat, 1 ≤ k ∧ k ≤ 256 ∧ i = .int .i64 k ∧ (∀ j, 1 ≤ j → j < k → j ≤ s.size → mayB (s.extract 0 j) = false) ∧ Below w.heap.size w wr) (fun i _ => 256 - (intOf i).toNat)
  case atStart => exact ⟨1, Nat.le_refl _, by decide, rfl, (fun j h1 h2 => by omega), Below.refl _ _⟩
  case round =>
    obtain ⟨k, hk1, hk, rfl, hno, hbel⟩ := hrel
    have HN := Lib.hid hno
    clear hno
    by_cases hle : k ≤ s.size
    · by_cases h255 : k ≤ 255
      · have hsl := sl_to s k hle
        have hx : (s.extract 0 k).size ≤ 1048576 := by rw [ByteArray.size_extract]; omega
        have HX := Lib.hid hx
        have d1 : decide (k ≤ s.size) = true := by simpa using hle
        have d2 : decide (k ≤ 255) = true := by simpa using h255
        clear hx
        go_wp2_with fail
        refine (ref_may (s.extract 0 k) HX.out _).mono ?_
        rintro e w1 ⟨rfl, hb1⟩
        have HB := Lib.hid (bthen hbel hb1)
        clear hb1 hbel hsl
        cases hm : mayB (s.extract 0 k) with
        | true =>
          have HR := Lib.hid (szN_yes hle hm)
          clear hm
          go_wp2_with fail
          go_ret
          exact ⟨by rw [HR.out]; rfl, HB.out⟩
        | false =>
          have HM := Lib.hid hm
          clear hm
          go_wp2_with fail
          go_roundw
          case rel => exact ⟨k + 1, by omega, by omega, by go_num, (fun j h1 h2 h3 => by
            by_cases hjk : j < k
            · exact HN.out j h1 hjk h3
            · have : j = k := by omega
              rw [this]; exact HM.out), HB.out⟩
          case measure => simp [intOf]; omega
      · have HR := Lib.hid (szN_zero (s := s) (fun j h1 h2 h3 => HN.out j h1 (by omega) h3))
        have d1 : decide (k ≤ s.size) = true := by simpa using hle
        have d2 : decide (k ≤ 255) = false := by simpa using h255
        go_wp2_with fail
        go_ret
        exact ⟨by rw [HR.out]; rfl, hbel⟩
    · have HR := Lib.hid (szN_zero (s := s) (fun j h1 h2 h3 => HN.out j h1 (by omega) h3))
      have d1 : decide (k ≤ s.size) = false := by simpa using hle
      go_wp2_with fail
      go_ret
      exact ⟨by rw [HR.out]; rfl, hbel⟩

theorem txt_cons {x : ByteArray} (hne : 0 < x.size) : txtB x.data.toList = if 1 + x[0].toNat ≤ x.size then (if 1 + x[0].toNat = x.size then true else txtB (x.extract (1 + x[0].toNat) x.size).data.toList) else false := by
  have hl : x.data.toList = x[0] :: x.data.toList.tail := by
    cases h : x.data.toList with
    | nil => rw [← ba_len, h] at hne; simp at hne
    | cons c r =>
      have : x[0] = c := by
        have h1 : x[0] = x.data.toList[0]'(by rw [ba_len]; exact hne) := by rfl
        rw [h1]
        simp [h]
      rw [this]; rfl
  have hlen : x.data.toList.tail.length = x.size - 1 := by rw [List.length_tail, ba_len]
  have hd : (x.extract (1 + x[0].toNat) x.size).data.toList = x.data.toList.tail.drop x[0].toNat := by
    rw [extract_list, ← ba_len, List.take_length, ← List.drop_one, List.drop_drop]
  rw [hd, hl, txtB, List.tail_cons]
  generalize x.data.toList.tail = r at *
  by_cases h1 : 1 + x[0].toNat ≤ x.size
  · rw [if_pos (by omega), if_pos h1]
    by_cases h2 : 1 + x[0].toNat = x.size
    · rw [if_pos (by omega), if_pos h2]
    · rw [if_neg (by omega), if_neg h2]
  · rw [if_neg (by omega), if_neg h1]

set_option maxRecDepth 100000 in
set_option maxHeartbeats 1000000 in
theorem rtexts_any (s : ByteArray) (hs : s.size ≤ 1048576) (w : World) :
    Calls Tryd.prog 71 #[.string s] w fun e w' => e = .returned (.bool (txtB s.data.toList)) ∧ Below w.heap.size w w' := by
  by_cases h0 : s.size = 0
  · have hl : s.data.toList = [] := List.eq_nil_of_length_eq_zero (by rw [ba_len]; exact h0)
    have hst : s.toList = [] := by rw [ByteArray.toList_eq]; exact hl
    have HR := Lib.hid (show txtB s.data.toList = false by rw [hl, txtB])
    go_enter Tryd.func71, Tryd.ntmps71
    go_wp2_with fail
    go_ret
    exact ⟨by rw [HR.out]; rfl, Below.refl _ _⟩
  · have hne : s.toList.isEmpty = false := by rw [ByteArray.toList_eq]; cases h : s.data.toList with
      | nil => rw [← ba_len, h] at h0; exact absurd rfl h0
      | cons c r => rfl
    have hne2 : ¬ s.toList = [] := by intro h; rw [h] at hne; cases hne
    go_enter Tryd.func71, Tryd.ntmps71
    go_wp2_with fail
    go_loop [0] (fun t => ∃ x : ByteArray, t = .string x ∧ x.size ≤ s.size ∧ ((0 < x.size ∧ txtB s.data.toList = txtB x.data.toList) ∨ (x.size = 0 ∧ txtB s.data.toList = true))) (fun t => strLen t)
    case atStart => exact ⟨s, rfl, Nat.le_refl _, .inl ⟨by omega, rfl⟩⟩
    case round =>
      obtain ⟨x, rfl, hxs, hor⟩ := hrel
      clear hne hne2 h0
      rcases hor with ⟨hx0, hR⟩ | ⟨hx0, hR⟩
      · have hxne : x.toList.isEmpty = false := by rw [ByteArray.toList_eq]; cases h : x.data.toList with
          | nil => rw [← ba_len, h] at hx0; exact absurd hx0 (by simp)
          | cons c r => rfl
        have hxne2 : ¬ x.toList = [] := by intro h; rw [h] at hxne; cases hxne
        rw [txt_cons hx0] at hR
        have HR := Lib.hid hR
        clear hR
        obtain ⟨c, hc⟩ : ∃ c : Nat, x[0].toNat = c := ⟨_, rfl⟩
        have hc8 : c < 256 := by rw [← hc]; exact x[0].toNat_lt
        rw [hc] at HR
        by_cases h1 : 1 + c ≤ x.size
        · have hsl := sl_from x (1 + c) h1
          have d1 : decide (x.size < 1 + c) = false := by simp; omega
          have d2 : ¬ x.size < 1 + c := by omega
          go_wp2_with fail
          go_round
          case rel =>
            have hR := HR.out
            rw [if_pos h1] at hR
            have hz : (x.extract (1 + c) x.size).size = x.size - (1 + c) := by rw [ByteArray.size_extract]; omega
            refine ⟨_, rfl, by rw [hz]; omega, ?_⟩
            by_cases h2 : 1 + c = x.size
            · rw [if_pos h2] at hR
              exact .inr ⟨by rw [hz]; omega, hR⟩
            · rw [if_neg h2] at hR
              exact .inl ⟨by rw [hz]; omega, hR⟩
          case measure =>
            have hz : (x.extract (1 + c) x.size).size = x.size - (1 + c) := by rw [ByteArray.size_extract]; omega
            simp only [strLen, hz]
            omega
        · have d1 : decide (x.size < 1 + c) = true := by simp; omega
          have d2 : x.size < 1 + c := by omega
          have hR := HR.out
          rw [if_neg h1] at hR
          have HF := Lib.hid hR
          clear hR
          go_wp2_with fail
          go_ret
          exact ⟨by rw [HF.out]; rfl, Below.refl _ _⟩
      · have hl : x.data.toList = [] := List.eq_nil_of_length_eq_zero (by rw [ba_len]; exact hx0)
        have hst : x.toList = [] := by rw [ByteArray.toList_eq]; exact hl
        have HF := Lib.hid hR
        clear hR hl
        go_wp2_with fail
        go_ret
        exact ⟨by rw [HF.out]; rfl, Below.refl _ _⟩

set_option maxRecDepth 100000 in
set_option maxHeartbeats 4000000 in
theorem refmay_any (k : Nat) (d : ByteArray) (hd : d.size ≤ 1048576) (hk : k < 65536) (w : World) :
    Calls Tryd.prog 43 #[.int .u16 (k : Nat), .string d] w fun e w' => e = .returned (.bool (mayD k d)) ∧ Below w.heap.size w w' := by
  by_cases hbig : d.size ≤ 65535
  · have c1 : decide ((65535 : Int) < (d.size : Int)) = false := by simp; omega
    have c2 : ¬ 65535 < d.size := by omega
    have c3 : decide (d.size ≤ 65535) = true := by simpa using hbig
    rcases kinds k with hN | ⟨hN, h⟩
    · have HR := Lib.hid (show mayD k d = mayB d by
        have h1 : k ≠ 1 := by unfold isN at hN; simp at hN; omega
        have h28 : k ≠ 28 := by unfold isN at hN; simp at hN; omega
        unfold mayD
        rw [if_neg h1, if_neg h28, if_pos hN, c3]; rfl)
      have hk3 : k = 2 ∨ k = 5 ∨ k = 12 := by unfold isN at hN; simpa using hN
      clear hN
      rcases hk3 with rfl | rfl | rfl
      all_goals
        go_enter Tryd.func43, Tryd.ntmps43
        go_wp2_with fail
        refine (ref_may d hd _).mono ?_
        rintro e w1 ⟨rfl, hb1⟩
        generalize hB : mayB d = Bv at *
        go_wp2_with fail
        go_ret
        exact ⟨by rw [HR.out]; rfl, hb1⟩
    · rcases h with rfl | rfl | rfl | rfl | rfl | ⟨h15, h6, h16, h1, h28, hl⟩
      · have HR := Lib.hid (show mayD 15 d = (decide (2 < d.size) && mayB (d.extract 2 d.size)) by
          unfold mayD
          rw [if_neg (by decide), if_neg (by decide), if_neg (by decide), if_pos rfl, c3]; rfl)
        by_cases h2 : 2 < d.size
        · have hsl := sl_from d 2 (by omega)
          have hx : (d.extract 2 d.size).size ≤ 1048576 := by rw [ByteArray.size_extract]; omega
          have d1 : decide (2 < d.size) = true := by simpa using h2
          have HX := Lib.hid hx
          clear hx
          go_enter Tryd.func43, Tryd.ntmps43
          go_wp2_with fail
          refine (ref_may (d.extract 2 d.size) HX.out _).mono ?_
          rintro e w1 ⟨rfl, hb1⟩
          rw [d1] at HR
          generalize mayB (d.extract 2 d.size) = Bv at *
          go_wp2_with fail
          go_ret
          exact ⟨by rw [HR.out]; rfl, hb1⟩
        · have d1 : decide (2 < d.size) = false := by simpa using h2
          go_enter Tryd.func43, Tryd.ntmps43
          go_wp2_with fail
          go_ret
          exact ⟨by rw [HR.out, d1]; rfl, Below.refl _ _⟩
      · have HR := Lib.hid (show mayD 6 d = decide (0 < szN d ∧ 0 < szN (d.extract (szN d) d.size) ∧ d.size = szN d + szN (d.extract (szN d) d.size) + 20) by
          unfold mayD
          rw [if_neg (by decide), if_neg (by decide), if_neg (by decide), if_neg (by decide), if_pos rfl, c3]; rfl)
        have ha : szN d ≤ d.size := by
          rcases Nat.eq_zero_or_pos (szN d) with h0 | h0
          · omega
          · exact (szN_pos h0).1
        have hx : (d.extract (szN d) d.size).size = d.size - szN d := by rw [ByteArray.size_extract]; omega
        have hb : szN (d.extract (szN d) d.size) ≤ d.size := by
          rcases Nat.eq_zero_or_pos (szN (d.extract (szN d) d.size)) with h0 | h0
          · omega
          · have := (szN_pos h0).1; omega
        have h1 := fun w' => rsize_any d hd w'
        have h2 := fun w' => rsize_any (d.extract (szN d) d.size) (by omega) w'
        generalize szN (d.extract (szN d) d.size) = b at *
        generalize szN d = a at *
        have hsl := sl_from d a ha
        have H1 := Lib.hid h1
        have H2 := Lib.hid h2
        clear h1 h2
        by_cases p1 : 0 < a
        · by_cases p2 : 0 < b
          · by_cases p3 : d.size = a + b + 20
            · have HD := Lib.hid (show decide (0 < a ∧ 0 < b ∧ d.size = a + b + 20) = true by simp; omega)
              have e1 : decide (0 < a) = true := by simpa using p1
              have e2 : decide (0 < b) = true := by simpa using p2
              have e3 : ((d.size : Int) == (a : Int) + (b : Int) + 20) = true := by simp; omega
              clear p3
              go_enter Tryd.func43, Tryd.ntmps43
              go_wp2_with fail
              refine (H1.out _).mono ?_
              rintro e w1 ⟨rfl, hb1⟩
              go_wp2_with fail
              refine (H2.out _).mono ?_
              rintro e w2 ⟨rfl, hb2⟩
              go_wp2_with fail
              go_ret
              exact ⟨by rw [HR.out, HD.out]; rfl, bthen hb1 hb2⟩
            · have HD := Lib.hid (show decide (0 < a ∧ 0 < b ∧ d.size = a + b + 20) = false by simp; omega)
              have e1 : decide (0 < a) = true := by simpa using p1
              have e2 : decide (0 < b) = true := by simpa using p2
              have e3 : ((d.size : Int) == (a : Int) + (b : Int) + 20) = false := by simp; omega
              clear p3
              go_enter Tryd.func43, Tryd.ntmps43
              go_wp2_with fail
              refine (H1.out _).mono ?_
              rintro e w1 ⟨rfl, hb1⟩
              go_wp2_with fail
              refine (H2.out _).mono ?_
              rintro e w2 ⟨rfl, hb2⟩
              go_wp2_with fail
              go_ret
              exact ⟨by rw [HR.out, HD.out]; rfl, bthen hb1 hb2⟩
          · have HD := Lib.hid (show decide (0 < a ∧ 0 < b ∧ d.size = a + b + 20) = false by simp; omega)
            have e1 : decide (0 < a) = true := by simpa using p1
            have e2 : decide (0 < b) = false := by simpa using p2
            go_enter Tryd.func43, Tryd.ntmps43
            go_wp2_with fail
            refine (H1.out _).mono ?_
            rintro e w1 ⟨rfl, hb1⟩
            go_wp2_with fail
            refine (H2.out _).mono ?_
            rintro e w2 ⟨rfl, hb2⟩
            go_wp2_with fail
            go_ret
            exact ⟨by rw [HR.out, HD.out]; rfl, bthen hb1 hb2⟩
        · have HD := Lib.hid (show decide (0 < a ∧ 0 < b ∧ d.size = a + b + 20) = false by simp; omega)
          have e1 : decide (0 < a) = false := by simpa using p1
          go_enter Tryd.func43, Tryd.ntmps43
          go_wp2_with fail
          refine (H1.out _).mono ?_
          rintro e w1 ⟨rfl, hb1⟩
          go_wp2_with fail
          refine (H2.out _).mono ?_
          rintro e w2 ⟨rfl, hb2⟩
          go_wp2_with fail
          go_ret
          exact ⟨by rw [HR.out, HD.out]; rfl, bthen hb1 hb2⟩
      · have HR := Lib.hid (show mayD 16 d = txtB d.data.toList by rw [mayD_16, c3]; rfl)
        go_enter Tryd.func43, Tryd.ntmps43
        go_wp2_with fail
        refine (rtexts_any d hd _).mono ?_
        rintro e w1 ⟨rfl, hb1⟩
        generalize txtB d.data.toList = Bv at *
        go_wp2_with fail
        go_ret
        exact ⟨by rw [HR.out]; rfl, hb1⟩
      · have HR := Lib.hid (show mayD 1 d = decide (d.size = 4) by rw [mayD_1, c3]; rfl)
        by_cases hn : d.size = 4
        · have b1 : ((d.size : Int) == 4) = true := by simp; omega
          have HD := Lib.hid (show decide (d.size = 4) = true by simpa using hn)
          clear hn
          go_enter Tryd.func43, Tryd.ntmps43
          go_wp2_with fail
          go_ret
          exact ⟨by rw [HR.out, HD.out]; rfl, Below.refl _ _⟩
        · have b1 : ((d.size : Int) == 4) = false := by simp; omega
          have HD := Lib.hid (show decide (d.size = 4) = false by simpa using hn)
          clear hn
          go_enter Tryd.func43, Tryd.ntmps43
          go_wp2_with fail
          go_ret
          exact ⟨by rw [HR.out, HD.out]; rfl, Below.refl _ _⟩
      · have HR := Lib.hid (show mayD 28 d = decide (d.size = 16) by rw [mayD_28, c3]; rfl)
        by_cases hn : d.size = 16
        · have b1 : ((d.size : Int) == 16) = true := by simp; omega
          have HD := Lib.hid (show decide (d.size = 16) = true by simpa using hn)
          clear hn
          go_enter Tryd.func43, Tryd.ntmps43
          go_wp2_with fail
          go_ret
          exact ⟨by rw [HR.out, HD.out]; rfl, Below.refl _ _⟩
        · have b1 : ((d.size : Int) == 16) = false := by simp; omega
          have HD := Lib.hid (show decide (d.size = 16) = false by simpa using hn)
          clear hn
          go_enter Tryd.func43, Tryd.ntmps43
          go_wp2_with fail
          go_ret
          exact ⟨by rw [HR.out, HD.out]; rfl, Below.refl _ _⟩
      · have HR := Lib.hid (show mayD k d = true by
          unfold mayD
          rw [if_neg h1, if_neg h28, if_neg (by rw [hN]; decide), if_neg h15, if_neg h6, if_neg h16, c3]; rfl)
        have hN' : ¬ (k = 2 ∨ k = 5 ∨ k = 12) := by unfold isN at hN; simpa using hN
        have b1 : ((k : Int) == 1) = false := by simp; omega
        have b2 : ((k : Int) == 28) = false := by simp; omega
        have b3 : ((k : Int) == 2) = false := by simp; omega
        have b4 : ((k : Int) == 5) = false := by simp; omega
        have b5 : ((k : Int) == 12) = false := by simp; omega
        have b6 : ((k : Int) == 15) = false := by simp; omega
        have b7 : ((k : Int) == 6) = false := by simp; omega
        have b8 : ((k : Int) == 16) = false := by simp; omega
        clear h15 h6 h16 h1 h28 hl hN hN'
        go_enter Tryd.func43, Tryd.ntmps43
        go_wp2_with fail
        go_ret
        exact ⟨by rw [HR.out]; rfl, Below.refl _ _⟩
  · have c1 : decide ((65535 : Int) < (d.size : Int)) = true := by simp; omega
    have c2 : 65535 < d.size := by omega
    have HR := Lib.hid (show mayD k d = false by unfold mayD; rw [show decide (d.size ≤ 65535) = false by simpa using hbig]; rfl)
    go_enter Tryd.func43, Tryd.ntmps43
    go_wp2_with fail
    go_ret
    exact ⟨by rw [HR.out]; rfl, Below.refl _ _⟩
end Go.Proofs.YtlphbeaaeeohjaaDoor

namespace Go.Proofs.YtlphbeaaeeohjaaDoor
open Go.RowKit
set_option linter.unusedVariables false

theorem nm1_tk (s : ByteArray) (p : Nat) : (nm1 s p = none ∧ tkS s p = ⟨#[]⟩ ∧ tkX s p = 0 ∧ tkE s p = 2) ∨ ∃ r, nm1 s p = some r ∧ tkS s p = ⟨r.1.toArray⟩ ∧ tkX s p = r.2 ∧ tkE s p = 0 := by
  have hN : tkN s p = (tkB s p p).filter fun r => decide (r.1.length ≤ 255) := by unfold tkN; rw [if_pos (by omega)]; rfl
  unfold nm1 tkE tkS tkX
  rw [hN]
  cases (tkB s p p).filter fun r => decide (r.1.length ≤ 255) with
  | none => exact .inl ⟨rfl, rfl, rfl, rfl⟩
  | some r => exact .inr ⟨_, rfl, rfl, rfl, rfl⟩
/-- A name that ends ahead of a place. -/
def ns1 (s : ByteArray) (p e : Nat) : Option (List UInt8 × Nat) := (nm1 s p).bind fun r => if r.2 ≤ e then some r else none
/-- Two names that end ahead of a place. -/
def ns2 (s : ByteArray) (p e : Nat) : Option (List UInt8 × Nat) := (ns1 s p e).bind fun r => (ns1 s r.2 e).map fun q => (r.1 ++ q.1, q.2)
def nsS (o : Option (List UInt8 × Nat)) : ByteArray := match o with | some r => ⟨r.1.toArray⟩ | none => ⟨#[]⟩
def nsX (o : Option (List UInt8 × Nat)) : Nat := match o with | some r => r.2 | none => 0
theorem ba_nil_append (X : ByteArray) : (⟨#[]⟩ : ByteArray) ++ X = X := by apply ba_ext; simp
theorem ba_mk_append (a b : List UInt8) : (⟨a.toArray⟩ : ByteArray) ++ ⟨b.toArray⟩ = ⟨(a ++ b).toArray⟩ := by apply ba_ext; simp

set_option maxRecDepth 100000 in
set_option maxHeartbeats 1000000 in
theorem rnames1_any (s : ByteArray) (p e : Nat) (hs : s.size ≤ 1000) (hp : p ≤ 1002) (he : e ≤ 1000) (w : World) :
    Calls Tryd.prog 61 #[.string s, .int .i64 (p : Nat), .int .i64 (e : Nat), .int .i64 1] w fun en w' => en = .returned (.tuple #[.string (nsS (ns1 s p e)), .int .i64 (nsX (ns1 s p e) : Nat)]) ∧ Below w.heap.size w w' := by
  go_enter Tryd.func61, Tryd.ntmps61
  go_wp2_with fail
  refine wp_loop_rounds 2 ?_
  rw [rounds_succ]
  go_wp2_with fail
  refine (rtake_nat s p hs (by unfold maxLen; omega) _).mono ?_
  rintro en w1 ⟨rfl, hb1⟩
  rcases nm1_tk s p with ⟨h0, h1, h2, h3⟩ | ⟨r, h0, h1, h2, h3⟩
  · have HR := Lib.hid (show ns1 s p e = none by unfold ns1; rw [h0]; rfl)
    rw [h1, h2, h3]
    clear h0 h1 h2 h3
    go_wp2_with fail
    go_ret2
    exact ⟨by rw [HR.out]; rfl, hb1⟩
  · obtain ⟨_, _, hr2, hr1, _⟩ := nm1_is h0
    rw [h1, h2, h3]
    by_cases hle : r.2 ≤ e
    · have HR := Lib.hid (show ns1 s p e = some r by unfold ns1; rw [h0, Option.bind_some, if_pos hle])
      have d1 : decide (e < r.2) = false := by simp; omega
      have d2 : ¬ e < r.2 := by omega
      have hz : (⟨r.1.toArray⟩ : ByteArray).size ≤ 255 := by rw [mk_size]; exact hr1
      obtain ⟨R, hR⟩ : ∃ R : ByteArray, (⟨r.1.toArray⟩ : ByteArray) = R := ⟨_, rfl⟩
      obtain ⟨X, hX⟩ : ∃ X : Nat, r.2 = X := ⟨_, rfl⟩
      have HRX := Lib.hid (And.intro hR hX)
      rw [hR] at hz ⊢
      rw [hX] at d1 d2 hr2 ⊢
      have hcat : ¬ 9223372036854775807 < (⟨#[]⟩ : ByteArray).size + R.size := by show ¬ 9223372036854775807 < 0 + R.size; omega
      have hap := ba_nil_append R
      clear h0 h1 h2 h3 hle hR hX
      go_wp2_with fail
      rw [rounds_succ]
      go_wp2_with fail
      go_ret2
      exact ⟨by rw [HR.out, show nsS (some r) = R from HRX.out.1, show nsX (some r) = X from HRX.out.2]; rfl, hb1⟩
    · have HR := Lib.hid (show ns1 s p e = none by unfold ns1; rw [h0, Option.bind_some, if_neg hle])
      have d1 : decide (e < r.2) = true := by simp; omega
      have d2 : e < r.2 := by omega
      generalize (⟨r.1.toArray⟩ : ByteArray) = R
      generalize r.2 = X at *
      clear h0 h1 h2 h3 hle
      go_wp2_with fail
      go_ret2
      exact ⟨by rw [HR.out]; rfl, hb1⟩

set_option maxRecDepth 100000 in
set_option maxHeartbeats 1000000 in
theorem rnames2_any (s : ByteArray) (p e : Nat) (hs : s.size ≤ 1000) (hp : p ≤ 1002) (he : e ≤ 1000) (w : World) :
    Calls Tryd.prog 61 #[.string s, .int .i64 (p : Nat), .int .i64 (e : Nat), .int .i64 2] w fun en w' => en = .returned (.tuple #[.string (nsS (ns2 s p e)), .int .i64 (nsX (ns2 s p e) : Nat)]) ∧ Below w.heap.size w w' := by
  go_enter Tryd.func61, Tryd.ntmps61
  go_wp2_with fail
  refine wp_loop_rounds 3 ?_
  rw [rounds_succ]
  go_wp2_with fail
  refine (rtake_nat s p hs (by unfold maxLen; omega) _).mono ?_
  rintro en w1 ⟨rfl, hb1⟩
  rcases nm1_tk s p with ⟨h0, h1, h2, h3⟩ | ⟨r, h0, h1, h2, h3⟩
  · have HR := Lib.hid (show ns2 s p e = none by unfold ns2 ns1; rw [h0]; rfl)
    rw [h1, h2, h3]
    clear h0 h1 h2 h3
    go_wp2_with fail
    go_ret2
    exact ⟨by rw [HR.out]; rfl, hb1⟩
  · obtain ⟨_, _, hr2, hr1, _⟩ := nm1_is h0
    rw [h1, h2, h3]
    by_cases hle : r.2 ≤ e
    · have hn2 : ns2 s p e = (ns1 s r.2 e).map fun q => (r.1 ++ q.1, q.2) := by
        have : ns1 s p e = some r := by unfold ns1; rw [h0, Option.bind_some, if_pos hle]
        unfold ns2
        rw [this, Option.bind_some]
      have HN := Lib.hid hn2
      have d1 : decide (e < r.2) = false := by simp; omega
      have d2 : ¬ e < r.2 := by omega
      have hz : (⟨r.1.toArray⟩ : ByteArray).size ≤ 255 := by rw [mk_size]; exact hr1
      obtain ⟨R, hR⟩ : ∃ R : ByteArray, (⟨r.1.toArray⟩ : ByteArray) = R := ⟨_, rfl⟩
      obtain ⟨X, hX⟩ : ∃ X : Nat, r.2 = X := ⟨_, rfl⟩
      have HRX := Lib.hid hR
      rw [hR] at hz ⊢
      rw [hX] at d1 d2 hr2 HN ⊢
      have hcat : ¬ 9223372036854775807 < (⟨#[]⟩ : ByteArray).size + R.size := by show ¬ 9223372036854775807 < 0 + R.size; omega
      have hap := ba_nil_append R
      clear h0 h1 h2 h3 hle hR hX hn2
      go_wp2_with fail
      rw [rounds_succ]
      go_wp2_with fail
      refine (rtake_nat s X hs (by unfold maxLen; omega) _).mono ?_
      rintro en w2 ⟨rfl, hb2⟩
      have HB := Lib.hid (bthen hb1 hb2)
      clear hb1 hb2 hcat hap d1 d2
      rcases nm1_tk s X with ⟨h0, h1, h2, h3⟩ | ⟨q, h0, h1, h2, h3⟩
      · have HR := Lib.hid (show ns2 s p e = none by rw [HN.out]; unfold ns1; rw [h0]; rfl)
        rw [h1, h2, h3]
        clear h0 h1 h2 h3
        go_wp2_with fail
        go_ret2
        exact ⟨by rw [HR.out]; rfl, HB.out⟩
      · obtain ⟨_, _, hq2, hq1, _⟩ := nm1_is h0
        rw [h1, h2, h3]
        by_cases hle2 : q.2 ≤ e
        · have HR := Lib.hid (show ns2 s p e = some (r.1 ++ q.1, q.2) by rw [HN.out]; unfold ns1; rw [h0, Option.bind_some, if_pos hle2]; rfl)
          have d1 : decide (e < q.2) = false := by simp; omega
          have d2 : ¬ e < q.2 := by omega
          have hz2 : (⟨q.1.toArray⟩ : ByteArray).size ≤ 255 := by rw [mk_size]; exact hq1
          have hQ0 : R ++ ⟨q.1.toArray⟩ = nsS (some (r.1 ++ q.1, q.2)) := by rw [← HRX.out, ba_mk_append]; rfl
          have HQ0 := Lib.hid hQ0
          obtain ⟨Q, hQ⟩ : ∃ Q : ByteArray, (⟨q.1.toArray⟩ : ByteArray) = Q := ⟨_, rfl⟩
          obtain ⟨Y, hY⟩ : ∃ Y : Nat, q.2 = Y := ⟨_, rfl⟩
          have HY := Lib.hid hY
          rw [hQ] at hz2 HQ0 ⊢
          rw [hY] at d1 d2 hq2 ⊢
          have hcat : ¬ 9223372036854775807 < R.size + Q.size := by omega
          clear h0 h1 h2 h3 hle2 hQ hY hQ0
          go_wp2_with fail
          rw [rounds_succ]
          go_wp2_with fail
          go_ret2
          exact ⟨by rw [HR.out, ← HQ0.out, show nsX (some (r.1 ++ q.1, q.2)) = Y from HY.out]; rfl, HB.out⟩
        · have HR := Lib.hid (show ns2 s p e = none by rw [HN.out]; unfold ns1; rw [h0, Option.bind_some, if_neg hle2]; rfl)
          have d1 : decide (e < q.2) = true := by simp; omega
          have d2 : e < q.2 := by omega
          generalize (⟨q.1.toArray⟩ : ByteArray) = Q
          generalize q.2 = Y at *
          clear h0 h1 h2 h3 hle2
          go_wp2_with fail
          go_ret2
          exact ⟨by rw [HR.out]; rfl, HB.out⟩
    · have HR := Lib.hid (show ns2 s p e = none by unfold ns2 ns1; rw [h0, Option.bind_some, if_neg hle]; rfl)
      have d1 : decide (e < r.2) = true := by simp; omega
      have d2 : e < r.2 := by omega
      generalize (⟨r.1.toArray⟩ : ByteArray) = R
      generalize r.2 = X at *
      clear h0 h1 h2 h3 hle
      go_wp2_with fail
      go_ret2
      exact ⟨by rw [HR.out]; rfl, hb1⟩

end Go.Proofs.YtlphbeaaeeohjaaDoor

namespace Go.Proofs.YtlphbeaaeeohjaaDoor
open Go.RowKit
set_option linter.unusedVariables false

theorem may_nil (k : Nat) (hN : isN k = true) : mayD k ⟨#[]⟩ = false := by
  have h1 : k ≠ 1 := by unfold isN at hN; simp at hN; omega
  have h28 : k ≠ 28 := by unfold isN at hN; simp at hN; omega
  unfold mayD
  rw [if_neg h1, if_neg h28, if_pos hN]
  have : mayB ⟨#[]⟩ = false := by
    cases h : mayB ⟨#[]⟩ with
    | false => rfl
    | true =>
      have hn := may_name h
      have := wire_len_pos (labs ⟨#[]⟩)
      rw [← hn.eq] at this
      simp at this
  rw [this]
  rfl

set_option maxRecDepth 100000 in
set_option maxHeartbeats 4000000 in
theorem reftake_N (s : ByteArray) (P M k : Nat) (hN : k = 2 ∨ k = 5 ∨ k = 12) (hs : s.size ≤ 1000) (hpm : P + M ≤ s.size) (w : World) :
    Calls Tryd.prog 34 #[.string s, .int .i64 (P : Nat), .int .i64 (M : Nat), .int .u16 (k : Nat)] w fun e w' => e = .returned (.tuple #[.string (tdS s P M k), .int .i64 (tdE s P M k)]) ∧ Below w.heap.size w w' := by
  have hNk : isN k = true := by unfold isN; simpa using hN
  have hok : Oc.okS s P M := ⟨by omega, by omega, by omega⟩
  have e1 : Oc.se s P M = 0 := by unfold Oc.se; rw [if_pos hok]
  have e2 : Oc.so s P M = ((P + M : Nat) : Int) := by unfold Oc.so; rw [if_pos hok]; omega
  have ht : tdO s P M k = (nm1 s P).bind fun r => if r.2 = P + M then some r.1 else none := by
    rw [tdO_eq (by omega), if_pos hpm]
    unfold takeD
    rw [if_pos hNk]
  have HT := Lib.hid ht
  have HE := Lib.hid (And.intro e1 e2)
  have HNk := Lib.hid (And.intro hNk (show k < 65536 by omega))
  clear ht e1 e2 hok hNk
  obtain ⟨E, hE⟩ : ∃ E, P + M = E := ⟨_, rfl⟩
  rw [hE] at HT HE hpm
  have hPE : P ≤ E := by omega
  rcases hN with hk | hk | hk
  all_goals
    subst hk
    go_enter Tryd.func34, Tryd.ntmps34
    go_wp2_with fail
    refine (Oc.rsome_any s P M _ (by omega)).mono ?_
    rintro e w1 ⟨rfl, hb1⟩
    rw [HE.out.1, HE.out.2]
    generalize Oc.sx s P M = Sx
    go_wp2_with fail
    refine (rnames1_any s P E hs (by omega) (by omega) _).mono ?_
    rintro e w2 ⟨rfl, hb2⟩
    have HB := Lib.hid (bthen hb1 hb2)
    clear hb1 hb2
    cases hn : nm1 s P with
    | none =>
      have hns : ns1 s P E = none := by unfold ns1; rw [hn]; rfl
      rw [hns]
      have HR := Lib.hid (td_none (HT.out.trans (by rw [hn]; rfl)))
      have x1 : nsS none = ⟨#[]⟩ := rfl
      have x2 : nsX none = 0 := rfl
      rw [x1, x2]
      clear hn hns x1 x2
      by_cases hz : E = 0
      · rw [hz]
        go_wp2_with fail
        refine (refmay_any _ ⟨#[]⟩ (Nat.zero_le _) HNk.out.2 _).mono ?_
        rintro e w3 ⟨rfl, hb3⟩
        rw [may_nil _ HNk.out.1]
        go_wp2_with fail
        go_ret2
        exact ⟨by rw [HR.out.1, HR.out.2]; rfl, bthen HB.out hb3⟩
      · have hz2 : ((0 : Int) == (E : Int)) = false := by simp; omega
        go_wp2_with fail
        go_ret2
        exact ⟨by rw [HR.out.1, HR.out.2]; rfl, HB.out⟩
    | some r =>
      obtain ⟨hmay, _, hr2, hr1, _⟩ := nm1_is hn
      by_cases hle : r.2 ≤ E
      · have hns : ns1 s P E = some r := by unfold ns1; rw [hn, Option.bind_some, if_pos hle]
        rw [hns]
        have x1 : nsS (some r) = ⟨r.1.toArray⟩ := rfl
        have x2 : nsX (some r) = r.2 := rfl
        rw [x1, x2]
        by_cases heq : r.2 = E
        · have hsome : tdO s P M _ = some r.1 := HT.out.trans (by rw [hn, Option.bind_some, if_pos heq])
          have HR := Lib.hid (td_some hsome)
          have HM := Lib.hid (td_may (by omega) hsome).1
          rw [heq]
          have hz : (⟨r.1.toArray⟩ : ByteArray).size ≤ 1048576 := by rw [mk_size]; omega
          clear hn hns x1 x2 heq hle hmay hsome
          generalize (⟨r.1.toArray⟩ : ByteArray) = R at *
          go_wp2_with fail
          refine (refmay_any _ R hz HNk.out.2 _).mono ?_
          rintro e w3 ⟨rfl, hb3⟩
          rw [HM.out]
          go_wp2_with fail
          go_ret2
          exact ⟨by rw [HR.out.1, HR.out.2]; rfl, bthen HB.out hb3⟩
        · have HR := Lib.hid (td_none (HT.out.trans (by rw [hn, Option.bind_some, if_neg heq])))
          have b1 : ((r.2 : Int) == (E : Int)) = false := by simp; omega
          clear hn hns x1 x2 hle hmay
          generalize (⟨r.1.toArray⟩ : ByteArray) = R at *
          generalize r.2 = X at *
          go_wp2_with fail
          go_ret2
          exact ⟨by rw [HR.out.1, HR.out.2]; rfl, HB.out⟩
      · have hns : ns1 s P E = none := by unfold ns1; rw [hn, Option.bind_some, if_neg hle]
        rw [hns]
        have HR := Lib.hid (td_none (HT.out.trans (by rw [hn, Option.bind_some, if_neg (by omega)])))
        have x1 : nsS none = ⟨#[]⟩ := rfl
        have x2 : nsX none = 0 := rfl
        rw [x1, x2]
        clear hn hns x1 x2 hmay hr1
        by_cases hz : E = 0
        · rw [hz]
          go_wp2_with fail
          refine (refmay_any _ ⟨#[]⟩ (Nat.zero_le _) HNk.out.2 _).mono ?_
          rintro e w3 ⟨rfl, hb3⟩
          rw [may_nil _ HNk.out.1]
          go_wp2_with fail
          go_ret2
          exact ⟨by rw [HR.out.1, HR.out.2]; rfl, bthen HB.out hb3⟩
        · have hz2 : ((0 : Int) == (E : Int)) = false := by simp; omega
          go_wp2_with fail
          go_ret2
          exact ⟨by rw [HR.out.1, HR.out.2]; rfl, HB.out⟩
end Go.Proofs.YtlphbeaaeeohjaaDoor

namespace Go.Proofs.YtlphbeaaeeohjaaDoor
open Go.RowKit
set_option linter.unusedVariables false

set_option maxRecDepth 100000 in
set_option maxHeartbeats 400000 in
theorem reftake_M (s : ByteArray) (P M : Nat) (hs : s.size ≤ 1000) (hpm : P + M ≤ s.size) (w : World) :
    Calls Tryd.prog 34 #[.string s, .int .i64 (P : Nat), .int .i64 (M : Nat), .int .u16 15] w fun e w' => e = .returned (.tuple #[.string (tdS s P M 15), .int .i64 (tdE s P M 15)]) ∧ Below w.heap.size w w' := by
  have hok : Oc.okS s P M := ⟨by omega, by omega, by omega⟩
  have e1 : Oc.se s P M = 0 := by unfold Oc.se; rw [if_pos hok]
  have e2 : Oc.so s P M = ((P + M : Nat) : Int) := by unfold Oc.so; rw [if_pos hok]; omega
  have e3 : Oc.sx s P M = s.extract P (P + M) := by unfold Oc.sx; rw [if_pos hok]; rfl
  have ht : tdO s P M 15 = if M < 3 then none else (nm1 s (P + 2)).bind fun r => if r.2 = P + M then some ((s.data.toList.drop P).take 2 ++ r.1) else none := by
    rw [tdO_eq (by omega), if_pos hpm]
    unfold takeD
    rw [if_neg (by decide), if_pos rfl]
  have HT := Lib.hid ht
  have HE := Lib.hid (And.intro e1 (And.intro e2 e3))
  clear ht e1 e2 e3 hok
  obtain ⟨E, hE⟩ : ∃ E, P + M = E := ⟨_, rfl⟩
  rw [hE] at HT HE hpm
  have hPE : P ≤ E := by omega
  by_cases hm3 : M < 3
  · have HR := Lib.hid (td_none (HT.out.trans (if_pos hm3)))
    have d1 : decide ((M : Int) < 3) = true := by simp; omega
    go_enter Tryd.func34, Tryd.ntmps34
    go_wp2_with fail
    refine (Oc.rsome_any s P M _ (by omega)).mono ?_
    rintro e w1 ⟨rfl, hb1⟩
    rw [HE.out.1, HE.out.2.1]
    generalize Oc.sx s P M = Sx
    go_wp2_with fail
    go_ret2
    exact ⟨by rw [HR.out.1, HR.out.2]; rfl, hb1⟩
  · have hT := HT.out
    rw [if_neg hm3] at hT
    have d1 : decide ((M : Int) < 3) = false := by simp; omega
    have hsxz : (s.extract P E).size = M := by rw [ByteArray.size_extract]; omega
    have h2l : ((s.extract P E).extract 0 2).data.toList = (s.data.toList.drop P).take 2 := by
      rw [ext_list, extract_list, List.drop_take, List.take_take, show min 2 (E - P) = 2 by omega]
    have hsl := sl_to (s.extract P E) 2 (by omega)
    have h2z : ((s.extract P E).extract 0 2).size = 2 := by rw [ByteArray.size_extract]; omega
    have HL2 := Lib.hid h2l
    have hcall := fun w' => rnames1_any s (P + 2) E hs (by omega) (by omega) w'
    rw [show ((P + 2 : Nat) : Int) = (P : Int) + 2 by omega] at hcall
    have HCall := Lib.hid hcall
    clear hcall h2l HT
    go_enter Tryd.func34, Tryd.ntmps34
    go_wp2_with fail
    refine (Oc.rsome_any s P M _ (by omega)).mono ?_
    rintro e w1 ⟨rfl, hb1⟩
    rw [HE.out.1, HE.out.2.1, HE.out.2.2]
    generalize s.extract P E = Sx at *
    go_wp2_with fail
    refine (HCall.out _).mono ?_
    rintro e w2 ⟨rfl, hb2⟩
    have HB := Lib.hid (bthen hb1 hb2)
    clear hb1 hb2
    have hz2 : ((0 : Int) == (E : Int)) = false := by simp; omega
    have hz3 : ¬ 0 = E := by omega
    have hcat0 : ¬ 9223372036854775807 < (Sx.extract 0 2).size + (⟨#[]⟩ : ByteArray).size := by show ¬ 9223372036854775807 < (Sx.extract 0 2).size + 0; omega
    cases hn : nm1 s (P + 2) with
    | none =>
      have hns : ns1 s (P + 2) E = none := by unfold ns1; rw [hn]; rfl
      rw [hns]
      have HR := Lib.hid (td_none (hT.trans (by rw [hn]; rfl)))
      have x1 : nsS none = ⟨#[]⟩ := rfl
      have x2 : nsX none = 0 := rfl
      rw [x1, x2]
      clear hn hns x1 x2 hT
      go_wp2_with fail
      go_ret2
      exact ⟨by rw [HR.out.1, HR.out.2]; rfl, HB.out⟩
    | some r =>
      obtain ⟨hmay, _, hr2, hr1, _⟩ := nm1_is hn
      by_cases hle : r.2 ≤ E
      · have hns : ns1 s (P + 2) E = some r := by unfold ns1; rw [hn, Option.bind_some, if_pos hle]
        rw [hns]
        have x1 : nsS (some r) = ⟨r.1.toArray⟩ := rfl
        have x2 : nsX (some r) = r.2 := rfl
        rw [x1, x2]
        have hzr : (⟨r.1.toArray⟩ : ByteArray).size ≤ 255 := by rw [mk_size]; exact hr1
        have hcat : ¬ 9223372036854775807 < (Sx.extract 0 2).size + (⟨r.1.toArray⟩ : ByteArray).size := by omega
        by_cases heq : r.2 = E
        · have hsome : tdO s P M 15 = some ((s.data.toList.drop P).take 2 ++ r.1) := hT.trans (by rw [hn, Option.bind_some, if_pos heq])
          have hR : (Sx.extract 0 2) ++ ⟨r.1.toArray⟩ = (⟨((s.data.toList.drop P).take 2 ++ r.1).toArray⟩ : ByteArray) := by apply ba_ext; rw [← HL2.out]; simp
          have hs2 := td_some hsome
          have hm2 := (td_may (by omega) hsome).1
          rw [← hR] at hs2 hm2
          have hz : ((Sx.extract 0 2) ++ ⟨r.1.toArray⟩).size ≤ 1048576 := by rw [ByteArray.size_append]; omega
          have HR := Lib.hid hs2
          have HM := Lib.hid hm2
          have HZ := Lib.hid hz
          rw [heq]
          clear hn hns x1 x2 heq hle hmay hsome hR hs2 hm2 hz hT
          generalize (⟨r.1.toArray⟩ : ByteArray) = R at *
          go_wp2_with fail
          refine (refmay_any 15 ((Sx.extract 0 2) ++ R) HZ.out (by decide) _).mono ?_
          rintro e w3 ⟨rfl, hb3⟩
          rw [HM.out]
          go_wp2_with fail
          go_ret2
          exact ⟨by rw [HR.out.1, HR.out.2]; rfl, bthen HB.out hb3⟩
        · have HR := Lib.hid (td_none (hT.trans (by rw [hn, Option.bind_some, if_neg heq])))
          have b1 : ((r.2 : Int) == (E : Int)) = false := by simp; omega
          clear hn hns x1 x2 hle hmay hT
          generalize (⟨r.1.toArray⟩ : ByteArray) = R at *
          generalize r.2 = X at *
          go_wp2_with fail
          go_ret2
          exact ⟨by rw [HR.out.1, HR.out.2]; rfl, HB.out⟩
      · have hns : ns1 s (P + 2) E = none := by unfold ns1; rw [hn, Option.bind_some, if_neg hle]
        rw [hns]
        have HR := Lib.hid (td_none (hT.trans (by rw [hn, Option.bind_some, if_neg (by omega)])))
        have x1 : nsS none = ⟨#[]⟩ := rfl
        have x2 : nsX none = 0 := rfl
        rw [x1, x2]
        clear hn hns x1 x2 hmay hr1 hT
        go_wp2_with fail
        go_ret2
        exact ⟨by rw [HR.out.1, HR.out.2]; rfl, HB.out⟩
end Go.Proofs.YtlphbeaaeeohjaaDoor

namespace Go.Proofs.YtlphbeaaeeohjaaDoor
open Go.RowKit
set_option linter.unusedVariables false

set_option maxRecDepth 100000 in
set_option maxHeartbeats 400000 in
theorem reftake_O (s : ByteArray) (P M k : Nat) (hN : ¬ (k = 2 ∨ k = 5 ∨ k = 12)) (h15 : k ≠ 15) (h6 : k ≠ 6) (hk : k < 65536) (hs : s.size ≤ 1000) (hpm : P + M ≤ s.size) (w : World) :
    Calls Tryd.prog 34 #[.string s, .int .i64 (P : Nat), .int .i64 (M : Nat), .int .u16 (k : Nat)] w fun e w' => e = .returned (.tuple #[.string (tdS s P M k), .int .i64 (tdE s P M k)]) ∧ Below w.heap.size w w' := by
  have hok : Oc.okS s P M := ⟨by omega, by omega, by omega⟩
  have e1 : Oc.se s P M = 0 := by unfold Oc.se; rw [if_pos hok]
  have e2 : Oc.so s P M = ((P + M : Nat) : Int) := by unfold Oc.so; rw [if_pos hok]; omega
  have e3 : Oc.sx s P M = s.extract P (P + M) := by unfold Oc.sx; rw [if_pos hok]; rfl
  have hNk : isN k = false := by unfold isN; simpa using hN
  have hd : (s.extract P (P + M)).data.toList = (s.data.toList.drop P).take M := by rw [extract_list, List.drop_take]; congr 1; omega
  have ht : tdO s P M k = if mayD k (s.extract P (P + M)) = true then some (s.extract P (P + M)).data.toList else none := by
    rw [tdO_eq (by omega), if_pos hpm, takeD_oth hNk h15 h6, ← hd, ba_mk]
  have HT := Lib.hid ht
  have HE := Lib.hid (And.intro e1 (And.intro e2 e3))
  have b3 : ((k : Int) == 2) = false := by simp; omega
  have b4 : ((k : Int) == 5) = false := by simp; omega
  have b5 : ((k : Int) == 12) = false := by simp; omega
  have b6 : ((k : Int) == 15) = false := by simp; omega
  have b7 : ((k : Int) == 6) = false := by simp; omega
  have hz : (s.extract P (P + M)).size ≤ 1048576 := by rw [ByteArray.size_extract]; omega
  clear ht e1 e2 e3 hok hNk hd hN h15 h6
  obtain ⟨E, hE⟩ : ∃ E, P + M = E := ⟨_, rfl⟩
  rw [hE] at HT HE hpm hz
  clear hE
  go_enter Tryd.func34, Tryd.ntmps34
  go_wp2_with fail
  refine (Oc.rsome_any s P M _ (by omega)).mono ?_
  rintro e w1 ⟨rfl, hb1⟩
  rw [HE.out.1, HE.out.2.1, HE.out.2.2]
  clear HE
  generalize s.extract P E = Sx at *
  go_wp2_with fail
  refine (refmay_any k Sx hz hk _).mono ?_
  rintro e w2 ⟨rfl, hb2⟩
  have HB := Lib.hid (bthen hb1 hb2)
  clear hb1 hb2
  cases hm : mayD k Sx with
  | true =>
    have hr := td_some (HT.out.trans (if_pos hm))
    rw [ba_mk] at hr
    have HR := Lib.hid hr
    clear hm hr
    go_wp2_with fail
    go_ret2
    exact ⟨by rw [HR.out.1, HR.out.2]; rfl, HB.out⟩
  | false =>
    have HR := Lib.hid (td_none (HT.out.trans (if_neg (by rw [hm]; decide))))
    clear hm
    go_wp2_with fail
    go_ret2
    exact ⟨by rw [HR.out.1, HR.out.2]; rfl, HB.out⟩
end Go.Proofs.YtlphbeaaeeohjaaDoor

namespace Go.Proofs.YtlphbeaaeeohjaaDoor
open Go.RowKit
set_option linter.unusedVariables false

set_option maxRecDepth 100000 in
set_option maxHeartbeats 400000 in
theorem reftake_S (s : ByteArray) (P M : Nat) (hs : s.size ≤ 1000) (hpm : P + M ≤ s.size) (w : World) :
    Calls Tryd.prog 34 #[.string s, .int .i64 (P : Nat), .int .i64 (M : Nat), .int .u16 6] w fun e w' => e = .returned (.tuple #[.string (tdS s P M 6), .int .i64 (tdE s P M 6)]) ∧ Below w.heap.size w w' := by
  have hok : Oc.okS s P M := ⟨by omega, by omega, by omega⟩
  have e1 : Oc.se s P M = 0 := by unfold Oc.se; rw [if_pos hok]
  have e2 : Oc.so s P M = ((P + M : Nat) : Int) := by unfold Oc.so; rw [if_pos hok]; omega
  have ht : tdO s P M 6 = (ns2 s P (P + M)).bind fun q => if P + M - q.2 = 20 then some (q.1 ++ (s.data.toList.drop q.2).take 20) else none := by
    rw [tdO_eq (by omega), if_pos hpm]
    unfold takeD
    rw [if_neg (by decide), if_neg (by decide), if_pos rfl]
    unfold ns2 ns1
    cases nm1 s P with
    | none => rfl
    | some r =>
      simp only [Option.bind_some]
      by_cases h1 : r.2 ≤ P + M
      · rw [if_pos h1, if_pos h1]
        simp only [Option.bind_some]
        cases nm1 s r.2 with
        | none => rfl
        | some q =>
          simp only [Option.bind_some]
          by_cases h2 : q.2 ≤ P + M
          · rw [if_pos h2, Option.map_some, Option.bind_some]
            simp only [h2, true_and]
          · rw [if_neg h2, if_neg (fun x => h2 x.1)]
            rfl
      · rw [if_neg h1, if_neg h1]
        rfl
  have HT := Lib.hid ht
  have HE := Lib.hid (And.intro e1 e2)
  clear ht e1 e2 hok
  obtain ⟨E, hE⟩ : ∃ E, P + M = E := ⟨_, rfl⟩
  rw [hE] at HT HE hpm
  have hPE : P ≤ E := by omega
  go_enter Tryd.func34, Tryd.ntmps34
  go_wp2_with fail
  refine (Oc.rsome_any s P M _ (by omega)).mono ?_
  rintro e w1 ⟨rfl, hb1⟩
  rw [HE.out.1, HE.out.2]
  generalize Oc.sx s P M = Sx
  go_wp2_with fail
  refine (rnames2_any s P E hs (by omega) (by omega) _).mono ?_
  rintro e w2 ⟨rfl, hb2⟩
  have HB := Lib.hid (bthen hb1 hb2)
  clear hb1 hb2
  cases hn : ns2 s P E with
  | none =>
    have HR := Lib.hid (td_none (HT.out.trans (by rw [hn]; rfl)))
    have x1 : nsS none = ⟨#[]⟩ := rfl
    have x2 : nsX none = 0 := rfl
    rw [x1, x2]
    clear hn x1 x2
    go_wp2_with fail
    go_ret2
    exact ⟨by rw [HR.out.1, HR.out.2]; rfl, HB.out⟩
  | some q =>
    have hq : 0 < q.2 ∧ q.2 ≤ E ∧ q.1.length ≤ 510 := by
      unfold ns2 ns1 at hn
      rw [Option.bind_eq_some_iff] at hn
      obtain ⟨r, hr, h2⟩ := hn
      rw [Option.map_eq_some_iff] at h2
      obtain ⟨q', hq', rfl⟩ := h2
      rw [Option.bind_eq_some_iff] at hq' hr
      obtain ⟨q2, g1, g2⟩ := hq'
      obtain ⟨r2, g3, g4⟩ := hr
      split at g2
      · split at g4
        · cases g2
          cases g4
          have a := nm1_is g1
          have b := nm1_is g3
          refine ⟨by simp only; omega, by assumption, ?_⟩
          simp only [List.length_append]
          omega
        · cases g4
      · cases g2
    have x1 : nsS (some q) = ⟨q.1.toArray⟩ := rfl
    have x2 : nsX (some q) = q.2 := rfl
    rw [x1, x2]
    obtain ⟨hq0, hqE, hql⟩ := hq
    have b0 : ((q.2 : Int) == 0) = false := by simp; omega
    have b1 : decide (E < q.2) = false := by simp; omega
    have b1n : ¬ E < q.2 := by omega
    by_cases h20 : E - q.2 = 20
    · have hsome : tdO s P M 6 = some (q.1 ++ (s.data.toList.drop q.2).take 20) := HT.out.trans (by rw [hn, Option.bind_some, if_pos h20])
      have hx : (s.extract q.2 E).data.toList = (s.data.toList.drop q.2).take 20 := by rw [extract_list, List.drop_take, h20]
      have hR : (⟨q.1.toArray⟩ : ByteArray) ++ s.extract q.2 E = ⟨(q.1 ++ (s.data.toList.drop q.2).take 20).toArray⟩ := by apply ba_ext; rw [← hx]; simp
      have hs2 := td_some hsome
      have hm2 := (td_may (by omega) hsome).1
      rw [← hR] at hs2 hm2
      have hsl := slice_mid s q.2 E hqE hpm
      have hxz : (s.extract q.2 E).size = 20 := by rw [ByteArray.size_extract]; omega
      have hqz : (⟨q.1.toArray⟩ : ByteArray).size ≤ 510 := by rw [mk_size]; exact hql
      have hcat : ¬ 9223372036854775807 < (⟨q.1.toArray⟩ : ByteArray).size + (s.extract q.2 E).size := by omega
      have hz : ((⟨q.1.toArray⟩ : ByteArray) ++ s.extract q.2 E).size ≤ 1048576 := by rw [ByteArray.size_append]; omega
      have b2 : ((E : Int) - (q.2 : Int) == 20) = true := by simp; omega
      have b3 : (E : Int) - (q.2 : Int) = 20 := by omega
      have HR := Lib.hid hs2
      have HM := Lib.hid hm2
      have HZ := Lib.hid hz
      clear hn x1 x2 hsome hx hR hs2 hm2 hz
      generalize s.extract q.2 E = T at *
      generalize (⟨q.1.toArray⟩ : ByteArray) = R at *
      generalize q.2 = X at *
      go_wp2_with fail
      refine (refmay_any 6 (R ++ T) HZ.out (by decide) _).mono ?_
      rintro e w3 ⟨rfl, hb3⟩
      rw [HM.out]
      go_wp2_with fail
      go_ret2
      exact ⟨by rw [HR.out.1, HR.out.2]; rfl, bthen HB.out hb3⟩
    · have HR := Lib.hid (td_none (HT.out.trans (by rw [hn, Option.bind_some, if_neg h20])))
      have b2 : ((E : Int) - (q.2 : Int) == 20) = false := by simp; omega
      have b3 : ¬ (E : Int) - (q.2 : Int) = 20 := by omega
      clear hn x1 x2
      generalize (⟨q.1.toArray⟩ : ByteArray) = R at *
      generalize q.2 = X at *
      go_wp2_with fail
      go_ret2
      exact ⟨by rw [HR.out.1, HR.out.2]; rfl, HB.out⟩
end Go.Proofs.YtlphbeaaeeohjaaDoor

namespace Go.Proofs.YtlphbeaaeeohjaaDoor
open Go.RowKit
set_option linter.unusedVariables false

set_option maxHeartbeats 1000000 in
theorem reftake_any (s : ByteArray) (p m : Int) (k : Nat) (hk : k < 65536) (hs : s.size ≤ 1000) (w : World) :
    Calls Tryd.prog 34 #[.string s, .int .i64 p, .int .i64 m, .int .u16 (k : Nat)] w fun e w' => e = .returned (.tuple #[.string (tdS s p m k), .int .i64 (tdE s p m k)]) ∧ Below w.heap.size w w' := by
  by_cases hok : Oc.okS s p m
  · obtain ⟨P, rfl⟩ : ∃ P : Nat, p = P := ⟨p.toNat, by have := hok.1; omega⟩
    obtain ⟨M, rfl⟩ : ∃ M : Nat, m = M := ⟨m.toNat, by have := hok.2.1; omega⟩
    have hpm : P + M ≤ s.size := by have := hok.2.2; omega
    by_cases hN : k = 2 ∨ k = 5 ∨ k = 12
    · exact reftake_N s P M k hN hs hpm w
    · by_cases h15 : k = 15
      · subst h15; exact reftake_M s P M hs hpm w
      · by_cases h6 : k = 6
        · subst h6; exact reftake_S s P M hs hpm w
        · exact reftake_O s P M k hN h15 h6 hk hs hpm w
  · have e1 : Oc.se s p m = 2 := by unfold Oc.se; rw [if_neg hok]
    have HR := Lib.hid (td_none (s := s) (p := p) (m := m) (k := k) (by unfold tdO; rw [if_neg (by rw [Oc.okB_no hok]; decide)]))
    have HE := Lib.hid e1
    clear e1 hok
    go_enter Tryd.func34, Tryd.ntmps34
    go_wp2_with fail
    refine (Oc.rsome_any s p m _ (by omega)).mono ?_
    rintro e w1 ⟨rfl, hb1⟩
    rw [HE.out]
    generalize Oc.sx s p m = Sx
    generalize Oc.so s p m = So
    go_wp2_with fail
    go_ret2
    exact ⟨by rw [HR.out.1, HR.out.2]; rfl, hb1⟩
end Go.Proofs.YtlphbeaaeeohjaaDoor
