/- The contract of derrickref03.Take: as the program's. -/
import Derived.Test.YtnakljbginbenaaGreatDoorWrt
import Derived.Test.YtnakljbginbenaaGreatDoorBwi
namespace Go.Proofs.YtnakljbginbenaaGreatDoor
open Go.RowKit
set_option linter.unusedVariables false

/-- A piece of labels. -/
theorem piece_labs {s : ByteArray} {p : Nat} (hr : runOk s p = true) : piece s p (endFrom s p) = ((labsFrom s p).map lab).flatMap enc1 ∧ ∀ l ∈ (labsFrom s p).map lab, okLb l := by
  have hge := endFrom_ge' s p
  have hlt := (runOk_iff.1 hr).1
  constructor
  · have h1 := split_from s s.size p (by omega)
    have h2 : s.data.toList.drop p = piece s p (endFrom s p) ++ s.data.toList.drop (endFrom s p) := by
      rw [piece_eq, List.drop_take]
      have : s.data.toList.drop (endFrom s p) = (s.data.toList.drop p).drop (endFrom s p - p) := by rw [List.drop_drop]; congr 1; omega
      rw [this, List.take_append_drop]
    rw [h2] at h1
    exact List.append_cancel_right h1
  · intro l hl
    obtain ⟨x, _, rfl⟩ := List.mem_map.1 hl
    exact lab_ok x
theorem piece_zero {s : ByteArray} {p e : Nat} (hp : p ≤ e) (he : e < s.size) (h0 : lsz s e = 0) : (s.extract p (e + 1)).data.toList = piece s p e ++ [0] := by
  have hl : e < s.data.toList.length := by rw [ba_len]; exact he
  rw [extract_list, List.take_succ_eq_append_getElem hl, List.drop_append, piece_eq]
  have hz : s.data.toList[e] = 0 := by
    have h1 := lsz_eq he
    rw [h0] at h1
    apply UInt8.toNat_inj.1
    exact h1.symm
  rw [hz]
  have : p - (s.data.toList.take e).length = 0 := by rw [List.length_take, ba_len]; omega
  rw [this]
  rfl
/-- 'behind' in the reference's loop. -/
def bhd (af : Nat) : Int := if af = 0 then -1 else (af : Nat)

set_option maxRecDepth 100000 in
set_option maxHeartbeats 2000000 in
theorem rtake_nat (s : ByteArray) (p : Nat) (hs : s.size ≤ 1500) (hp : p ≤ maxLen) (w : World) :
    Calls Tryz.prog 70 #[.string s, .int .i64 (p : Nat)] w fun e w' => e = .returned (.tuple #[.string (tkS s p), .int .i64 (tkX s p : Nat), .int .i64 (tkE s p : Nat)]) ∧ Below w.heap.size w w' := by
  unfold maxLen at hp
  go_enter Tryz.func70, Tryz.ntmps70
  go_wp2_with fail
  go_loopw [1, 7, 8] (fun i n f wr => ∃ (k af : Nat) (N : ByteArray), i = .int .i64 k ∧ n = .string N ∧ f = .int .i64 (bhd af) ∧ k ≤ p ∧ (k = p ∨ p ≤ 1500) ∧ N.size ≤ 1501 * (p - k) ∧ Below w.heap.size w wr ∧ TkRel s p k N.data.toList af) (fun i _ _ _ => (intOf i).toNat)
  case atStart =>
    refine ⟨p, 0, ⟨#[]⟩, rfl, rfl, rfl, Nat.le_refl _, .inl rfl, by simp [ByteArray.size], Below.refl _ _, ?_⟩
    show tkB s p p = _
    cases tkB s p p <;> rfl
  case round =>
    obtain ⟨k, af, N, rfl, rfl, rfl, hkp, hp1, hN, hbel, hrel⟩ := hrel
    have HRel := Lib.hid hrel
    clear hrel
    have hsz := hbel.size
    have hkm : k ≤ maxLen := by unfold maxLen; omega
    go_wp2_with fail
    refine (rlabels_nat s k hs hkm _).mono ?_
    rintro e w1 ⟨rfl, rfl⟩
    clear hkm
    by_cases hbad : runOk s k = false ∨ (lsz s (endFrom s k) ≠ 0 ∧ lsz s (endFrom s k) < 192)
    · have hn : tkB s p p = none := by
        rw [HRel.out]
        rcases hbad with h | ⟨h1, h2⟩
        · rw [tkB_bad h]; rfl
        · cases hr : runOk s k with
          | false => rw [tkB_bad hr]; rfl
          | true =>
            rw [tkB_no hr h1 (by
              cases hpb : ptB s k (endFrom s k) with
              | false => rfl
              | true => have := (ptB_iff.1 hpb).2.1; omega)]
            rfl
      obtain ⟨r1, r2, r3⟩ := tk_none (s := s) (p := (p : Int)) (.inr (by simpa using hn))
      have HR := Lib.hid (And.intro r1 (And.intro r2 r3))
      have q1 : rlS s k = ⟨#[]⟩ := by
        unfold rlS
        rcases hbad with h | ⟨h1, h2⟩
        · rw [if_neg (by rw [h]; decide)]
        · rw [if_neg h1, if_neg (show ¬ 192 ≤ lsz s (endFrom s k) by omega)]
          split <;> rfl
      have q2 : rlX s k = -1 := by
        unfold rlX
        rcases hbad with h | ⟨h1, h2⟩
        · rw [if_neg (by rw [h]; decide)]
        · rw [if_neg h1, if_neg (show ¬ 192 ≤ lsz s (endFrom s k) by omega)]
          split <;> rfl
      rw [q1, q2]
      clear q1 q2 r1 r2 r3 hn hbad
      go_wp2_with fail
      go_ret3
      exact ⟨by rw [HR.out.1, HR.out.2.1, HR.out.2.2]; rfl, hbel⟩
    · have hr : runOk s k = true := by
        cases hr : runOk s k with
        | true => rfl
        | false => exact absurd (.inl hr) hbad
      obtain ⟨e, he⟩ : ∃ e, endFrom s k = e := ⟨_, rfl⟩
      have hlt := (runOk_iff.1 hr).1
      have hge := endFrom_ge' s k
      obtain ⟨hpc, hokl⟩ := piece_labs hr
      rw [he] at hlt hge hpc
      have hpl : (piece s k e).length = e - k := piece_len (by omega)
      have hpp : p ≤ 1500 := by omega
      by_cases h0 : lsz s e = 0
      · have hx := piece_zero hge hlt h0
        obtain ⟨X, hX⟩ : ∃ X, s.extract k (e + 1) = X := ⟨_, rfl⟩
        rw [hX] at hx
        have hxs : X.size = e - k + 1 := by rw [← ba_len, hx, List.length_append, hpl]; rfl
        have q1 : rlS s k = X := by unfold rlS; rw [if_pos hr, he, if_pos h0, hX]
        have q2 : rlX s k = (e + 1 : Nat) := by unfold rlX; rw [if_pos hr, he, if_pos h0]
        have hxw : X.data.toList = wire ((labsFrom s k).map lab) := by rw [hx, hpc]; rfl
        obtain ⟨m, hm⟩ : ∃ m, e - k = m := ⟨_, rfl⟩
        rw [hm] at hxs hpl
        have hml : m ≤ 1500 := by omega
        have hd : X.data.toList.drop m = 0 :: [] := by
          rw [hx, ← hpl, List.drop_left']
          rfl
        obtain ⟨hl1, hl2, _⟩ := byte_at hd
        have hl3 : X[m].toNat = 0 := hl2
        have ht : tkB s p p = some (N.data.toList ++ X.data.toList, aft af (e + 1)) := by
          rw [HRel.out, tkB_zero hr (by rw [he]; exact h0), he, hx]
          rfl
        have hNX : (N ++ X).data.toList = N.data.toList ++ X.data.toList := by simp
        have hne : X.toList.isEmpty = false := by
          rw [ByteArray.toList_eq, hx]
          simp
        have hne2 : ¬ X.toList = [] := by
          rw [ByteArray.toList_eq, hx]
          simp
        have HT := Lib.hid ht
        have HXw := Lib.hid hxw
        have HOk := Lib.hid hokl
        have HNX := Lib.hid hNX
        rw [q1, q2]
        have hNs : N.size ≤ 2260000 := by omega
        have hcat : ¬ 9223372036854775807 < N.size + X.size := by omega
        have hfo : foldB (N ++ X) = ⟨((N.data.toList ++ X.data.toList).map low).toArray⟩ := by
          show ByteArray.mk ((N ++ X).data.toList.map low).toArray = _
          rw [hNX]
        have HFo := Lib.hid hfo
        clear q1 q2 hr he hpc hokl hbad ht hxw hx hX hpl h0 hNX hfo hd hl2 hm
        go_wp2_with fail
        refine (ends_yes X _ (by omega) HOk.out HXw.out _).mono ?_
        rintro e' w1 ⟨rfl, rfl⟩
        by_cases hlong : 255 < N.size + X.size
        · obtain ⟨r1, r2, r3⟩ := tk_long (s := s) (p := (p : Int)) (by omega) (by simpa using HT.out) (by show 255 < (N.data.toList ++ X.data.toList).length; rw [List.length_append, ba_len, ba_len]; exact hlong)
          have HR := Lib.hid (And.intro r1 (And.intro r2 r3))
          clear r1 r2 r3
          by_cases ha : af = 0
          · have hb : bhd af = -1 := by unfold bhd; rw [if_pos ha]
            rw [hb]
            clear hb
            go_wp2_with fail
            go_ret3
            exact ⟨by rw [HR.out.1, HR.out.2.1, HR.out.2.2]; rfl, hbel⟩
          · have hb : bhd af = (af : Nat) := by unfold bhd; rw [if_neg ha]
            rw [hb]
            clear hb
            go_wp2_with fail
            go_ret3
            exact ⟨by rw [HR.out.1, HR.out.2.1, HR.out.2.2]; rfl, hbel⟩
        · obtain ⟨r1, r2, r3⟩ := tk_some (s := s) (p := (p : Int)) (by omega) (by simpa using HT.out) (by show (N.data.toList ++ X.data.toList).length ≤ 255; rw [List.length_append, ba_len, ba_len]; omega)
          have HR := Lib.hid (And.intro r1 (And.intro r2 r3))
          clear r1 r2 r3
          by_cases ha : af = 0
          · have hb : bhd af = -1 := by unfold bhd; rw [if_pos ha]
            have ha2 : aft af (e + 1) = e + 1 := by unfold aft; rw [if_pos ha]
            have HA := Lib.hid ha2
            rw [hb]
            clear hb ha2
            go_wp2_with fail
            refine (ref_fold (N ++ X) (by rw [ByteArray.size_append]; omega) _).mono ?_
            rintro e' w2 ⟨rfl, hb2⟩
            go_wp2_with fail
            go_ret3
            refine ⟨?_, bthen hbel hb2⟩
            rw [HR.out.1, HR.out.2.1, HR.out.2.2, HFo.out]
            simp only [HA.out]
            rfl
          · have hb : bhd af = (af : Nat) := by unfold bhd; rw [if_neg ha]
            have ha2 : aft af (e + 1) = af := by unfold aft; rw [if_neg ha]
            have HA := Lib.hid ha2
            rw [hb]
            clear hb ha2
            go_wp2_with fail
            refine (ref_fold (N ++ X) (by rw [ByteArray.size_append]; omega) _).mono ?_
            rintro e' w2 ⟨rfl, hb2⟩
            go_wp2_with fail
            go_ret3
            refine ⟨?_, bthen hbel hb2⟩
            rw [HR.out.1, HR.out.2.1, HR.out.2.2, HFo.out]
            simp only [HA.out]
            rfl
      · have h192 : 192 ≤ lsz s e := by
          rcases Nat.lt_or_ge (lsz s e) 192 with h | h
          · exact absurd (.inr ⟨by rw [he]; exact h0, by rw [he]; exact h⟩) hbad
          · exact h
        obtain ⟨X, hX⟩ : ∃ X, s.extract k e = X := ⟨_, rfl⟩
        have hx : X.data.toList = piece s k e := by rw [← hX]; rfl
        have hxs : X.size = e - k := by rw [← ba_len, hx, hpl]
        have q1 : rlS s k = X := by unfold rlS; rw [if_pos hr, he, if_neg h0, if_pos h192, hX]
        have q2 : rlX s k = (e : Nat) := by unfold rlX; rw [if_pos hr, he, if_neg h0, if_pos h192]
        have hxw : X.data.toList = ((labsFrom s k).map lab).flatMap enc1 := by rw [hx, hpc]
        have hNX : (N ++ X).data.toList = N.data.toList ++ X.data.toList := by simp
        rw [q1, q2]
        have hNs : N.size ≤ 2260000 := by omega
        have hcat : ¬ 9223372036854775807 < N.size + X.size := by omega
        have h8 := lsz_le s e
        have h9 := lsz_le s (e + 1)
        -- where the pointer leads
        obtain ⟨t, u, v, hu, hcases⟩ : ∃ (t : Nat) (u v : Int), (Oc.un s (e : Int) 2 = u ∧ Oc.so s (e : Int) 2 = v ∧ u.tmod 16384 = t ∧ 0 ≤ u ∧ u ≤ 65535 ∧ t < 16384) ∧ ((Oc.se s (e : Int) 2 = 2 ∧ tkB s p p = none) ∨ (Oc.se s (e : Int) 2 = 0 ∧ k ≤ t ∧ tkB s p p = none) ∨ (Oc.se s (e : Int) 2 = 0 ∧ t < k ∧ v = (e + 2 : Nat) ∧ TkRel s p t (N ++ X).data.toList (aft af (e + 2)))) := by
          by_cases h1 : e + 1 < s.size
          · obtain ⟨e1, e2, e3⟩ := un_two h1
            have r4 : ((256 * lsz s e + lsz s (e + 1) : Nat) : Int) = 49152 + (toOf s e : Nat) := by unfold toOf; omega
            have r5 : toOf s e < 16384 := by unfold toOf; omega
            rw [r4] at e1
            refine ⟨toOf s e, _, _, ⟨e1, e2, ?_, by omega, by omega, r5⟩, .inr ?_⟩
            · rw [Int.tmod_eq_emod_of_nonneg (by omega)]; omega
            · by_cases hto : toOf s e < k
              · refine .inr ⟨e3, hto, by omega, ?_⟩
                unfold TkRel
                rw [HRel.out, tkB_ptr hr (by rw [he]; exact h0) (by rw [he]; exact ptB_iff.2 ⟨h1, h192, hto⟩), he, Option.map_map, hNX, hx]
                congr 1
                funext r
                simp only [Function.comp, List.append_assoc, Prod.mk.injEq, true_and]
                unfold aft
                split <;> simp_all
              · refine .inl ⟨e3, by omega, ?_⟩
                rw [HRel.out, tkB_no hr (by rw [he]; exact h0) (by
                  rw [he]
                  cases hpb : ptB s k e with
                  | false => rfl
                  | true => exact absurd (ptB_iff.1 hpb).2.2 hto)]
                rfl
          · obtain ⟨e1, e2, e3, _⟩ := un_not (s := s) (p := (e : Int)) (m := 2) (fun h => h1 (by have := h.2.2; omega))
            refine ⟨0, 0, 0, ⟨e1, e2, rfl, by omega, by omega, by omega⟩, .inl ⟨e3, ?_⟩⟩
            rw [HRel.out, tkB_no hr (by rw [he]; exact h0) (by
              rw [he]
              cases hpb : ptB s k e with
              | false => rfl
              | true => exact absurd (ptB_iff.1 hpb).1 h1)]
            rfl
        obtain ⟨u1, u2, u3, u4, u5, u6⟩ := hu
        have HXw := Lib.hid hxw
        have HOk := Lib.hid hokl
        have HC := Lib.hid hcases
        have HU := Lib.hid (And.intro u1 u2)
        have hsplit : X.size = 0 ∨ (∃ m, X.size = m + 1 ∧ m ≤ 1500 ∧ ∃ h : m < X.size, X[m].toNat = 0) ∨ (∃ m, X.size = m + 1 ∧ m ≤ 1500 ∧ ∃ h : m < X.size, X[m].toNat ≠ 0) := by
          by_cases hz : X.size = 0
          · exact .inl hz
          · by_cases hl : (X[X.size - 1]'(by omega)).toNat = 0
            · exact .inr (.inl ⟨X.size - 1, by omega, by omega, by omega, hl⟩)
            · exact .inr (.inr ⟨X.size - 1, by omega, by omega, by omega, hl⟩)
        have hxs1 : N.size + X.size ≤ 1501 * (p - k) + 1500 ∧ N.size + X.size ≤ 1501 * (p - k) + (e - k) := by omega
        have HXS := Lib.hid (And.intro hxs hge)
        clear hxs
        clear q1 q2 hr he hpc hokl hbad hxw hx hX hpl h0 hNX hcases u1 u2 h192 h8 h9
        have hne : X.size ≠ 0 → X.toList.isEmpty = false ∧ ¬ X.toList = [] := fun h => by
          rw [ByteArray.toList_eq]
          have : X.data.toList ≠ [] := fun e => h (by rw [← ba_len, e]; rfl)
          exact ⟨by simpa using this, this⟩
        rcases hsplit with hz | ⟨m, hm, hm1, hl1, hl2⟩ | ⟨m, hm, hm1, hl1, hl2⟩
        case' neg.inl =>
          have hX0 : X = ⟨#[]⟩ := by
            apply ba_ext
            exact List.eq_nil_of_length_eq_zero (by rw [ba_len]; exact hz)
          obtain ⟨f1, f2⟩ := empty_is X hX0
          have f3 : X.toList = [] := by rw [hX0, ByteArray.toList_eq]
          clear hne hX0
          go_wp2_with fail
        case' neg.inr.inl =>
          obtain ⟨f1, f2⟩ := hne (by omega)
          clear hne
          go_wp2_with fail
          refine (ends_no X _ (by omega) HOk.out HXw.out _).mono ?_
          rintro e' w1 ⟨rfl, rfl⟩
          go_wp2_with fail
        case' neg.inr.inr =>
          obtain ⟨f1, f2⟩ := hne (by omega)
          have b1 : ((X[m].toNat : Int) == 0) = false := by simpa using hl2
          clear hne
          go_wp2_with fail
        all_goals
          refine (Oc.ru16_any s e _ (by omega)).mono ?_
          rintro e' w2 ⟨rfl, hb2⟩
          rw [HU.out.1, HU.out.2]
          have hbel2 := bthen hbel hb2
          rcases HC.out with ⟨g1, g2⟩ | ⟨g1, g2, g3⟩ | ⟨g1, g2, g3, g4⟩
          · obtain ⟨r1, r2, r3⟩ := tk_none (s := s) (p := (p : Int)) (.inr (by simpa using g2))
            have HR := Lib.hid (And.intro r1 (And.intro r2 r3))
            rw [g1]
            clear r1 r2 r3 g1 g2
            go_wp2_with fail
            go_ret3
            exact ⟨by rw [HR.out.1, HR.out.2.1, HR.out.2.2]; rfl, hbel2⟩
          · obtain ⟨r1, r2, r3⟩ := tk_none (s := s) (p := (p : Int)) (.inr (by simpa using g3))
            have HR := Lib.hid (And.intro r1 (And.intro r2 r3))
            rw [g1]
            clear r1 r2 r3 g1 g3
            go_wp2_with fail
            go_ret3
            exact ⟨by rw [HR.out.1, HR.out.2.1, HR.out.2.2]; rfl, hbel2⟩
          · have HG := Lib.hid g4
            rw [g1, g3]
            clear g1 g4 g3
            by_cases ha : af = 0
            · have hb : bhd af = -1 := by unfold bhd; rw [if_pos ha]
              have ha2 : aft af (e + 2) = e + 2 := by unfold aft; rw [if_pos ha]
              have HA := Lib.hid ha2
              have hbe : bhd (e + 2) = (e + 2 : Nat) := by unfold bhd; rw [if_neg (by omega)]
              have HB := Lib.hid hbe
              rw [hb]
              clear hb ha2 hbe
              go_wp2_with fail
              go_roundw
              case rel => exact ⟨t, e + 2, N ++ X, rfl, rfl, by rw [HB.out]; go_num, by omega, .inr hpp, by rw [ByteArray.size_append]; omega, hbel2, by have := HG.out; rw [HA.out] at this; exact this⟩
              case measure => simp [intOf]; omega
            · have hb : bhd af = (af : Nat) := by unfold bhd; rw [if_neg ha]
              have ha2 : aft af (e + 2) = af := by unfold aft; rw [if_neg ha]
              have HA := Lib.hid ha2
              have HB := Lib.hid hb
              rw [hb]
              clear hb ha2
              go_wp2_with fail
              go_roundw
              case rel => exact ⟨t, af, N ++ X, rfl, rfl, by rw [HB.out], by omega, .inr hpp, by rw [ByteArray.size_append]; omega, hbel2, by have := HG.out; rw [HA.out] at this; exact this⟩
              case measure => simp [intOf]; omega
end Go.Proofs.YtnakljbginbenaaGreatDoor
