/- The walk of derricklaw03.WireAgain: it returns true, whatever the arguments. -/
import Derived.Test.YtcfbcamhbffchaaWst
namespace Go.Proofs.Ytcfbcamhbffchaa
open Go.RowKit
set_option linter.unusedVariables false

theorem self_is' (s : ByteArray) : (s.toList == s.toList) = true := by simp
theorem ba_mk (S : List UInt8) (s : ByteArray) (h : S = s.data.toList) : (⟨S.toArray⟩ : ByteArray) = s := by apply ba_ext; rw [h]

set_option maxRecDepth 100000 in
set_option maxHeartbeats 2000000 in
theorem again_walk (A : Option Addr) (cap : Nat) (ps : List (ByteArray × Bool)) (n : ByteArray) (hl : ps.length ≤ 9223372036854775807) (hsz : ∀ p ∈ ps, p.1.size ≤ 9223372036854775807) (hn : n.size ≤ 140737488355328) (w : World) (hP : Parts w A ps) :
    Calls Try.prog 9 #[.slice A ps.length cap, .string n] w fun e w' => e = .returned (.bool true) ∧ Below w.heap.size w w' := by
  have HS := Lib.hid hsz
  clear hsz
  cases hf : fewB ps with
  | false =>
    go_enter Try.func9, Try.ntmps9
    go_wp2_with fail
    refine (shown_any _).mono ?_; rintro e w1 ⟨rfl, hb1⟩
    go_wp2_with fail
    refine (few_any A cap ps _ (hP.below hb1) hl HS.out).mono ?_; rintro e w2 ⟨rfl, rfl⟩
    rw [hf]
    go_wp2_with fail
    go_ret
    exact ⟨rfl, hb1⟩
  | true =>
    obtain ⟨hl40, hs4⟩ := few_yes hf
    have HF := Lib.hid hf
    have HS4 := Lib.hid hs4
    clear hf hs4
    cases hm : mayB n with
    | false =>
      go_enter Try.func9, Try.ntmps9
      go_wp2_with fail
      refine (shown_any _).mono ?_; rintro e w1 ⟨rfl, hb1⟩
      go_wp2_with fail
      refine (few_any A cap ps _ (hP.below hb1) hl HS.out).mono ?_; rintro e w2 ⟨rfl, rfl⟩
      rw [HF.out]
      go_wp2_with fail
      refine (may_any n hn _).mono ?_; rintro e w3 ⟨rfl, hb3⟩
      rw [hm]
      go_wp2_with fail
      go_ret
      exact ⟨rfl, bthen hb1 hb3⟩
    | true =>
      have HM := Lib.hid hm
      clear hm
      go_enter Try.func9, Try.ntmps9
      go_wp2_with fail
      refine (shown_any _).mono ?_; rintro e w1 ⟨rfl, hb1⟩
      go_wp2_with fail
      refine (few_any A cap ps _ (hP.below hb1) hl HS.out).mono ?_; rintro e w2 ⟨rfl, rfl⟩
      rw [HF.out]
      go_wp2_with fail
      refine (may_any n hn _).mono ?_; rintro e w3 ⟨rfl, hb3⟩
      rw [HM.out]
      have hbel3 := bthen hb1 hb3
      have hP3 := hP.below hbel3
      clear hb1 hb3 hP
      go_wp2_with fail
      refine (new_any _).mono ?_; rintro e w4 ⟨rfl, hI4, hb4⟩
      have hSt4 := St.new hI4
      clear hI4
      go_wp2_with fail
      go_loopw [7] (fun i wr => ∃ (k : Nat) (S : List UInt8) (L : Kn), k ≤ ps.length ∧ i = .int .i64 k ∧ St w3.heap.size w3.heap.size S L wr ∧ S.length ≤ 400 * k ∧ Below w3.heap.size w3 wr) (fun i _ => ps.length - (intOf i).toNat)
      case atStart => exact ⟨0, [], [], Nat.zero_le _, rfl, hSt4, by simp, hb4⟩
      case round =>
        obtain ⟨k, S, L, hk, rfl, hSt, hlen, hbel⟩ := hrel
        have hsz4 := hbel.size
        by_cases hlt : k < ps.length
        · obtain ⟨ab, ao, rfl, hb, hc0, hc1⟩ := (hP3.below hbel) k hlt
          have hs4 := HS4.out ps[k] (List.getElem_mem hlt)
          generalize ps[k] = q at *
          obtain ⟨qs, qr⟩ := q
          simp only at hc0 hc1 hs4
          cases qr with
          | true =>
            go_wp2_with fail
            go_roundw
            case rel => exact ⟨k + 1, S, L, hlt, by go_num, hSt, by omega, hbel⟩
            case measure => simp [intOf]; omega
          | false =>
            obtain ⟨X, hX1, hX2, _, _⟩ := (stepped hSt.good qs).1.app
            have hXl : (stp S L qs).1.length ≤ 400 * (k + 1) := by rw [hX1, List.length_append]; omega
            have HX := Lib.hid hXl
            clear hX1 hX2 hXl
            go_wp2_with fail
            refine (name_step _ _ S L qs _ hSt hsz4 (by omega) (by omega)).mono ?_
            rintro e w5 ⟨rfl, hSt5, hb5, _⟩
            go_wp2_with fail
            go_roundw
            case rel => exact ⟨k + 1, _, _, hlt, by go_num, hSt5, HX.out, hbel.trans hb5⟩
            case measure => simp [intOf]; omega
        · have hnn := may_name HM.out
          have hns := hnn.size
          obtain ⟨hstep, hgood⟩ := stepped hSt.good n
          obtain ⟨X, hX1, hX2, _, _⟩ := hstep.app
          have hback := hstep.back HM.out
          obtain ⟨S2, hS2⟩ : ∃ S2, (stp S L n).1 = S2 := ⟨_, rfl⟩
          rw [hS2] at hX1 hback
          have htk := tk_name HM.out (hback ⟨S2.toArray⟩ [] (by simp))
          have hS2l : S2.length = S.length + X.length := by rw [hX1, List.length_append]
          have HT := Lib.hid htk
          have HS2 := Lib.hid hS2
          clear hstep hgood hback hS2 hX1 htk hnn
          go_wp2_with fail
          refine (len_any _ _ _ _ _ hSt.is).mono ?_; rintro e w5 ⟨rfl, rfl⟩
          go_wp2_with fail
          refine (name_step _ _ S L n _ hSt hsz4 (by omega) (by omega)).mono ?_
          rintro e w5 ⟨rfl, hSt5, hb5, _⟩
          rw [HS2.out] at hSt5
          have hbel5 := hbel.trans hb5
          clear hSt hb5 hbel
          go_wp2_with fail
          refine (out_any _ _ _ _ _ hSt5.is).mono ?_; rintro e w6 ⟨rfl, rfl⟩
          go_wp2_with fail
          refine (take_any ⟨S2.toArray⟩ (S.length : Nat) (by show S2.length ≤ _; omega) (by unfold maxLen; omega) _).mono ?_; rintro e w6 ⟨rfl, hb6⟩
          rw [HT.out.1, HT.out.2.1, HT.out.2.2]
          have hSt6 := hSt5.below hb6
          have hbel6 := hbel5.trans (hb6.mono hbel5.size)
          clear hSt5 hb6 hbel5
          go_wp2_with fail
          refine (new_any _).mono ?_; rintro e w7 ⟨rfl, hI7, hb7⟩
          have hSt7 := St.new hI7
          have hf1 : (stp [] [] n).1 = n.data.toList := by
            have h1 := may_name HM.out
            unfold stp
            rw [if_pos HM.out, put_fresh (labs n) [] [] (fun p hp => by cases hp), ← h1.eq]
            rfl
          have HF1 := Lib.hid hf1
          clear hI7 hf1
          go_wp2_with fail
          refine (name_step _ _ [] [] n _ hSt7 hb7.size (by simp) (by omega)).mono ?_
          rintro e w8 ⟨rfl, hSt8, hb8, _⟩
          have hb78 := hb7.trans hb8
          have hp8 := hSt6.below hb78
          have hbel8 := hbel6.trans (hb78.mono hbel6.size)
          rw [HF1.out] at hSt8
          clear hSt7 hb7 hb8 hb78 hSt6 hbel6
          go_wp2_with fail
          refine (len_any _ _ _ _ _ hp8.is).mono ?_; rintro e w9 ⟨rfl, rfl⟩
          have hss := self_is' n
          go_wp2_with fail
          refine (out_any _ _ _ _ _ hSt8.is).mono ?_; rintro e w9 ⟨rfl, rfl⟩
          rw [ba_mk n.data.toList n rfl]
          go_wp2_with fail
          refine (len_any _ _ _ _ _ hp8.is).mono ?_; rintro e w9 ⟨rfl, rfl⟩
          go_wp2_with fail
          refine (len_any _ _ _ _ _ hSt8.is).mono ?_; rintro e w9 ⟨rfl, rfl⟩
          rw [ba_len]
          go_wp2_with fail
          go_ret
          exact ⟨ret_bool (decide_eq_true (by omega)), bthen hbel3 hbel8⟩
end Go.Proofs.Ytcfbcamhbffchaa
