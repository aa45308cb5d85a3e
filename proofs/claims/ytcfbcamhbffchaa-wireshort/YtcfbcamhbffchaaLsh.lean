/- The walk of derricklaw03.WireShort: it returns true, whatever the arguments. -/
import Derived.Test.YtcfbcamhbffchaaWst
import Derived.Deep.QuietTactic
import Derived.BigQuiet
namespace Go.Proofs.Ytcfbcamhbffchaa
open Go.RowKit
set_option linter.unusedVariables false

theorem mark_nil (w : World) : Calls Try.prog 22 #[.pointer none] w fun e w' => e = .returned (.int .i64 0) ∧ Below w.heap.size w w' := by
  go_enter Try.func22, Try.ntmps22
  go_wp2_with fail
  refine (Oc.Put16b 0 _ (by decide) (by decide)).mono ?_; rintro e w1 ⟨rfl, hb1⟩
  go_wp2_with fail
  refine (add_nil _ _).mono ?_; rintro e w2 ⟨rfl, rfl⟩
  go_wp2_with fail
  refine (len_nil _).mono ?_; rintro e w2 ⟨rfl, rfl⟩
  go_wp2_with fail
  go_ret
  exact ⟨rfl, hb1⟩
theorem close_nil (a : Int) (w : World) : Calls Try.prog 23 #[.pointer none, .int .i64 a] w fun e w' => e = .returned (.int .i64 1) ∧ w = w' := by
  go_enter Try.func23, Try.ntmps23
  go_wp2_with fail
  go_ret
  exact ⟨rfl, rfl⟩
theorem len_q (B b : Nat) (S : List UInt8) (L : Kn) (w : World) (m : Nat) (h : IsP B b S L w) :
    Calls Try.prog 17 #[.pointer (some ⟨b, 0, none⟩)] (w.drewN m) fun e w' => e = .returned (.int .i64 (S.length : Nat)) ∧ ∃ m', w' = w.drewN m' :=
  (len_any B b S L (w.drewN m) h).mono fun _ _ ⟨he, hw⟩ => ⟨he, m, hw.symm⟩
/-- A name that is added for the second time. -/
theorem twice {S : List UInt8} {L : Kn} {n : ByteArray} (hm : mayB n = true) (hS : S.length < 16384) :
    (n.toList == [0]) = true ∧ (stp (stp S L n).1 (stp S L n).2 n).1.length = (stp S L n).1.length + 1 ∨ (n.toList == [0]) = false ∧ (stp (stp S L n).1 (stp S L n).2 n).1.length = (stp S L n).1.length + 2 := by
  have hn := may_name hm
  have e : ∀ S L, stp S L n = put S L (labs n) := fun S L => by simp [stp, hm]
  rw [e, e]
  cases hl : labs n with
  | nil =>
    left
    refine ⟨?_, by rw [put_nil, put_nil]; simp⟩
    rw [ByteArray.toList_eq, hn.eq, hl]
    rfl
  | cons l ls =>
    right
    obtain ⟨_, a, ha⟩ := put_known l ls S L hS
    refine ⟨?_, by rw [put_hit ha]; simp [ptr]⟩
    rw [hl] at hn
    exact (name_tail hn).2.1

set_option maxRecDepth 100000 in
set_option maxHeartbeats 2000000 in
theorem short_walk (A : Option Addr) (cap : Nat) (ps : List (ByteArray × Bool)) (n : ByteArray) (hl : ps.length ≤ 9223372036854775807) (hsz : ∀ p ∈ ps, p.1.size ≤ 9223372036854775807) (hn : n.size ≤ 140737488355328) (w : World) (hP : Parts w A ps) :
    Calls Try.prog 7 #[.slice A ps.length cap, .string n] w fun e w' => e = .returned (.bool true) ∧ Below w.heap.size w w' := by
  have HS := Lib.hid hsz
  clear hsz
  cases hf : fewB ps with
  | false =>
    go_enter Try.func7, Try.ntmps7
    go_wp2_with fail
    refine (shown_any _).mono ?_; rintro e w1 ⟨rfl, hb1⟩
    go_wp2_with fail
    refine (few_any A cap ps _ (hP.below hb1) hl HS.out).mono ?_; rintro e w2 ⟨rfl, rfl⟩
    rw [hf]
    go_wp2_with fail
    go_ret
    exact ⟨rfl, hb1⟩
  | true =>
    obtain ⟨hl40, hs4⟩ := few_yes hf
    have HF := Lib.hid hf
    have HS4 := Lib.hid hs4
    clear hf hs4
    cases hm : mayB n with
    | false =>
      go_enter Try.func7, Try.ntmps7
      go_wp2_with fail
      refine (shown_any _).mono ?_; rintro e w1 ⟨rfl, hb1⟩
      go_wp2_with fail
      refine (few_any A cap ps _ (hP.below hb1) hl HS.out).mono ?_; rintro e w2 ⟨rfl, rfl⟩
      rw [HF.out]
      go_wp2_with fail
      refine (may_any n hn _).mono ?_; rintro e w3 ⟨rfl, hb3⟩
      rw [hm]
      go_wp2_with fail
      go_ret
      exact ⟨rfl, bthen hb1 hb3⟩
    | true =>
      have HM := Lib.hid hm
      clear hm
      go_enter Try.func7, Try.ntmps7
      go_wp2_with fail
      refine (shown_any _).mono ?_; rintro e w1 ⟨rfl, hb1⟩
      go_wp2_with fail
      refine (few_any A cap ps _ (hP.below hb1) hl HS.out).mono ?_; rintro e w2 ⟨rfl, rfl⟩
      rw [HF.out]
      go_wp2_with fail
      refine (may_any n hn _).mono ?_; rintro e w3 ⟨rfl, hb3⟩
      rw [HM.out]
      have hbel3 := bthen hb1 hb3
      have hP3 := hP.below hbel3
      clear hb1 hb3 hP
      go_wp2_with fail
      refine (new_any _).mono ?_; rintro e w4 ⟨rfl, hI4, hb4⟩
      have hSt4 := St.new hI4
      clear hI4
      go_wp2_with fail
      go_loopw [7] (fun i wr => ∃ (k : Nat) (S : List UInt8) (L : Kn), k ≤ ps.length ∧ i = .int .i64 k ∧ St w3.heap.size w3.heap.size S L wr ∧ S.length ≤ 400 * k ∧ Below w3.heap.size w3 wr) (fun i _ => ps.length - (intOf i).toNat)
      case atStart => exact ⟨0, [], [], Nat.zero_le _, rfl, hSt4, by simp, hb4⟩
      case round =>
        obtain ⟨k, S, L, hk, rfl, hSt, hlen, hbel⟩ := hrel
        have hsz4 := hbel.size
        by_cases hlt : k < ps.length
        · obtain ⟨ab, ao, rfl, hb, hc0, hc1⟩ := (hP3.below hbel) k hlt
          have hs4 := HS4.out ps[k] (List.getElem_mem hlt)
          have hP5 : ∀ w5, Below w3.heap.size wr w5 → w5.cell? ⟨ab, ao + k * 2, none⟩ = some (.string ps[k].1) := fun w5 hb5 => by
            obtain ⟨ab', ao', he, _, hc, _⟩ := (hP3.below (hbel.trans hb5)) k hlt
            cases he
            exact hc
          have HP5 := Lib.hid hP5
          clear hP5
          generalize ps[k] = q at *
          obtain ⟨qs, qr⟩ := q
          simp only at hc0 hc1 hs4 HP5
          obtain ⟨X, hX1, hX2, hX3, _⟩ := (stepped hSt.good qs).1.app
          obtain ⟨S2, hS2⟩ : ∃ S2, (stp S L qs).1 = S2 := ⟨_, rfl⟩
          rw [hS2] at hX1
          have hS2l : S2.length = S.length + X.length := by rw [hX1, List.length_append]
          have HS2 := Lib.hid hS2
          clear hS2 hX1
          go_wp2_with fail
          refine (len_any _ _ _ _ _ hSt.is).mono ?_; rintro e w5 ⟨rfl, rfl⟩
          go_wp2_with fail
          refine (name_step _ _ S L qs _ hSt hsz4 (by omega) (by omega)).mono ?_
          rintro e w5 ⟨rfl, hSt5, hb5, _⟩
          rw [HS2.out] at hSt5
          have hc5 := HP5.out w5 hb5
          have hbel5 := hbel.trans hb5
          cases hmq : mayB qs with
          | true =>
            have e1 : stE qs = 0 := by simp [stE, hmq]
            rw [e1]
            have d1 : decide ((S.length : Int) + (qs.size : Int) < (S2.length : Int)) = false := by simp; omega
            have hS2b : S2.length ≤ 400 * (k + 1) := by omega
            clear e1 hX3 hc0 hc1 hSt hmq hS2l
            go_wp2_with fail
            go_quiet ((go_at_call 17; exact len_q _ _ _ _ _ _ hSt5.is))
            go_wp2
            go_roundw
            case rel => exact ⟨k + 1, S2, _, hlt, by go_num, ⟨hSt5.is, hSt5.kn, hSt5.good⟩, by omega, ⟨hbel5.os, hbel5.tape, hbel5.output, hbel5.size, hbel5.block⟩⟩
            case measure => simp [intOf]; omega
          | false =>
            have e1 : stE qs = 1 := by simp [stE, hmq]
            rw [e1]
            have hX0 := hX3 hmq
            subst hX0
            clear e1 hX3 hc0 hc1 hSt hmq
            go_wp2_with fail
            go_quiet ((go_at_call 17; exact len_q _ _ _ _ _ _ hSt5.is))
            go_wp2
            go_roundw
            case rel => exact ⟨k + 1, S2, _, hlt, by go_num, ⟨hSt5.is, hSt5.kn, hSt5.good⟩, by omega, ⟨hbel5.os, hbel5.tape, hbel5.output, hbel5.size, hbel5.block⟩⟩
            case measure => simp [intOf]; omega
        · have hns := (may_name HM.out).size
          obtain ⟨X, hX1, hX2, _, _⟩ := (stepped hSt.good n).1.app
          have hS2l : (stp S L n).1.length = S.length + X.length := by rw [hX1, List.length_append]
          have htw := twice (L := L) HM.out (show S.length < 16384 by omega)
          obtain ⟨S2, hS2⟩ : ∃ S2, (stp S L n).1 = S2 := ⟨_, rfl⟩
          obtain ⟨L2, hL2⟩ : ∃ L2, (stp S L n).2 = L2 := ⟨_, rfl⟩
          rw [hS2, hL2] at htw
          rw [hS2] at hS2l
          obtain ⟨S3, hS3⟩ : ∃ S3, (stp S2 L2 n).1 = S3 := ⟨_, rfl⟩
          rw [hS3] at htw
          have HS2 := Lib.hid (And.intro hS2 (And.intro hL2 hS3))
          clear hS2 hL2 hS3 hX1
          have hne : (ByteArray.mk #[]).toList = [] := by rw [ByteArray.toList_eq]
          go_wp2_with fail
          refine (name_step _ _ S L n _ hSt hsz4 (by omega) (by omega)).mono ?_
          rintro e w5 ⟨rfl, hSt5, hb5, _⟩
          rw [HS2.out.1, HS2.out.2.1] at hSt5
          have hbel5 := hbel.trans hb5
          clear hSt hb5 hbel
          go_wp2_with fail
          refine (len_any _ _ _ _ _ hSt5.is).mono ?_; rintro e w6 ⟨rfl, rfl⟩
          go_wp2_with fail
          refine (name_step _ _ S2 L2 n _ hSt5 hbel5.size (by omega) (by omega)).mono ?_
          rintro e w6 ⟨rfl, hSt6, hb6, _⟩
          rw [HS2.out.2.2] at hSt6
          have hbel6 := hbel5.trans hb6
          clear hSt5 hb6 hbel5
          rcases htw with ⟨t1, t2⟩ | ⟨t1, t2⟩
          all_goals
            go_wp2_with fail
            refine (add_nil _ _).mono ?_; rintro e w7 ⟨rfl, rfl⟩
            go_wp2_with fail
            refine (len_any _ _ _ _ _ hSt6.is).mono ?_; rintro e w7 ⟨rfl, rfl⟩
            go_wp2_with fail
            refine (name_nil _ _).mono ?_; rintro e w7 ⟨rfl, rfl⟩
            go_wp2_with fail
            refine (out_nil _).mono ?_; rintro e w7 ⟨rfl, rfl⟩
            go_wp2_with fail
            refine (len_nil _).mono ?_; rintro e w7 ⟨rfl, rfl⟩
            go_wp2_with fail
            refine (mark_nil _).mono ?_; rintro e w7 ⟨rfl, hb7⟩
            go_wp2_with fail
            refine (close_nil 2 _).mono ?_; rintro e w8 ⟨rfl, rfl⟩
            go_wp2_with fail
            go_ret
            exact ⟨rfl, bthen hbel3 (hbel6.trans (hb7.mono hbel6.size))⟩
end Go.Proofs.Ytcfbcamhbffchaa
