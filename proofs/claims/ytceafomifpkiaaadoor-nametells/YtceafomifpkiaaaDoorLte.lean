/- The walk of derricklaw02.NameTells: it returns true, whatever the arguments. -/
import Derived.Test.YtceafomifpkiaaaDoorRec
import Derived.Test.YtceafomifpkiaaaDoorLjo
namespace Go.Proofs.YtceafomifpkiaaaDoor
open Go.RowKit
set_option linter.unusedVariables false

theorem labsB_size {s : ByteArray} (hs : s.size ≤ 1000) : (labsB s).length ≤ 1000 := by
  unfold labsB
  split
  · rw [List.length_map]
    exact Nat.le_trans (labsFrom_len s s.size 0 (by omega)) hs
  · simp

set_option maxRecDepth 100000 in
set_option maxHeartbeats 4000000 in
theorem tells_walk (n z : ByteArray) (A : Option Addr) (cap : Nat) (ls : List ByteArray) (hn : n.size ≤ 140737488355328) (hz : z.size ≤ 140737488355328) (hl : ls.length ≤ 140737488355328) (w : World) (hS : Strs w A ls) (ht : Tab w) :
    Calls Tryd.prog 3 #[.string n, .string z, .slice A ls.length cap] w fun e w' => e = .returned (.bool true) ∧ Below w.heap.size w w' := by
  go_enter Tryd.func3, Tryd.ntmps3
  go_wp2_with fail
  refine (shown_any _ ht).mono ?_; rintro e w1 ⟨rfl, hB1⟩
  have hS1 := hS.below hB1
  clear hS ht
  by_cases c1 : 1000 < n.size
  · go_wp2_with fail
    go_ret
    exact ⟨rfl, hB1⟩
  by_cases c2 : 1000 < z.size
  · go_wp2_with fail
    go_ret
    exact ⟨rfl, hB1⟩
  go_wp2_with fail
  refine (few_any A cap ls hl _ hS1).mono ?_; rintro e w2 ⟨rfl, rfl⟩
  cases hf : fewB ls with
  | false =>
    clear hf
    go_wp2_with fail
    go_ret
    exact ⟨rfl, hB1⟩
  | true =>
    obtain ⟨hf1, hf2⟩ := fewB_iff.1 hf
    have HF := Lib.hid (fun l hl => Nat.le_trans (hf2 l hl) (show 300 ≤ 1000 by decide))
    have hlz := labsB_size (s := n) (by omega)
    clear hf hf2
    go_wp2_with fail
    refine (labels_any n hn _).mono ?_; rintro e w2 ⟨A1, k1, rfl, hA1, hb2⟩
    have hB2 := bthen hB1 hb2
    have hS2 := hS1.below hb2
    clear hB1 hb2 hS1
    go_wp2_with fail
    refine (ref_labels n (by omega) _).mono ?_; rintro e w3 ⟨A2, k2, rfl, hA2, hb3⟩
    have hB3 := bthen hB2 hb3
    have hS3 := hS2.below hb3
    have hA13 := hA1.below hb3
    clear hB2 hb3 hS2 hA1
    go_wp2_with fail
    refine (join_any A cap ls _ hS3 (by omega)).mono ?_; rintro e w4 ⟨rfl, hb4⟩
    have hB4 := bthen hB3 hb4
    have hS4 := hS3.below hb4
    have hA14 := hA13.below hb4
    have hA24 := hA2.below hb4
    clear hB3 hb4 hS3 hA13 hA2
    go_wp2_with fail
    refine (ref_join A cap ls _ hS4 (by omega) HF.out).mono ?_; rintro e w5 ⟨rfl, hb5⟩
    have hB5 := bthen hB4 hb5
    have hA15 := hA14.below hb5
    have hA25 := hA24.below hb5
    clear hB4 hb5 hS4 hA14 hA24
    go_wp2_with fail
    refine (parent_any n hn _).mono ?_; rintro e w6 ⟨rfl, hb6⟩
    have hB6 := bthen hB5 hb6
    have hA16 := hA15.below hb6
    have hA26 := hA25.below hb6
    clear hB5 hb6 hA15 hA25
    go_wp2_with fail
    refine (ref_parent n (by omega) _).mono ?_; rintro e w7 ⟨rfl, hb7⟩
    have hB7 := bthen hB6 hb7
    have hA17 := hA16.below hb7
    have hA27 := hA26.below hb7
    clear hB6 hb7 hA16 hA26
    go_wp2_with fail
    refine (fold_any n hn _).mono ?_; rintro e w8 ⟨rfl, hb8⟩
    have hB8 := bthen hB7 hb8
    have hA18 := hA17.below hb8
    have hA28 := hA27.below hb8
    clear hB7 hb8 hA17 hA27
    go_wp2_with fail
    refine (ref_fold n (by omega) _).mono ?_; rintro e w9 ⟨rfl, hb9⟩
    have hB9 := bthen hB8 hb9
    have hA19 := hA18.below hb9
    have hA29 := hA28.below hb9
    clear hB8 hb9 hA18 hA28
    go_wp2_with fail
    refine (ref_strings A1 A2 k1 k2 _ (by omega) _ hA19 hA29).mono ?_; rintro e w10 ⟨rfl, hb10⟩
    have hB10 := bthen hB9 hb10
    clear hB9 hb10 hA19 hA29
    go_wp2_with fail
    refine (may_any n hn _).mono ?_; rintro e w11 ⟨rfl, hb11⟩
    have hB11 := bthen hB10 hb11
    clear hB10 hb11
    go_wp2_with fail
    refine (ref_may n (by omega) _).mono ?_; rintro e w12 ⟨rfl, hb12⟩
    have hB12 := bthen hB11 hb12
    clear hB11 hb12
    have q1 : (mayB n == mayB n) = true := by simp
    have q2 : (parB n == parB n) = true := by simp
    have q3 : (underB n z == underB n z) = true := by simp
    go_wp2_with fail
    refine (under_any n z hn hz _).mono ?_; rintro e w13 ⟨rfl, hb13⟩
    have hB13 := bthen hB12 hb13
    clear hB12 hb13
    go_wp2_with fail
    refine (ref_under n z (by omega) (by omega) _).mono ?_; rintro e w14 ⟨rfl, hb14⟩
    have hB14 := bthen hB13 hb14
    clear hB13 hb14
    go_wp2_with fail
    refine (depth_any n hn _).mono ?_; rintro e w15 ⟨rfl, hb15⟩
    have hB15 := bthen hB14 hb15
    clear hB14 hb15
    go_wp2_with fail
    refine (ref_depth n (by omega) _).mono ?_; rintro e w16 ⟨rfl, hb16⟩
    have hB16 := bthen hB15 hb16
    clear hB15 hb16
    go_wp2_with fail
    go_ret
    exact ⟨rfl, hB16⟩
end Go.Proofs.YtceafomifpkiaaaDoor
