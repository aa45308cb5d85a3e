/- The walk of derricklaw03.WireSized: it returns true, whatever the arguments. -/
import Derived.Test.YtcfbcamhbffchaaWcl
import Derived.Deep.RegionHeld
namespace Go.Proofs.Ytcfbcamhbffchaa
open Go.RowKit
set_option linter.unusedVariables false

theorem IsP.al {B b : Nat} {S : List UInt8} {L : Kn} {w : World} (h : IsP B b S L w) (o : Obj) : IsP B b S L (w.alloc o) := h.below ((Below.refl _ _).alloc (Nat.le_refl _) o)
theorem conv_at (W : World) (g : Nat) (a b : UInt8) (hg : W.heap[g]? = some (.cells #[.int .u8 (a.toNat : Int), .int .u8 (b.toNat : Int)] 5 (0, 0))) : (convert 30 9 (.slice (some ⟨g, 0, none⟩) 2 2)).run Try.prog W = .ok (.string ⟨#[a, b]⟩) W := by
  have h := run_convert_bytes_back (P := Try.prog) W 30 9 5 ⟨g, 0, none⟩ 2 [a, b] Try.underlying30 Try.underlying5 Try.underlying9 (fun j hj => by
    have e : (⟨g, 0, none⟩ : Addr).add j = ⟨g, j, none⟩ := by
      unfold Addr.add
      split
      · rename_i h0; simp_all
      · simp
    rw [e, blk_cell hg j]
    have hj' : j = 0 ∨ j = 1 := by simp at hj; omega
    rcases hj' with rfl | rfl <;> rfl)
  exact h
theorem two_zero (W : World) : (convert 30 9 (.slice (some ⟨W.heap.size, 0, none⟩) 2 2)).run Try.prog (W.alloc (.cells #[.int .u8 0, .int .u8 0] 5)) = .ok (.string ⟨#[0, 0]⟩) (W.alloc (.cells #[.int .u8 0, .int .u8 0] 5)) := Oc.conv2 0 0 W
theorem two_len (n : Nat) (h : n ≤ 255) (W : World) : (convert 30 9 (.slice (some ⟨W.heap.size, 0, none⟩) 2 2)).run Try.prog (W.alloc (.cells #[.int .u8 0, .int .u8 (n : Int)] 5)) = .ok (.string ⟨#[0, UInt8.ofNat n]⟩) (W.alloc (.cells #[.int .u8 0, .int .u8 (n : Int)] 5)) := by
  have := Oc.conv2 0 (UInt8.ofNat n) W
  rw [UInt8.toNat_ofNat', Nat.mod_eq_of_lt (by omega)] at this
  exact this

set_option maxRecDepth 100000 in
set_option maxHeartbeats 40000000 in
theorem sized_walk (ahead n : ByteArray) (odd : Int) (ha : ahead.size ≤ maxLen) (hn : n.size ≤ maxLen) (ho : (Lit.int .i64 odd).wf = true) (hn47 : n.size ≤ 140737488355328) (w : World) :
    Calls Try.prog 8 #[.string ahead, .string n, .int .i64 odd] w fun e w' => e = .returned (.bool true) ∧ Below w.heap.size w w' := by
  have ho2 := bounds_i64 ho
  clear ho
  unfold maxLen at ha hn
  by_cases c1 : 1000 < ahead.size
  · go_enter Try.func8, Try.ntmps8
    go_wp2_with fail
    refine (shown_any _).mono ?_; rintro e w1 ⟨rfl, hb1⟩
    go_wp2_with fail
    go_ret
    exact ⟨rfl, hb1⟩
  cases hm : mayB n with
  | false =>
    go_enter Try.func8, Try.ntmps8
    go_wp2_with fail
    refine (shown_any _).mono ?_; rintro e w1 ⟨rfl, hb1⟩
    go_wp2_with fail
    refine (may_any n hn47 _).mono ?_; rintro e w2 ⟨rfl, hb2⟩
    rw [hm]
    go_wp2_with fail
    go_ret
    exact ⟨rfl, bthen hb1 hb2⟩
  | true =>
    have hnn := may_name hm
    have hns := hnn.size
    have hput : (stp (ahead.data.toList ++ [0, 0]) [] n).1 = ahead.data.toList ++ [0, 0] ++ n.data.toList := by
      unfold stp
      rw [if_pos hm, put_fresh (labs n) _ [] (fun p hp => by cases hp), ← hnn.eq]
    have hclo : clo (ahead.data.toList ++ [0, 0] ++ n.data.toList) ahead.size = ahead.data.toList ++ [0, UInt8.ofNat n.size] ++ n.data.toList := by
      have := clo_named ahead.data.toList n.data.toList (by rw [ba_len]; exact hns)
      rw [ba_len, ba_len] at this
      exact this
    have hout : (⟨(ahead.data.toList ++ [0, UInt8.ofNat n.size] ++ n.data.toList).toArray⟩ : ByteArray) = ahead ++ ⟨#[0, UInt8.ofNat n.size]⟩ ++ n := by
      apply ba_ext
      simp
    have HPut := Lib.hid hput
    have HClo := Lib.hid hclo
    have HOut := Lib.hid hout
    have HM := Lib.hid hm
    clear hput hclo hout hm hnn
    go_enter Try.func8, Try.ntmps8
    go_wp2_with fail
    refine (shown_any _).mono ?_; rintro e w1 ⟨rfl, hb1⟩
    go_wp2_with fail
    refine (may_any n hn47 _).mono ?_; rintro e w2 ⟨rfl, hb2⟩
    rw [HM.out]
    have hbel2 := bthen hb1 hb2
    clear hb1 hb2
    go_wp2_with fail
    refine (new_any _).mono ?_; rintro e w3 ⟨rfl, hI3, hb3⟩
    have hSt3 := St.new hI3
    clear hI3
    go_wp2_with fail
    refine (add_step _ _ [] [] ahead _ hSt3 (by simp; omega) hb3.size).mono ?_; rintro e w4 ⟨rfl, hSt4, hb4, _⟩
    rw [List.nil_append] at hSt4
    have hbel4 := hb3.trans hb4
    clear hSt3 hb3 hb4
    go_wp2_with fail
    refine (mark_any _ _ _ _ _ hSt4 hbel4.size (by rw [ba_len]; omega)).mono ?_; rintro e w5 ⟨rfl, hSt5, hb5⟩
    have hbel5 := hbel4.trans hb5
    rw [ba_len]
    clear hSt4 hbel4 hb5
    go_wp2_with fail
    refine (name_step _ _ _ _ n _ hSt5 hbel5.size (by simp; omega) hn47).mono ?_; rintro e w6 ⟨rfl, hSt6, hb6, _⟩
    have hI6 := hSt6.is
    rw [HPut.out] at hI6
    have hbel6 := hbel5.trans hb6
    clear hSt5 hSt6 hbel5 hb6
    go_wp2_with fail
    refine (close_yes _ _ _ _ ahead.size _ hI6 hbel6.size (by simp; omega) (by simp)).mono ?_; rintro e w7 ⟨rfl, hI7, hb7⟩
    rw [HClo.out] at hI7
    have hbel7 := hbel6.trans hb7
    clear hI6 hbel6 hb7
    go_wp2_with fail
    refine (out_any _ _ _ _ _ hI7).mono ?_; rintro e w8 ⟨rfl, rfl⟩
    rw [HOut.out]
    clear hI7
    go_wp2_with fail
    refine (new_any _).mono ?_; rintro e w8 ⟨rfl, hI8, hb8⟩
    have hSt8 := St.new hI8
    clear hI8
    go_wp2_with fail
    refine (mark_any _ _ _ _ _ hSt8 hb8.size (by simp)).mono ?_; rintro e w9 ⟨rfl, hSt9, hb9⟩
    have hb89 := hb8.trans hb9
    have hI9 := hSt9.is
    clear hSt8 hSt9 hb8 hb9
    go_wp2_with fail
    have hcl := close_yes _ _ _ _ 0 _ hI9 hb89.size (by simp) (by simp)
    rw [show (([] : List UInt8) ++ [0, 0]) = [0, 0] from rfl, clo_zero] at hcl
    refine hcl.mono ?_; rintro e w10 ⟨rfl, hI10, hb10⟩
    have hb810 := hb89.trans hb10
    clear hI9 hb89 hb10 hcl
    have hst : ∃ g : Int, (g = 0 ∧ odd = 2 ∨ g = 1 ∧ odd ≠ 2) ∧ Calls Try.prog 23 #[.pointer (some ⟨w7.heap.size, 0, none⟩), .int .i64 odd] w10 fun e w' => e = .returned (.int .i64 g) ∧ IsP w7.heap.size w7.heap.size [0, 0] [] w' ∧ Below w7.heap.size w10 w' := by
      by_cases h2 : odd = 2
      · subst h2
        refine ⟨0, .inl ⟨rfl, rfl⟩, ?_⟩
        have hcl := close_yes _ _ _ _ 0 _ hI10 hb810.size (by simp) (by simp)
        rw [clo_zero] at hcl
        exact hcl
      · refine ⟨1, .inr ⟨rfl, h2⟩, ?_⟩
        refine (close_no _ _ _ _ odd _ hI10 (by simp) (by simp; omega)).mono ?_
        rintro e w' ⟨rfl, rfl⟩
        exact ⟨rfl, hI10, Below.refl _ _⟩
    obtain ⟨g, hg, hst⟩ := hst
    have HG := Lib.hid hg
    have hst' := hst
    clear hst hg hI10
    go_wp2_with fail
    refine hst'.mono ?_; rintro e w11 ⟨rfl, hI11, hb11⟩
    have hb811 := hb810.trans hb11
    have hfin : Below w.heap.size w w11 := bthen hbel2 (hbel7.trans (hb811.mono hbel7.size))
    clear hbel2 hbel7 hb810 hb811 hst' hb11
    obtain ⟨X, hX⟩ : ∃ X : ByteArray, ⟨#[0, UInt8.ofNat n.size]⟩ = X := ⟨_, rfl⟩
    have hXs : X.size = 2 := by rw [← hX]; rfl
    have hw8 : IntKind.u8.wrap (n.size : Int) = (n.size : Int) := IntWalk.u8_in _ (by omega)
    have hcl : (convert 30 9 (.slice (some ⟨w11.heap.size, 0, none⟩) 2 2)).run Try.prog (w11.alloc (.cells #[.int .u8 0, .int .u8 (n.size : Int)] 5)).drew = .ok (.string ⟨#[0, UInt8.ofNat n.size]⟩) (w11.alloc (.cells #[.int .u8 0, .int .u8 (n.size : Int)] 5)).drew := by
      refine conv_at _ _ 0 (UInt8.ofNat n.size) ?_
      rw [UInt8.toNat_ofNat', Nat.mod_eq_of_lt (by omega)]
      exact heap_alloc_new w11 _
    have hcz : (convert 30 9 (.slice (some ⟨w11.heap.size + 1, 0, none⟩) 2 2)).run Try.prog ((w11.alloc (.cells #[.int .u8 0, .int .u8 (n.size : Int)] 5)).alloc (.cells #[.int .u8 0, .int .u8 0] 5)).drew = .ok (.string ⟨#[0, 0]⟩) ((w11.alloc (.cells #[.int .u8 0, .int .u8 (n.size : Int)] 5)).alloc (.cells #[.int .u8 0, .int .u8 0] 5)).drew := conv_at _ _ 0 0 (heap_alloc2_new w11 _ _)
    rw [hX] at hcl ⊢
    have q1 : ¬ 9223372036854775807 < ahead.size + 2 := by omega
    have q2 : ¬ 9223372036854775807 < ahead.size + 2 + n.size := by omega
    have hss : ((ahead ++ X ++ n).toList == (ahead ++ X ++ n).toList) = true := by simp
    have HFin := Lib.hid hfin
    have HI11 := Lib.hid hI11
    have ha2 : ahead.size ≤ 1000 := by omega
    have q0 : (((ahead.size + 2 : Nat) : Int) == (ahead.size : Int) + 2) = true := by simp
    have q3 : IntKind.i64.wrap ((ahead.size : Int) + 2) = (ahead.size : Int) + 2 := IntWalk.i64_in _ (by omega)
    clear hI11 hX hfin HPut HClo HOut HM ha hn hn47 c1
    rcases HG.out with ⟨rfl, rfl⟩ | ⟨rfl, h2⟩
    · go_wp2_with fail
      go_region_held (fun w' => IsP w7.heap.size w7.heap.size [0, 0] [] w') (first | exact HI11.out | exact IsP.al (by assumption) _ | assumption)
        (first | (go_at_call 18; refine (out_any _ _ _ _ _ (by assumption)).mono ?_; rintro e w12 ⟨rfl, rfl⟩))
      all_goals
        go_wp2_with fail
        go_ret
        exact ⟨rfl, ((HFin.out.alloc HFin.out.size _).alloc (by have := HFin.out.size; simp; omega) _).drew⟩
    · have q5 : (odd == 2) = false := by simpa using h2
      clear h2
      go_wp2_with fail
      go_region_held (fun w' => IsP w7.heap.size w7.heap.size [0, 0] [] w') (first | exact HI11.out | exact IsP.al (by assumption) _ | assumption)
        (first | (go_at_call 18; refine (out_any _ _ _ _ _ (by assumption)).mono ?_; rintro e w12 ⟨rfl, rfl⟩))
      all_goals
        go_wp2_with fail
        go_ret
        exact ⟨rfl, ((HFin.out.alloc HFin.out.size _).alloc (by have := HFin.out.size; simp; omega) _).drew⟩
end Go.Proofs.Ytcfbcamhbffchaa
