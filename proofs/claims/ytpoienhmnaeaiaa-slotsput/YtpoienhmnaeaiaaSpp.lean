/- The law SlotsPut: its walk. -/
import Derived.Test.YtpoienhmnaeaiaaSoq
namespace Go.Proofs.Ytpoienhmnaeaiaa
open Go.RowKit
set_option linter.unusedVariables false

theorem first_is {c : List Ce} {i : Nat} (h : firstC c = some i) : i < c.length ∧ us c i = false ∧ ∀ j, j < i → us c j = true := by
  unfold firstC at h
  rw [List.findIdx?_eq_some_iff_getElem] at h
  obtain ⟨h1, h2, h3⟩ := h
  refine ⟨h1, by rw [us_get h1]; simpa using h2, fun j hj => ?_⟩
  have := h3 j hj
  rw [us_get (by omega)]
  simpa using this
theorem first_no {c : List Ce} (h : firstC c = none) : ∀ j, j < c.length → us c j = true := fun j hj => by
  unfold firstC at h
  rw [List.findIdx?_eq_none_iff] at h
  have := h c[j] (List.getElem_mem hj)
  rw [us_get hj]
  simpa using this
theorem all_full {M : Ms} (h : firstC M.c = none) : (allM M).length = M.c.length := by
  have h2 := first_no h
  have h3 : ((List.range M.c.length).filter (us M.c)).length = (List.range M.c.length).length := by
    rw [List.length_filter_eq_length_iff]
    exact fun j hj => h2 j (List.mem_range.1 hj)
  rw [List.length_range] at h3
  exact h3
theorem us_set (c : List Ce) (i j : Nat) (e : Ce) (hi : i < c.length) : us (c.set i e) j = if i = j then e.u else us c j := by
  unfold us
  rw [getD_set _ _ _ _ hi]
  split <;> rfl
theorem allC_more {c : List Ce} {i : Nat} (e : Ce) (hi : i < c.length) (h0 : us c i = false) (he : e.u = true) : ∀ k, (allC (c.set i e) k).length = (allC c k).length + if i < k then 1 else 0
  | 0 => by simp [allC]
  | k + 1 => by
    rw [allC_succ, allC_succ, us_set c i k e hi]
    have ih := allC_more e hi h0 he k
    by_cases h : i = k
    · subst h
      rw [if_pos rfl, he, h0]
      rw [if_neg (by omega)] at ih
      simp only [if_true, List.length_append, List.length_cons, List.length_nil, Bool.false_eq_true, if_false]
      rw [if_pos (by omega)]
      omega
    · rw [if_neg h]
      cases hu : us c k with
      | true =>
        simp only [if_true, List.length_append, ih, List.length_cons, List.length_nil]
        split <;> split <;> omega
      | false =>
        simp only [Bool.false_eq_true, if_false, ih]
        split <;> split <;> omega
/-- What putting, and freeing again, makes of the slots. -/
structure Pf (M M1 M2 : Ms) (x : ByteArray) (i : Nat) : Prop where
  put : putM M x = (M1, (i : Int), 0)
  get1 : getM M1 i = (x, true)
  has1 : hasM M1 i = true
  fre1 : freM M1 i = M2
  len1 : (allM M1).length = (allM M).length + 1
  get2 : getM M2 i = (⟨#[]⟩, false)
  has2 : hasM M2 i = false
  fre2 : freM M2 i = M2
  put2 : putM M2 x = (M1, (i : Int), 0)
  all2 : allM M2 = allM M
theorem pf_of {M : Ms} (x : ByteArray) {i : Nat} (h : firstC M.c = some i) : ∃ M1 M2, Pf M M1 M2 x i := by
  obtain ⟨h1, h2, h3⟩ := first_is h
  have u1 : ∀ j, us (M.c.set i ⟨x, true, false⟩) j = if i = j then true else us M.c j := fun j => us_set _ _ _ _ h1
  have u2 : ∀ j, us (M.c.set i Z0) j = us M.c j := fun j => by
    rw [us_set _ _ _ _ h1]
    split
    · subst_vars; exact h2.symm
    · rfl
  have hh1 : hasM ⟨M.c.set i ⟨x, true, false⟩, M.h⟩ i = true := by
    rw [has_nat (by simpa using h1), u1, if_pos rfl]
  have hh2 : hasM ⟨M.c.set i Z0, M.h⟩ i = false := by
    rw [has_nat (by simpa using h1), u2, h2]
  refine ⟨⟨M.c.set i ⟨x, true, false⟩, M.h⟩, ⟨M.c.set i Z0, M.h⟩, ?_, ?_, hh1, ?_, ?_, ?_, hh2, ?_, ?_, ?_⟩
  · unfold putM; rw [h]
  · unfold getM; rw [hh1]; simp [atM, h1]
  · unfold freM; rw [hh1]; simp [upd]
  · unfold allM
    simp only [List.length_set]
    rw [allC_more _ h1 h2 rfl, if_pos h1]
  · unfold getM; rw [hh2]; rfl
  · unfold freM; rw [hh2]; rfl
  · unfold putM
    rw [first_some (j := i) (by simpa using h1) (by rw [u2]; exact h2) (fun j hj => by rw [u2]; exact h3 j hj)]
    simp
  · unfold allM
    simp only [List.length_set]
    exact allC_congr u2 _

set_option maxRecDepth 100000 in
set_option maxHeartbeats 4000000 in
theorem put_walk (A : Option Addr) (cap : Nat) (l : List De) (x : ByteArray) (hx : x.size ≤ 140737488355328) (w : World) (hA : Ds w A cap l) : Calls Try.prog 6 #[.slice A l.length cap, .string x] w fun e w' => e = .returned (.bool true) ∧ Below w.heap.size w w' := by
  clear hx
  have HC0 := Lib.hid (shown_any w)
  have HA := Lib.hid hA
  clear hA
  go_enter Try.func6, Try.ntmps6
  go_upto_region 3 with (first
    | (go_at_call 18; with_reducible (refine HC1.out.mono ?_); rintro e w1 ⟨g, b, M, rfl, hs1, hM, hb, hb1⟩)
    | (go_at_call 9; with_reducible (refine HC0.out.mono ?_); rintro e w0 ⟨rfl, hb0⟩; have HB0 := Lib.hid hb0; have HC1 := Lib.hid (ran_any A cap l w0 (HA.out.below hb0)); clear hb0))
  have G1 := go1_of HB0.out hs1 hb hb1
  clear HC0 HC1 hs1 hb hb1 HB0 HA
  obtain ⟨L, hL⟩ : ∃ L, allM M = L := ⟨_, rfl⟩
  have h08 : L.length ≤ 8 := by rw [← hL, ← hM]; exact allC_le _ _
  have HG := Lib.hid G1
  have hal := all_fresh G1.sp
  rw [hL] at hal
  have HAL := Lib.hid hal
  clear G1 hal
  go_upto_region 4 with (go_at_call 15; with_reducible (refine HAL.out.mono ?_); rintro e w2 ⟨A', cap', rfl, hns, hb2, hfr⟩)
  have hag : ∀ p, A' = some p → g < p.block := fun p hp => Nat.lt_of_lt_of_le HG.out.sp.bg.lt (hfr p hp)
  have HAG := Lib.hid hag
  have HG2 := Lib.hid (And.intro (HG.out.bel hb2) hns)
  clear hb2 hns hfr hag HG HAL
  have hpu := put_any x HG2.out.1.sp
  cases hf : firstC M.c with
  | none =>
    have hp : putM M x = (M, 0, 5) := by unfold putM; rw [hf]
    have hl8 : L.length = 8 := by rw [← hL, all_full hf, hM]
    rw [hp] at hpu
    have HPU := Lib.hid hpu
    clear hp hpu hf hL hM h08
    rw [hl8]
    go_wp2_with (go_at_call 21; with_reducible (refine HPU.out.mono ?_); rintro e w3 ⟨rfl, hs3, hf3⟩; have HG3 := Lib.hid (HG2.out.1.fp hs3 hf3); clear hs3 hf3)
    go_ret
    exact ⟨rfl, HG3.out.bl⟩
  | some i =>
    obtain ⟨M1, M2, hpf⟩ := pf_of x hf
    obtain ⟨f1, f2, _⟩ := first_is hf
    rw [hpf.put] at hpu
    have HPU := Lib.hid hpu
    have HPF := Lib.hid hpf
    have hnot : ∀ j ∈ L, j ≠ i := fun j hj e => by
      rw [← hL] at hj
      have := (all_mem.1 hj).2
      rw [e, f2] at this
      cases this
    have HNOT := Lib.hid hnot
    have hi8 : i < 8 := by rw [← hM]; exact f1
    have HLL := Lib.hid hL
    clear hpu hpf hf hL hM hnot f1 f2
    go_upto_region 7 with (go_at_call 21; with_reducible (refine HPU.out.mono ?_); rintro e w3 ⟨rfl, hs3, hf3⟩)
    have HG3 := Lib.hid (And.intro (HG2.out.1.fp hs3 hf3) (HG2.out.2.fp hf3 HAG.out))
    clear hs3 hf3 HPU HG2
    go_wp2_with fail
    go_loopw [10] (fun v wr => ∃ k : Nat, v = .int .i64 k ∧ k ≤ L.length ∧ wr = w3) (fun v _ => L.length - (intOf v).toNat)
    case atStart => exact ⟨0, rfl, Nat.zero_le _, rfl⟩
    case round =>
      obtain ⟨k, rfl, hk, rfl⟩ := hrel
      by_cases hlt : k < L.length
      · have d1 : decide ((k : Int) < (L.length : Nat)) = true := by simp; omega
        obtain ⟨ab, off, rfl, c0⟩ := HG3.out.2 k hlt
        have hne := HNOT.out L[k] (List.getElem_mem hlt)
        generalize L[k] = y at *
        have e1 : decide ((y : Int) = (i : Nat)) = false := by simp; omega
        have e2 : ((y : Int) == (i : Nat)) = false := by simp; omega
        have s2 : (0 : Int) ≤ (k : Nat) := by omega
        have s3 : (k : Int) < (L.length : Nat) := by omega
        clear hne
        go_wp2_with fail
        go_roundw
        case rel => exact ⟨k + 1, by go_num, hlt, by trivial⟩
        case measure => simp [intOf]; omega
      · obtain rfl : k = L.length := by omega
        have d1 : decide ((L.length : Int) < (L.length : Nat)) = false := by simp
        have hg1 := fun W hs => get_any (i : Int) (w := W) (g := g) (b := b) (M := M1) hs
        have hl1 := fun W hs => len_any (w := W) (g := g) (b := b) (M := M1) hs
        have hfr1 := fun W hs => free_any (i : Int) (w := W) (g := g) (b := b) (M := M1) hs
        have hg2 := fun W hs => get_any (i : Int) (w := W) (g := g) (b := b) (M := M2) hs
        have hfr2 := fun W hs => free_any (i : Int) (w := W) (g := g) (b := b) (M := M2) hs
        have hpu2 := fun W hs => put_any x (w := W) (g := g) (b := b) (M := M2) hs
        have hal2 := fun W hs => all_any (w := W) (g := g) (b := b) (M := M2) hs
        rw [HPF.out.get1] at hg1
        rw [HPF.out.len1, HLL.out] at hl1
        rw [HPF.out.has1, HPF.out.fre1] at hfr1
        rw [HPF.out.get2] at hg2
        rw [HPF.out.has2, HPF.out.fre2] at hfr2
        rw [HPF.out.put2] at hpu2
        rw [HPF.out.all2, HLL.out] at hal2
        have HK1 := Lib.hid hg1
        have HK2 := Lib.hid hl1
        have HK3 := Lib.hid hfr1
        have HK4 := Lib.hid hg2
        have HK5 := Lib.hid hfr2
        have HK6 := Lib.hid hpu2
        have HK7 := Lib.hid hal2
        have HIY := Lib.hid (fun B cb W h1 h2 => ints_yes B cb A' cap' L (by omega) W h1 h2)
        clear hg1 hl1 hfr1 hg2 hfr2 hpu2 hal2 HPF HLL HNOT
        have d2 : decide (((L.length + 1 : Nat) : Int) = (L.length : Int) + 1) = true := by simp
        have d3 : (((L.length + 1 : Nat) : Int) == (L.length : Int) + 1) = true := by simp
        go_wp2_with (first
          | (go_at_call 14; with_reducible (refine (HIY.out _ _ _ HN12.out HG12.out.2).mono ?_); rintro e w13 ⟨rfl, hb13⟩; have HG13 := Lib.hid (HG12.out.1.bel hb13); clear hb13)
          | (go_at_call 15; with_reducible (refine (HK7.out _ HG11.out.1.sp).mono ?_); rintro e w12 ⟨B', cb', rfl, hn12, hb12⟩; have HN12 := Lib.hid hn12; have HG12 := Lib.hid (And.intro (HG11.out.1.bel hb12) (HG11.out.2.below hb12)); clear hn12 hb12)
          | (go_at_call 23; with_reducible (refine (HK3.out _ HG10.out.1.sp).mono ?_); rintro e w11 ⟨rfl, hs11, hf11⟩; have HG11 := Lib.hid (And.intro (HG10.out.1.fp hs11 hf11) (HG10.out.2.fp hf11 HAG.out)); clear hs11 hf11)
          | (go_at_call 21; with_reducible (refine (HK6.out _ HG9.out.1.sp).mono ?_); rintro e w10 ⟨rfl, hs10, hf10⟩; have HG10 := Lib.hid (And.intro (HG9.out.1.fp hs10 hf10) (HG9.out.2.fp hf10 HAG.out)); clear hs10 hf10)
          | (go_at_call 23; with_reducible (refine (HK5.out _ HG8.out.1.sp).mono ?_); rintro e w9 ⟨rfl, hs9, hf9⟩; have HG9 := Lib.hid (And.intro (HG8.out.1.fp hs9 hf9) (HG8.out.2.fp hf9 HAG.out)); clear hs9 hf9)
          | (go_at_call 22; with_reducible (refine (HK4.out _ HG7.out.1.sp).mono ?_); rintro e w8 ⟨rfl, hb8⟩; have HG8 := Lib.hid (And.intro (HG7.out.1.bel hb8) (HG7.out.2.below hb8)); clear hb8)
          | (go_at_call 23; with_reducible (refine (HK3.out _ HG6.out.1.sp).mono ?_); rintro e w7 ⟨rfl, hs7, hf7⟩; have HG7 := Lib.hid (And.intro (HG6.out.1.fp hs7 hf7) (HG6.out.2.fp hf7 HAG.out)); clear hs7 hf7)
          | (go_at_call 11; with_reducible (refine (HK2.out _ HG5.out.1.sp).mono ?_); rintro e w6 ⟨rfl, hb6⟩; have HG6 := Lib.hid (And.intro (HG5.out.1.bel hb6) (HG5.out.2.below hb6)); clear hb6)
          | (go_at_call 22; with_reducible (refine (HK1.out _ HG3.out.1.sp).mono ?_); rintro e w5 ⟨rfl, hb5⟩; have HG5 := Lib.hid (And.intro (HG3.out.1.bel hb5) (HG3.out.2.below hb5)); clear hb5))
        go_ret
        exact ⟨rfl, HG13.out.bl⟩
end Go.Proofs.Ytpoienhmnaeaiaa
