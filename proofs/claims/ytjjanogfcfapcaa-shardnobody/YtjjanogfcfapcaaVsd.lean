/- The contracts of the program's slots of entries: Touch, Free, step, All, Len, New. -/
import Derived.Test.YtjjanogfcfapcaaVsc
import Derived.Deep.LoopGhost
namespace Go.Proofs.Ytjjanogfcfapcaa
open Go.RowKit
set_option linter.unusedVariables false

set_option maxHeartbeats 1000000 in
theorem touch_k {k : Nat} {w : World} {g b : Nat} {M : Ms Ev} (h : Sp w g b M) (hk : k < M.c.length) (hu : us M.c k = true) :
    Calls Try.prog 43 #[.pointer (some ⟨g, 0, none⟩), .int .i64 (k : Nat)] w fun e w' => e = .returned (.bool true) ∧ Sp w' g b ⟨M.c.set k ⟨(M.c.getD k Z0).x, true, true⟩, M.h⟩ ∧ Fp g b w w' := by
  have HC := Lib.hid (has_any k h)
  rw [has_nat hk, hu] at HC
  have c0 := h.c0
  have e2 := h.e2 hk
  have f0 := h.bb.frozen (k * 9 + 8)
  have s0 : (0 : Int) ≤ (k : Nat) := by omega
  have s1 : (k : Int) < M.c.length := by omega
  have h2 := h.ok.n64
  have hp := cf_tou (M.c.getD k Z0) true
  rw [show (M.c.getD k Z0).u = true from hu] at hp
  have HF := Lib.hid (h.one hk ⟨(M.c.getD k Z0).x, true, true⟩ 8 (.bool true) (by omega) hp)
  clear hp
  generalize (⟨M.c.set k ⟨(M.c.getD k Z0).x, true, true⟩, M.h⟩ : Ms Ev) = M' at *
  generalize ts M.c k = y at *
  generalize M.c.length = n at *
  clear h hu
  go_enter Try.func43, Try.ntmps43
  go_wp2_with (go_at_call 50; (with_reducible (refine HC.out.mono ?_)); rintro e w1 ⟨rfl, rfl⟩)
  go_ret
  exact ⟨rfl, HF.out⟩
set_option maxRecDepth 100000 in
set_option maxHeartbeats 1000000 in
theorem free_k {k : Nat} {w : World} {g b : Nat} {M : Ms Ev} (h : Sp w g b M) (hk : k < M.c.length) (hu : us M.c k = true) :
    Calls Try.prog 55 #[.pointer (some ⟨g, 0, none⟩), .int .i64 (k : Nat)] w fun e w' => e = .returned (.bool true) ∧ Sp w' g b ⟨M.c.set k Z0, M.h⟩ ∧ Fp g b w w' := by
  have HC := Lib.hid (has_any k h)
  rw [has_nat hk, hu] at HC
  have c0 := h.c0
  have s0 : (0 : Int) ≤ (k : Nat) := by omega
  have s1 : (k : Int) < M.c.length := by omega
  have h2 := h.ok.n64
  have HF := Lib.hid (h.part hk Z0 0 (cf Z0) (by rw [cf_len1]; omega) (cf_all Z0 _))
  have HT := Lib.hid (h.th hk 0 9 (by omega))
  generalize (⟨M.c.set k Z0, M.h⟩ : Ms Ev) = M' at *
  generalize M.c.length = n at *
  clear h hu
  go_enter Try.func55, Try.ntmps55
  go_wp2_with (first | (refine wpList_store_mid rfl 108 _ _ rfl b (k * 9) (cf Z0).toArray rfl rfl HT.out infoS (cf_one Z0) ?_) | (go_at_call 50; (with_reducible (refine HC.out.mono ?_)); rintro e w1 ⟨rfl, rfl⟩))
  go_ret
  exact ⟨rfl, HF.out⟩

theorem nx_int (M : Ms Ev) (h : M.Ok) : (((M.h : Nat) : Int) + 1).tmod (M.c.length : Nat) = (nx M : Nat) := by
  unfold nx
  rw [show ((M.h : Nat) : Int) + 1 = ((M.h + 1 : Nat) : Int) by simp]
  rw [Int.tmod_eq_emod_of_nonneg (by omega)]
  rfl
set_option maxHeartbeats 1000000 in
theorem step_any {w : World} {g b : Nat} {M : Ms Ev} (h : Sp w g b M) : Calls Try.prog 62 #[.pointer (some ⟨g, 0, none⟩)] w fun e w' => e = .returned (.int .i64 (M.h : Nat)) ∧ w' = w.setCell ⟨g, 1, none⟩ (.int .i64 (nx M : Nat)) := by
  have HC := Lib.hid (cap_any h)
  have c1 := h.c1
  have f1 := h.bg.frozen 1
  have hm := nx_int M h.ok
  have h1 := h.ok.n1
  have h2 := h.ok.n64
  have h3 := h.ok.hn
  generalize nx M = q at *
  generalize M.c.length = n at *
  generalize M.h = hh at *
  have n0 : ((n : Int) == 0) = false := by simp; omega
  have n1 : ¬ (n : Int) = 0 := by omega
  clear h
  go_enter Try.func62, Try.ntmps62
  go_wp2_with (go_at_call 34; with_reducible (refine HC.out.mono ?_); rintro e w1 ⟨rfl, rfl⟩)
  go_ret
  exact ⟨rfl, rfl⟩
def vals (l : List Nat) : List Value := l.map fun i => Value.int .i64 (i : Nat)
theorem vals_len (l : List Nat) : (vals l).length = l.length := by simp [vals]
theorem vals_snoc (l : List Nat) (j : Nat) : vals (l ++ [j]) = vals l ++ [Value.int .i64 (j : Nat)] := by simp [vals]
theorem ns_own {w : World} {B : Nat} {A : Option Addr} {cap : Nat} {l : List Nat} (h : w.ownsRow B 3 1 (.slice A l.length cap) l.length (vals l)) : Ns .i64 w A l := fun j hj => by
  obtain ⟨g, rfl, hg⟩ := own_block h (by omega)
  refine ⟨g, 0, rfl, ?_⟩
  rw [Nat.zero_add, h.cellAt _ (by omega)]
  simp [vals, hj]
theorem allC_succ (c : List (Ce Ev)) (j : Nat) : allC c (j + 1) = if us c j then allC c j ++ [j] else allC c j := by
  unfold allC
  rw [List.range_succ, List.filter_append]
  cases h : us c j <;> simp [h]
theorem allC_le (c : List (Ce Ev)) (j : Nat) : (allC c j).length ≤ j := by
  have := List.length_filter_le (us c) (List.range j)
  rw [List.length_range] at this
  exact this

set_option maxRecDepth 100000 in
set_option maxHeartbeats 1000000 in
theorem all_any {w : World} {g b : Nat} {M : Ms Ev} (h : Sp w g b M) : Calls Try.prog 32 #[.pointer (some ⟨g, 0, none⟩)] w fun e w' => ∃ A cap, e = .returned (.slice A (allM M).length cap) ∧ Ns .i64 w' A (allM M) ∧ Below w.heap.size w w' := by
  obtain ⟨i0, hi, hz0, hz1, hz2⟩ := el_of elI
  have HC := Lib.hid (cap_any h)
  have HS := Lib.hid h
  have h64 := h.ok.n64
  unfold allM
  clear h
  generalize hn : M.c.length = n at *
  have HN := Lib.hid hn
  clear hn
  go_enter Try.func32, Try.ntmps32
  go_wp2_with (go_at_call 34; with_reducible (refine HC.out.mono ?_); rintro e w1 ⟨rfl, rfl⟩)
  go_loopw [3, 4, 7] (fun v _ x wr => ∃ j : Nat, j ≤ n ∧ x = .int .i64 j ∧ wr.ownsRow w1.heap.size 3 1 v (allC M.c j).length (vals (allC M.c j)) ∧ Below w1.heap.size w1 wr) (fun _ _ x _ => n - (intOf x).toNat)
  case atStart => exact ⟨0, Nat.zero_le _, rfl, World.ownsRow_nil _ _ _ _, Below.refl _ _⟩
  case round =>
    obtain ⟨j, hj, rfl, hown, hbel⟩ := hrel
    obtain ⟨Av, cv, rfl⟩ := ownR_form hown
    by_cases hlt : j < n
    · have d1 : decide ((j : Int) < n) = true := by simp; omega
      have hS := HS.out.keep hbel
      have hjn : j < M.c.length := by rw [HN.out]; exact hlt
      have c0 := hS.c0
      have e1 := hS.e1 hjn
      rw [HN.out] at c0
      have s0 : (0 : Int) ≤ (j : Nat) := by omega
      have s1 : (j : Int) < (n : Nat) := by omega
      have hle := allC_le M.c j
      cases hu : us M.c j with
      | false =>
        rw [hu] at e1
        have ht2 : allC M.c (j + 1) = allC M.c j := by rw [allC_succ, hu]; rfl
        have HT2 := Lib.hid ht2
        have HO := Lib.hid (And.intro hown hbel)
        clear hown hbel hS hu ht2
        go_wp2_with fail
        go_roundw
        case rel => exact ⟨j + 1, hlt, by go_num, by rw [HT2.out]; exact HO.out.1, HO.out.2⟩
        case measure => simp [intOf]; omega
      | true =>
        rw [hu] at e1
        have ht2 : allC M.c (j + 1) = allC M.c j ++ [j] := by rw [allC_succ, hu]; rfl
        have HT2 := Lib.hid ht2
        have ho3 := hown.alloc (Obj.cells #[.int .i64 (j : Nat)] 3)
        have hb3 := hbel.alloc hbel.size (Obj.cells #[.int .i64 (j : Nat)] 3)
        have HO3 := Lib.hid ho3
        have HB3 := Lib.hid hb3
        have HV := Lib.hid (vals_snoc (allC M.c j) j)
        clear hown hbel hS hu ho3 hb3 ht2
        generalize allC M.c j = l at *
        go_wp2_with (at_builtin; (refine wpList_append_own _ rfl _ _ 79 rfl w1.heap.size 3 i0 (.int .i64 0) 1 8 Try.underlying79 hi hz0 hz1 hz2 rfl (by decide) _ _ _ rfl HO3.out ⟨wr.heap.size, 0, none⟩ 1 1 [Value.int .i64 (j : Nat)] rfl rfl (newI wr j) ?q3 ?q4 ?q5 HB3.out.size ?_))
        case q3 => intro u hu; simp at hu; subst hu; rfl
        case q4 => unfold maxLen; omega
        case q5 => omega
        intro v' w3 hown2 hgrow hnil
        have hb4 := HB3.out.grown hgrow HB3.out.size (fun k hk => (HO3.out.lt k hk).1)
        rw [← HV.out, show l.length + 1 = (l ++ [j]).length by simp, ← HT2.out] at hown2
        have HF := Lib.hid (And.intro hown2 hb4)
        clear hown2 hgrow hnil hb4
        go_wp2_with fail
        go_roundw
        case rel => exact ⟨j + 1, hlt, by go_num, HF.out.1, HF.out.2⟩
        case measure => simp [intOf]; omega
    · obtain rfl : j = n := by omega
      have d1 : decide ((j : Int) < j) = false := by simp
      have HF := Lib.hid (And.intro (ns_own hown) hbel)
      clear hown hbel
      go_wp2_with fail
      go_ret
      exact ⟨Av, cv, rfl, HF.out.1, HF.out.2⟩

set_option maxHeartbeats 1000000 in
theorem len_any {w : World} {g b : Nat} {M : Ms Ev} (h : Sp w g b M) : Calls Try.prog 61 #[.pointer (some ⟨g, 0, none⟩)] w fun e w' => e = .returned (.int .i64 ((allM M).length : Nat)) ∧ Below w.heap.size w w' := by
  have HC := Lib.hid (all_any h)
  clear h
  generalize allM M = l at *
  generalize hn : l.length = n at *
  clear hn
  go_enter Try.func61, Try.ntmps61
  go_wp2_with (go_at_call 32; with_reducible (refine HC.out.mono ?_); rintro e w1 ⟨A, cap, rfl, _, hb⟩; have HB := Lib.hid hb; clear hb)
  go_ret
  exact ⟨rfl, HB.out⟩

theorem elS : (Try.prog.info? 108).map (fun i => (i.zero, i.size, i.bytes)) = some (some (.agg (cf Z0).toArray), 9, 80) := by kernel_rfl
theorem made_new (n : Nat) : madeCells (cf Z0).toArray (n * 9) = cA (newM n).c := by
  apply cA_ext
  · simp [size_madeCells, newM]
  intro j i hj hi
  simp only [newM, List.length_replicate] at hj
  have e : (newM n).c.getD j (Z0 : Ce Ev) = Z0 := by simp [newM, hj]
  rw [e]
  have hlt : j * 9 + i < n * 9 := by omega
  unfold madeCells
  rw [Array.getElem?_map, Array.getElem?_range, if_pos hlt]
  have hm : (j * 9 + i) % 9 = i := by omega
  have h3 : i = 0 ∨ i = 1 ∨ i = 2 ∨ i = 3 ∨ i = 4 ∨ i = 5 ∨ i = 6 ∨ i = 7 ∨ i = 8 := by omega
  simp only [Option.map_some]
  rw [show (cf (Z0 : Ce Ev)).toArray.size = 9 from rfl, hm]
  rcases h3 with rfl | rfl | rfl | rfl | rfl | rfl | rfl | rfl | rfl <;> rfl
set_option maxHeartbeats 1000000 in
theorem new_no (n : Int) (h : n < 1 ∨ 64 < n) (w : World) : Calls Try.prog 26 #[.int .i64 n] w fun e w' => e = .returned (.pointer none) ∧ w' = w := by
  by_cases h1 : n < 1
  · have d1 : decide (n < 1) = true := by simpa using h1
    clear h h1
    go_enter Try.func26, Try.ntmps26
    go_wp2_with fail
    go_ret
    exact ⟨rfl, rfl⟩
  · have d1 : decide (n < 1) = false := by simpa using h1
    have d2 : decide (64 < n) = true := by simp; omega
    clear h h1
    go_enter Try.func26, Try.ntmps26
    go_wp2_with fail
    go_ret
    exact ⟨rfl, rfl⟩
set_option maxHeartbeats 1000000 in
theorem new_any (n : Nat) (h1 : 1 ≤ n) (h2 : n ≤ 64) (w : World) : Calls Try.prog 26 #[.int .i64 (n : Nat)] w fun e w' => e = .returned (.pointer (some ⟨w.heap.size + 1, 0, none⟩)) ∧ Sp w' (w.heap.size + 1) w.heap.size (newM n : Ms Ev) ∧ Below w.heap.size w w' ∧ w'.heap.size = w.heap.size + 2 := by
  obtain ⟨i0, hi, hz0, hz1, hz2⟩ := el_of elS
  have hmk := run_make w 95 108 i0 (.agg (cf Z0).toArray) (P := Try.prog) Try.underlying95 hi hz0 .i64 .i64 n n (by omega) (by omega) (by rw [hz2]; omega) (by omega)
  rw [hz1, Int.toNat_natCast, show (Value.agg (cf Z0).toArray).cells = (cf Z0).toArray from rfl, made_new] at hmk
  have hb0 := Blk.new w 108 (cA (newM n : Ms Ev).c)
  have hl0 := (Below.refl w.heap.size w).alloc (Nat.le_refl _) (Obj.cells (cA (newM n : Ms Ev).c) 108)
  have es : (w.alloc (Obj.cells (cA (newM n : Ms Ev).c) 108)).heap.size = w.heap.size + 1 := by simp
  generalize w.alloc (Obj.cells (cA (newM n : Ms Ev).c) 108) = w1 at *
  have hb1 := Blk.new w1 97 #[.slice (some ⟨w.heap.size, 0, none⟩) n n, .int .i64 0]
  have hl1 := (Below.refl w1.heap.size w1).alloc (Nat.le_refl _) (Obj.cells #[.slice (some ⟨w.heap.size, 0, none⟩) n n, .int .i64 0] 97)
  have hs1 : (w1.alloc (Obj.cells #[.slice (some ⟨w.heap.size, 0, none⟩) n n, .int .i64 0] 97)).heap.size = w.heap.size + 2 := by simp [es]
  have HF := Lib.hid (And.intro (show Sp (w1.alloc (Obj.cells #[.slice (some ⟨w.heap.size, 0, none⟩) n n, .int .i64 0] 97)) (w.heap.size + 1) w.heap.size (newM n : Ms Ev) from ⟨by omega, by rw [es] at hb1; simpa [newM] using hb1, hb0.eq (hl1.block _ hb0.lt), newM_ok Ev h1 h2⟩) (And.intro (hl0.trans (hl1.mono hl0.size)) hs1))
  have HE := Lib.hid es
  clear hb0 hl0 hb1 hl1 hs1 hi hz0 hz1 hz2
  have d1 : decide ((n : Int) < 1) = false := by simp; omega
  have d2 : decide ((64 : Int) < n) = false := by simp; omega
  go_enter Try.func26, Try.ntmps26
  go_wp2_with fail
  go_ret
  exact ⟨rfl, HF.out⟩
end Go.Proofs.Ytjjanogfcfapcaa
