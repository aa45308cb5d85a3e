/- The contracts of the program's slots: All, Len, New, Put, Victim. -/
import Derived.Test.YtpoienhmnaeaiaaSoc
import Derived.Deep.LoopGhost
namespace Go.Proofs.Ytpoienhmnaeaiaa
open Go.RowKit
set_option linter.unusedVariables false

def vals (l : List Nat) : List Value := l.map fun i => Value.int .i64 (i : Nat)
theorem vals_len (l : List Nat) : (vals l).length = l.length := by simp [vals]
theorem vals_snoc (l : List Nat) (j : Nat) : vals (l ++ [j]) = vals l ++ [Value.int .i64 (j : Nat)] := by simp [vals]
theorem ns_own {w : World} {B : Nat} {A : Option Addr} {cap : Nat} {l : List Nat} (h : w.ownsRow B 3 1 (.slice A l.length cap) l.length (vals l)) : Ns .i64 w A l := fun j hj => by
  obtain ⟨g, rfl, hg⟩ := own_block h (by omega)
  refine ⟨g, 0, rfl, ?_⟩
  rw [Nat.zero_add, h.cellAt _ (by omega)]
  simp [vals, hj]
theorem allC_succ (c : List Ce) (j : Nat) : allC c (j + 1) = if us c j then allC c j ++ [j] else allC c j := by
  unfold allC
  rw [List.range_succ, List.filter_append]
  cases h : us c j <;> simp [h]
theorem allC_le (c : List Ce) (j : Nat) : (allC c j).length ≤ j := by
  have := List.length_filter_le (us c) (List.range j)
  rw [List.length_range] at this
  exact this

set_option maxHeartbeats 1000000 in
theorem all_nil (w : World) : Calls Try.prog 15 #[.pointer none] w fun e w' => e = .returned (.slice none 0 0) ∧ w' = w := by
  have HC := Lib.hid (cap_nil w)
  go_enter Try.func15, Try.ntmps15
  go_wp2_with (go_at_call 17; with_reducible (refine HC.out.mono ?_); rintro e w1 ⟨rfl, rfl⟩)
  go_loopw [3, 7] (fun v x wr => v = .slice none 0 0 ∧ x = .int .i64 0 ∧ wr = w1) (fun _ _ _ => 0)
  case atStart => exact ⟨rfl, rfl, rfl⟩
  case round =>
    obtain ⟨rfl, rfl, rfl⟩ := hrel
    go_wp2_with fail
    go_ret
    exact ⟨rfl, rfl⟩
set_option maxRecDepth 100000 in
set_option maxHeartbeats 1000000 in
theorem all_any {w : World} {g b : Nat} {M : Ms} (h : Sp w g b M) : Calls Try.prog 15 #[.pointer (some ⟨g, 0, none⟩)] w fun e w' => ∃ A cap, e = .returned (.slice A (allM M).length cap) ∧ Ns .i64 w' A (allM M) ∧ Below w.heap.size w w' := by
  obtain ⟨i0, hi, hz0, hz1, hz2⟩ := el_of elI
  have HC := Lib.hid (cap_any h)
  have HS := Lib.hid h
  have h64 := h.ok.n64
  unfold allM
  clear h
  generalize hn : M.c.length = n at *
  have HN := Lib.hid hn
  clear hn
  go_enter Try.func15, Try.ntmps15
  go_wp2_with (go_at_call 17; with_reducible (refine HC.out.mono ?_); rintro e w1 ⟨rfl, rfl⟩)
  go_loopw [3, 4, 7] (fun v _ x wr => ∃ j : Nat, j ≤ n ∧ x = .int .i64 j ∧ wr.ownsRow w1.heap.size 3 1 v (allC M.c j).length (vals (allC M.c j)) ∧ Below w1.heap.size w1 wr) (fun _ _ x _ => n - (intOf x).toNat)
  case atStart => exact ⟨0, Nat.zero_le _, rfl, World.ownsRow_nil _ _ _ _, Below.refl _ _⟩
  case round =>
    obtain ⟨j, hj, rfl, hown, hbel⟩ := hrel
    obtain ⟨Av, cv, rfl⟩ := ownR_form hown
    by_cases hlt : j < n
    · have d1 : decide ((j : Int) < n) = true := by simp; omega
      have hS := HS.out.keep hbel
      have hjn : j < M.c.length := by rw [HN.out]; exact hlt
      have c0 := hS.c0
      have e1 := hS.e1 hjn
      rw [HN.out] at c0
      have s0 : (0 : Int) ≤ (j : Nat) := by omega
      have s1 : (j : Int) < (n : Nat) := by omega
      have hle := allC_le M.c j
      cases hu : us M.c j with
      | false =>
        rw [hu] at e1
        have ht2 : allC M.c (j + 1) = allC M.c j := by rw [allC_succ, hu]; rfl
        have HT2 := Lib.hid ht2
        have HO := Lib.hid (And.intro hown hbel)
        clear hown hbel hS hu ht2
        go_wp2_with fail
        go_roundw
        case rel => exact ⟨j + 1, hlt, by go_num, by rw [HT2.out]; exact HO.out.1, HO.out.2⟩
        case measure => simp [intOf]; omega
      | true =>
        rw [hu] at e1
        have ht2 : allC M.c (j + 1) = allC M.c j ++ [j] := by rw [allC_succ, hu]; rfl
        have HT2 := Lib.hid ht2
        have ho3 := hown.alloc (Obj.cells #[.int .i64 (j : Nat)] 3)
        have hb3 := hbel.alloc hbel.size (Obj.cells #[.int .i64 (j : Nat)] 3)
        have HO3 := Lib.hid ho3
        have HB3 := Lib.hid hb3
        have HV := Lib.hid (vals_snoc (allC M.c j) j)
        clear hown hbel hS hu ho3 hb3 ht2
        generalize allC M.c j = l at *
        go_wp2_with (at_builtin; (refine wpList_append_own _ rfl _ _ 37 rfl w1.heap.size 3 i0 (.int .i64 0) 1 8 Try.underlying37 hi hz0 hz1 hz2 rfl (by decide) _ _ _ rfl HO3.out ⟨wr.heap.size, 0, none⟩ 1 1 [Value.int .i64 (j : Nat)] rfl rfl (newI wr j) ?q3 ?q4 ?q5 HB3.out.size ?_))
        case q3 => intro u hu; simp at hu; subst hu; rfl
        case q4 => unfold maxLen; omega
        case q5 => omega
        intro v' w3 hown2 hgrow hnil
        have hb4 := HB3.out.grown hgrow HB3.out.size (fun k hk => (HO3.out.lt k hk).1)
        rw [← HV.out, show l.length + 1 = (l ++ [j]).length by simp, ← HT2.out] at hown2
        have HF := Lib.hid (And.intro hown2 hb4)
        clear hown2 hgrow hnil hb4
        go_wp2_with fail
        go_roundw
        case rel => exact ⟨j + 1, hlt, by go_num, HF.out.1, HF.out.2⟩
        case measure => simp [intOf]; omega
    · obtain rfl : j = n := by omega
      have d1 : decide ((j : Int) < j) = false := by simp
      have HF := Lib.hid (And.intro (ns_own hown) hbel)
      clear hown hbel
      go_wp2_with fail
      go_ret
      exact ⟨Av, cv, rfl, HF.out.1, HF.out.2⟩

set_option maxHeartbeats 1000000 in
theorem len_nil (w : World) : Calls Try.prog 11 #[.pointer none] w fun e w' => e = .returned (.int .i64 0) ∧ w' = w := by
  have HC := Lib.hid (all_nil w)
  go_enter Try.func11, Try.ntmps11
  go_wp2_with (go_at_call 15; with_reducible (refine HC.out.mono ?_); rintro e w1 ⟨rfl, rfl⟩)
  go_ret
  exact ⟨rfl, rfl⟩
set_option maxHeartbeats 1000000 in
theorem len_any {w : World} {g b : Nat} {M : Ms} (h : Sp w g b M) : Calls Try.prog 11 #[.pointer (some ⟨g, 0, none⟩)] w fun e w' => e = .returned (.int .i64 ((allM M).length : Nat)) ∧ Below w.heap.size w w' := by
  have HC := Lib.hid (all_any h)
  clear h
  generalize allM M = l at *
  generalize hn : l.length = n at *
  clear hn
  go_enter Try.func11, Try.ntmps11
  go_wp2_with (go_at_call 15; with_reducible (refine HC.out.mono ?_); rintro e w1 ⟨A, cap, rfl, _, hb⟩; have HB := Lib.hid hb; clear hb)
  go_ret
  exact ⟨rfl, HB.out⟩

def zS : Value := .agg #[.string ⟨#[]⟩, .bool false, .bool false]
theorem elS : (Try.prog.info? 67).map (fun i => (i.zero, i.size, i.bytes)) = some (some zS, 3, 24) := by kernel_rfl
theorem made_new (n : Nat) : madeCells zS.cells (n * 3) = cA (newM n).c := by
  apply cA_ext
  · simp [size_madeCells, newM]
  intro j i hj hi
  simp only [newM, List.length_replicate] at hj
  have e : (newM n).c.getD j Z0 = Z0 := by simp [newM, hj]
  rw [e]
  have hlt : j * 3 + i < n * 3 := by omega
  unfold madeCells
  rw [Array.getElem?_map, Array.getElem?_range, if_pos hlt]
  have h3 : i = 0 ∨ i = 1 ∨ i = 2 := by omega
  rcases h3 with rfl | rfl | rfl
  · simp [zS, Value.cells, cf, Z0]
  · have : (j * 3 + 1) % 3 = 1 := by omega
    simp [zS, Value.cells, cf, Z0, this]
  · have : (j * 3 + 2) % 3 = 2 := by omega
    simp [zS, Value.cells, cf, Z0, this]
set_option maxHeartbeats 1000000 in
theorem new_no (n : Int) (h : n < 1 ∨ 64 < n) (w : World) : Calls Try.prog 10 #[.int .i64 n] w fun e w' => e = .returned (.pointer none) ∧ w' = w := by
  by_cases h1 : n < 1
  · have d1 : decide (n < 1) = true := by simpa using h1
    clear h h1
    go_enter Try.func10, Try.ntmps10
    go_wp2_with fail
    go_ret
    exact ⟨rfl, rfl⟩
  · have d1 : decide (n < 1) = false := by simpa using h1
    have d2 : decide (64 < n) = true := by simp; omega
    clear h h1
    go_enter Try.func10, Try.ntmps10
    go_wp2_with fail
    go_ret
    exact ⟨rfl, rfl⟩
set_option maxHeartbeats 1000000 in
theorem new_any (n : Nat) (h1 : 1 ≤ n) (h2 : n ≤ 64) (w : World) : Calls Try.prog 10 #[.int .i64 (n : Nat)] w fun e w' => e = .returned (.pointer (some ⟨w.heap.size + 1, 0, none⟩)) ∧ Sp w' (w.heap.size + 1) w.heap.size (newM n) ∧ Below w.heap.size w w' ∧ w'.heap.size = w.heap.size + 2 := by
  obtain ⟨i0, hi, hz0, hz1, hz2⟩ := el_of elS
  have hmk := run_make w 56 67 i0 zS (P := Try.prog) Try.underlying56 hi hz0 .i64 .i64 n n (by omega) (by omega) (by rw [hz2]; omega) (by omega)
  rw [hz1, Int.toNat_natCast, made_new] at hmk
  have hb0 := Blk.new w 67 (cA (newM n).c)
  have hl0 := (Below.refl w.heap.size w).alloc (Nat.le_refl _) (Obj.cells (cA (newM n).c) 67)
  have es : (w.alloc (Obj.cells (cA (newM n).c) 67)).heap.size = w.heap.size + 1 := by simp
  generalize w.alloc (Obj.cells (cA (newM n).c) 67) = w1 at *
  have hb1 := Blk.new w1 58 #[.slice (some ⟨w.heap.size, 0, none⟩) n n, .int .i64 0]
  have hl1 := (Below.refl w1.heap.size w1).alloc (Nat.le_refl _) (Obj.cells #[.slice (some ⟨w.heap.size, 0, none⟩) n n, .int .i64 0] 58)
  have hs1 : (w1.alloc (Obj.cells #[.slice (some ⟨w.heap.size, 0, none⟩) n n, .int .i64 0] 58)).heap.size = w.heap.size + 2 := by simp [es]
  have HF := Lib.hid (And.intro (show Sp (w1.alloc (Obj.cells #[.slice (some ⟨w.heap.size, 0, none⟩) n n, .int .i64 0] 58)) (w.heap.size + 1) w.heap.size (newM n) from ⟨by omega, by rw [es] at hb1; simpa [newM] using hb1, hb0.eq (hl1.block _ hb0.lt), newM_ok h1 h2⟩) (And.intro (hl0.trans (hl1.mono hl0.size)) hs1))
  have HE := Lib.hid es
  clear hb0 hl0 hb1 hl1 hs1 hi hz0 hz1 hz2
  have d1 : decide ((n : Int) < 1) = false := by simp; omega
  have d2 : decide ((64 : Int) < n) = false := by simp; omega
  go_enter Try.func10, Try.ntmps10
  go_wp2_with fail
  go_ret
  exact ⟨rfl, HF.out⟩
end Go.Proofs.Ytpoienhmnaeaiaa
