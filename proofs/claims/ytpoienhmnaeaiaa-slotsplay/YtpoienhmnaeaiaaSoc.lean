/- The contracts of the program's slots: step, Get, Set, Touch, Free, All, Len, New. -/
import Derived.Test.YtpoienhmnaeaiaaSob
namespace Go.Proofs.Ytpoienhmnaeaiaa
open Go.RowKit
set_option linter.unusedVariables false

set_option maxHeartbeats 1000000 in
theorem get_nil (i : Int) (w : World) : Calls Try.prog 22 #[.pointer none, .int .i64 i] w fun e w' => e = .returned (.tuple #[.string ⟨#[]⟩, .bool false]) ∧ Below w.heap.size w w' := by
  have HC := Lib.hid (has_nil i w)
  have hb := (Below.refl w.heap.size w).alloc (Nat.le_refl _) (Obj.cells #[.string ⟨#[]⟩] 9)
  have HB := Lib.hid hb
  clear hb
  go_enter Try.func22, Try.ntmps22
  go_wp2_with (go_at_call 32; with_reducible (refine HC.out.mono ?_); rintro e w1 ⟨rfl, rfl⟩)
  go_ret2
  exact ⟨rfl, HB.out⟩
set_option maxHeartbeats 1000000 in
theorem get_any (i : Int) {w : World} {g b : Nat} {M : Ms} (h : Sp w g b M) : Calls Try.prog 22 #[.pointer (some ⟨g, 0, none⟩), .int .i64 i] w fun e w' => e = .returned (.tuple #[.string (getM M i).1, .bool (getM M i).2]) ∧ Below w.heap.size w w' := by
  have HC := Lib.hid (has_any i h)
  cases hi : hasM M i with
  | false =>
    rw [hi] at HC
    unfold getM
    rw [hi]
    have hb := (Below.refl w.heap.size w).alloc (Nat.le_refl _) (Obj.cells #[.string ⟨#[]⟩] 9)
    have HB := Lib.hid hb
    clear hb h hi
    go_enter Try.func22, Try.ntmps22
    go_wp2_with (go_at_call 32; with_reducible (refine HC.out.mono ?_); rintro e w1 ⟨rfl, rfl⟩)
    go_ret2
    exact ⟨rfl, HB.out⟩
  | true =>
    rw [hi] at HC
    unfold getM
    rw [hi]
    obtain ⟨k, rfl, hk, hu⟩ := has_of hi
    have c0 := h.c0
    have e0 := h.e0 hk
    have s0 : (0 : Int) ≤ (k : Nat) := by omega
    have s1 : (k : Int) < M.c.length := by omega
    have h2 := h.ok.n64
    have e : (atM M k).x = (M.c.getD k Z0).x := by unfold atM; simp
    rw [e]
    generalize (M.c.getD k Z0).x = x at *
    generalize M.c.length = n at *
    have HB := Lib.hid (Below.refl w.heap.size w)
    clear h hi hu e
    go_enter Try.func22, Try.ntmps22
    go_wp2_with (go_at_call 32; with_reducible (refine HC.out.mono ?_); rintro e w1 ⟨rfl, rfl⟩)
    go_ret2
    exact ⟨rfl, HB.out⟩

set_option maxHeartbeats 1000000 in
theorem set_nil (i : Int) (x : ByteArray) (w : World) : Calls Try.prog 24 #[.pointer none, .int .i64 i, .string x] w fun e w' => e = .returned (.bool false) ∧ w' = w := by
  have HC := Lib.hid (has_nil i w)
  go_enter Try.func24, Try.ntmps24
  go_wp2_with (go_at_call 32; with_reducible (refine HC.out.mono ?_); rintro e w1 ⟨rfl, rfl⟩)
  go_ret
  exact ⟨rfl, rfl⟩
set_option maxHeartbeats 1000000 in
theorem set_any (i : Int) (x : ByteArray) {w : World} {g b : Nat} {M : Ms} (h : Sp w g b M) : Calls Try.prog 24 #[.pointer (some ⟨g, 0, none⟩), .int .i64 i, .string x] w fun e w' => e = .returned (.bool (hasM M i)) ∧ Sp w' g b (setM M i x) ∧ Fp g b w w' := by
  have HC := Lib.hid (has_any i h)
  cases hi : hasM M i with
  | false =>
    rw [hi] at HC
    have HF := Lib.hid (And.intro h (Fp.refl g b w))
    rw [show setM M i x = M by unfold setM; rw [hi]; rfl]
    clear h hi
    go_enter Try.func24, Try.ntmps24
    go_wp2_with (go_at_call 32; with_reducible (refine HC.out.mono ?_); rintro e w1 ⟨rfl, rfl⟩)
    go_ret
    exact ⟨rfl, HF.out⟩
  | true =>
    rw [hi] at HC
    have hok := setM_ok h.ok i x
    have hs : setM M i x = upd M i ⟨x, true, (atM M i).t⟩ := by unfold setM; rw [hi]; rfl
    rw [hs] at hok ⊢
    obtain ⟨k, rfl, hk, hu⟩ := has_of hi
    have c0 := h.c0
    have e0 := h.e0 hk
    have f0 := h.bb.frozen (k * 3)
    have s0 : (0 : Int) ≤ (k : Nat) := by omega
    have s1 : (k : Int) < M.c.length := by omega
    have h2 := h.ok.n64
    have hc := cA_set0 M.c k hk x
    rw [hu] at hc
    have HF := Lib.hid (And.intro (h.set (k * 3) (.string x) (M' := upd M k ⟨x, true, (atM M k).t⟩) (by rw [hc]; unfold upd atM ts; simp) (by simp [upd]) rfl hok) (Fp.set w (k * 3) (.string x) b (.inr rfl) h.gb))
    clear hs hok hc
    generalize upd M k ⟨x, true, (atM M k).t⟩ = M' at *
    generalize (M.c.getD k Z0).x = y at *
    generalize M.c.length = n at *
    clear h hi hu
    go_enter Try.func24, Try.ntmps24
    go_wp2_with (go_at_call 32; with_reducible (refine HC.out.mono ?_); rintro e w1 ⟨rfl, rfl⟩)
    go_ret
    exact ⟨rfl, HF.out⟩

set_option maxHeartbeats 1000000 in
theorem touch_nil (i : Int) (w : World) : Calls Try.prog 20 #[.pointer none, .int .i64 i] w fun e w' => e = .returned (.bool false) ∧ w' = w := by
  have HC := Lib.hid (has_nil i w)
  go_enter Try.func20, Try.ntmps20
  go_wp2_with (go_at_call 32; with_reducible (refine HC.out.mono ?_); rintro e w1 ⟨rfl, rfl⟩)
  go_ret
  exact ⟨rfl, rfl⟩
set_option maxHeartbeats 1000000 in
theorem touch_any (i : Int) {w : World} {g b : Nat} {M : Ms} (h : Sp w g b M) : Calls Try.prog 20 #[.pointer (some ⟨g, 0, none⟩), .int .i64 i] w fun e w' => e = .returned (.bool (hasM M i)) ∧ Sp w' g b (touM M i) ∧ Fp g b w w' := by
  have HC := Lib.hid (has_any i h)
  cases hi : hasM M i with
  | false =>
    rw [hi] at HC
    have HF := Lib.hid (And.intro h (Fp.refl g b w))
    rw [show touM M i = M by unfold touM; rw [hi]; rfl]
    clear h hi
    go_enter Try.func20, Try.ntmps20
    go_wp2_with (go_at_call 32; with_reducible (refine HC.out.mono ?_); rintro e w1 ⟨rfl, rfl⟩)
    go_ret
    exact ⟨rfl, HF.out⟩
  | true =>
    rw [hi] at HC
    have hok := touM_ok h.ok i
    have hs : touM M i = upd M i ⟨(atM M i).x, true, true⟩ := by unfold touM; rw [hi]; rfl
    rw [hs] at hok ⊢
    obtain ⟨k, rfl, hk, hu⟩ := has_of hi
    have c0 := h.c0
    have e2 := h.e2 hk
    have f0 := h.bb.frozen (k * 3 + 2)
    have s0 : (0 : Int) ≤ (k : Nat) := by omega
    have s1 : (k : Int) < M.c.length := by omega
    have h2 := h.ok.n64
    have hc := cA_set2 M.c k hk true
    rw [hu] at hc
    have HF := Lib.hid (And.intro (h.set (k * 3 + 2) (.bool true) (M' := upd M k ⟨(atM M k).x, true, true⟩) (by rw [hc]; unfold upd atM; simp) (by simp [upd]) rfl hok) (Fp.set w (k * 3 + 2) (.bool true) b (.inr rfl) h.gb))
    clear hs hok hc
    generalize upd M k ⟨(atM M k).x, true, true⟩ = M' at *
    generalize ts M.c k = y at *
    generalize M.c.length = n at *
    clear h hi hu
    go_enter Try.func20, Try.ntmps20
    go_wp2_with (go_at_call 32; with_reducible (refine HC.out.mono ?_); rintro e w1 ⟨rfl, rfl⟩)
    go_ret
    exact ⟨rfl, HF.out⟩

set_option maxHeartbeats 1000000 in
theorem free_nil (i : Int) (w : World) : Calls Try.prog 23 #[.pointer none, .int .i64 i] w fun e w' => e = .returned (.bool false) ∧ w' = w := by
  have HC := Lib.hid (has_nil i w)
  go_enter Try.func23, Try.ntmps23
  go_wp2_with (go_at_call 32; with_reducible (refine HC.out.mono ?_); rintro e w1 ⟨rfl, rfl⟩)
  go_ret
  exact ⟨rfl, rfl⟩
set_option maxHeartbeats 1000000 in
theorem free_any (i : Int) {w : World} {g b : Nat} {M : Ms} (h : Sp w g b M) : Calls Try.prog 23 #[.pointer (some ⟨g, 0, none⟩), .int .i64 i] w fun e w' => e = .returned (.bool (hasM M i)) ∧ Sp w' g b (freM M i) ∧ Fp g b w w' := by
  have HC := Lib.hid (has_any i h)
  cases hi : hasM M i with
  | false =>
    rw [hi] at HC
    have HF := Lib.hid (And.intro h (Fp.refl g b w))
    rw [show freM M i = M by unfold freM; rw [hi]; rfl]
    clear h hi
    go_enter Try.func23, Try.ntmps23
    go_wp2_with (go_at_call 32; with_reducible (refine HC.out.mono ?_); rintro e w1 ⟨rfl, rfl⟩)
    go_ret
    exact ⟨rfl, HF.out⟩
  | true =>
    rw [hi] at HC
    have hok := freM_ok h.ok i
    have hs : freM M i = upd M i Z0 := by unfold freM; rw [hi]; rfl
    rw [hs] at hok ⊢
    obtain ⟨k, rfl, hk, hu⟩ := has_of hi
    have c0 := h.c0
    have e0 := h.e0 hk
    have e1 := h.e1 hk
    have e2 := h.e2 hk
    have f0 := h.bb.frozen (k * 3)
    have f1 := h.bb.frozen (k * 3 + 1)
    have f2 := h.bb.frozen (k * 3 + 2)
    have s0 : (0 : Int) ≤ (k : Nat) := by omega
    have s1 : (k : Int) < M.c.length := by omega
    have h2 := h.ok.n64
    have hc := cA_set M.c k hk Z0
    have HF := Lib.hid (And.intro (h.set3 (M' := upd M k Z0) (k * 3) (k * 3 + 1) (k * 3 + 2) (.string ⟨#[]⟩) (.bool false) (.bool false) (by rw [show (Value.string ⟨#[]⟩) = .string Z0.x from rfl]; exact hc) (by simp [upd]) rfl hok) (Fp.set3 (w := w) (k * 3) (k * 3 + 1) (k * 3 + 2) (.string ⟨#[]⟩) (.bool false) (.bool false) h.gb))
    clear hs hok hc
    generalize upd M k Z0 = M' at *
    generalize (M.c.getD k Z0).x = y0 at *
    generalize us M.c k = y1 at *
    generalize ts M.c k = y2 at *
    generalize M.c.length = n at *
    clear h hi hu
    go_enter Try.func23, Try.ntmps23
    go_wp2_with (go_at_call 32; with_reducible (refine HC.out.mono ?_); rintro e w1 ⟨rfl, rfl⟩)
    go_ret
    exact ⟨rfl, HF.out⟩

theorem nx_int (M : Ms) (h : M.Ok) : (((M.h : Nat) : Int) + 1).tmod (M.c.length : Nat) = (nx M : Nat) := by
  unfold nx
  rw [show ((M.h : Nat) : Int) + 1 = ((M.h + 1 : Nat) : Int) by simp]
  rw [Int.tmod_eq_emod_of_nonneg (by omega)]
  rfl
set_option maxHeartbeats 1000000 in
theorem step_any {w : World} {g b : Nat} {M : Ms} (h : Sp w g b M) : Calls Try.prog 31 #[.pointer (some ⟨g, 0, none⟩)] w fun e w' => e = .returned (.int .i64 (M.h : Nat)) ∧ w' = w.setCell ⟨g, 1, none⟩ (.int .i64 (nx M : Nat)) := by
  have HC := Lib.hid (cap_any h)
  have c1 := h.c1
  have f1 := h.bg.frozen 1
  have hm := nx_int M h.ok
  have h1 := h.ok.n1
  have h2 := h.ok.n64
  have h3 := h.ok.hn
  generalize nx M = q at *
  generalize M.c.length = n at *
  generalize M.h = hh at *
  have n0 : ((n : Int) == 0) = false := by simp; omega
  have n1 : ¬ (n : Int) = 0 := by omega
  clear h
  go_enter Try.func31, Try.ntmps31
  go_wp2_with (go_at_call 17; with_reducible (refine HC.out.mono ?_); rintro e w1 ⟨rfl, rfl⟩)
  go_ret
  exact ⟨rfl, rfl⟩
end Go.Proofs.Ytpoienhmnaeaiaa
