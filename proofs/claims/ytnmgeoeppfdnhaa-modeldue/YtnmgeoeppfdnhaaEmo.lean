/- The program's order of questions, by its contract (written by tools/gen_emo.py). -/
import Derived.Test.YtnmgeoeppfdnhaaEmk
import Derived.Sort.Grow
import Derived.Shelf.SlSortCmp.Insertion
import Derived.Deep.RegionHeld3
namespace Go.Proofs.Ytnmgeoeppfdnhaa
open Go.RowKit Go.Sort
set_option linter.unusedVariables false
set_option linter.unusedSimpArgs false

/-- Only draws and new blocks. -/
def Gr (w w' : World) : Prop := ∃ (q : Nat) (os : Array Obj), w' = grow (w.drewN q) os
theorem Gr.refl (w : World) : Gr w w := ⟨0, #[], by rw [grow_empty]; rfl⟩
theorem Gr.drewN {w w' : World} (h : Gr w w') (k : Nat) : Gr w (w'.drewN k) := by
  obtain ⟨q, os, rfl⟩ := h
  exact ⟨q + k, os, by show grow ((w.drewN q).drewN k) os = _; rw [World.drewN_drewN]⟩
theorem Gr.drew {w w' : World} (h : Gr w w') : Gr w w'.drew := h.drewN 1
theorem Gr.alloc {w w' : World} (h : Gr w w') (o : Obj) : Gr w (w'.alloc o) := by
  obtain ⟨q, os, rfl⟩ := h
  exact ⟨q, os ++ #[o], by rw [alloc_eq_grow, grow_grow]⟩
theorem Gr.trans {a b c : World} (h : Gr a b) (k : Gr b c) : Gr a c := by
  obtain ⟨q, os, rfl⟩ := h
  obtain ⟨q', os', rfl⟩ := k
  exact ⟨q + q', os ++ os', by show grow (grow ((a.drewN q).drewN q') os) os' = _; rw [World.drewN_drewN, grow_grow]⟩
theorem Gr.below {w w' : World} (h : Gr w w') : Below w.heap.size w w' := by
  obtain ⟨q, os, rfl⟩ := h
  exact ⟨rfl, rfl, rfl, by rw [size_grow]; exact Nat.le_add_right _ _, fun i hi => heap_grow_old _ _ hi⟩
def cmpZ (a b : Int) : Int := if a < b then -1 else if b < a then 1 else 0
def cmpB (a b : ByteArray) : Int := if Op.bytesLess a.toList b.toList = true then -1 else if Op.bytesLess b.toList a.toList = true then 1 else 0
def or3 (x y z : Int) : Int := if x = 0 then (if y = 0 then z else y) else x
def cfQ (a b : Qu) : Int := or3 (cmpB a.n b.n) (cmpZ (a.k : Nat) (b.k : Nat)) (cmpZ (a.c : Nat) (b.c : Nat))
theorem cmpB_same (a : ByteArray) : cmpB a a = 0 := by unfold cmpB; rw [bl_irr]; rfl
theorem cmpB_ne {a b : ByteArray} (h : a ≠ b) : cmpB a b ≠ 0 := by
  unfold cmpB
  rcases bl_tot a.toList b.toList (fun e => h (ba_inj e)) with h1 | h1
  · rw [if_pos h1]; decide
  · split
    · decide
    · first | (rw [if_pos h1]; decide) | (split <;> first | decide | exact absurd h1 (by assumption)) | decide
theorem cf_less (a b : Qu) : Go.Proofs.ltOf cfQ a b = lessQ a b := by
  unfold Go.Proofs.ltOf cfQ lessQ or3
  by_cases h1 : a.n = b.n
  · rw [if_pos h1, h1, cmpB_same, if_pos rfl]
    unfold cmpZ
    by_cases h2 : a.k = b.k
    · rw [if_pos h2, h2]
      by_cases h3 : a.c < b.c
      · simp [h3]
      · by_cases h4 : b.c < a.c
        · simp [h3, h4]
        · simp [h3, h4]
    · rw [if_neg h2]
      by_cases h3 : a.k < b.k
      · simp [h3]
      · have h4 : b.k < a.k := by omega
        simp [h3, h4]
  · rw [if_neg h1, if_neg (cmpB_ne h1)]
    unfold cmpB
    cases h2 : Op.bytesLess a.n.toList b.n.toList with
    | true => simp
    | false => cases h3 : Op.bytesLess b.n.toList a.n.toList <;> simp
theorem cf_swo : SWO (Go.Proofs.ltOf cfQ) := by
  have e : Go.Proofs.ltOf cfQ = lessQ := funext fun a => funext fun b => cf_less a b
  rw [e]
  refine ⟨lq_irr, fun x y z h k => lq_trans h k, fun x y z h k => ?_⟩
  cases hz : lessQ x z with
  | false => rfl
  | true =>
    by_cases e1 : y = x
    · subst e1; rw [k] at hz; cases hz
    · rcases lq_tot e1 with h1 | h1
      · have := lq_trans h1 hz; rw [k] at this; cases this
      · rw [h] at h1; cases h1
theorem cf_tot (x y : Qu) (h : Go.Proofs.ltOf cfQ x y = false) (k : Go.Proofs.ltOf cfQ y x = false) : x = y := by
  rw [cf_less] at h k
  by_cases e : x = y
  · exact e
  · rcases lq_tot e with h1 | h1
    · rw [h] at h1; cases h1
    · rw [k] at h1; cases h1
set_option maxHeartbeats 1000000 in
theorem nanS (a : ByteArray) (w : World) : Calls Try.prog 50 #[.string a] w fun e w' => e = .returned (.bool false) ∧ w' = w := by
  go_enter Try.func50, Try.ntmps50
  go_wp2_with fail
  go_ret
  first | exact ⟨by simp, rfl⟩ | exact ⟨rfl, rfl⟩
set_option maxHeartbeats 1000000 in
theorem nanH (a : Nat) (w : World) : Calls Try.prog 51 #[.int .u16 (a : Nat)] w fun e w' => e = .returned (.bool false) ∧ w' = w := by
  go_enter Try.func51, Try.ntmps51
  go_wp2_with fail
  go_ret
  first | exact ⟨by simp, rfl⟩ | exact ⟨rfl, rfl⟩
set_option maxHeartbeats 1000000 in
theorem cmpH (a b : Nat) (w : World) : Calls Try.prog 39 #[.int .u16 (a : Nat), .int .u16 (b : Nat)] w fun e w' => e = .returned (.int .i64 (cmpZ (a : Nat) (b : Nat))) ∧ w' = w := by
  have H1 := Lib.hid (nanH a w)
  have H2 := Lib.hid (nanH b w)
  obtain ⟨r, hr⟩ : ∃ r, cmpZ (a : Nat) (b : Nat) = r := ⟨_, rfl⟩
  rw [hr]
  have HR := Lib.hid hr
  clear hr
  by_cases h1 : a < b
  · have d1 : decide ((a : Int) < (b : Nat)) = true := by simp; omega
    have HG := Lib.hid (show (-1 : Int) = r from by rw [← HR.out]; unfold cmpZ; rw [if_pos (by omega)])
    clear HR
    go_enter Try.func39, Try.ntmps39
    go_wp2_with (first
      | (go_at_call 51; with_reducible (refine H1.out.mono ?_); rintro e w' ⟨rfl, rfl⟩)
      | (go_at_call 51; with_reducible (refine H2.out.mono ?_); rintro e w' ⟨rfl, rfl⟩)
      | fail)
    go_ret
    exact ⟨by have := HG.out; subst this; rfl, rfl⟩
  · have d1 : decide ((a : Int) < (b : Nat)) = false := by simp; omega
    by_cases h2 : b < a
    · have d2 : decide ((b : Int) < (a : Nat)) = true := by simp; omega
      have HG := Lib.hid (show (1 : Int) = r from by rw [← HR.out]; unfold cmpZ; rw [if_neg (by omega), if_pos (by omega)])
      clear HR
      go_enter Try.func39, Try.ntmps39
      go_wp2_with (first
        | (go_at_call 51; with_reducible (refine H1.out.mono ?_); rintro e w' ⟨rfl, rfl⟩)
        | (go_at_call 51; with_reducible (refine H2.out.mono ?_); rintro e w' ⟨rfl, rfl⟩)
        | fail)
      go_ret
      exact ⟨by have := HG.out; subst this; rfl, rfl⟩
    · have d2 : decide ((b : Int) < (a : Nat)) = false := by simp; omega
      have HG := Lib.hid (show (0 : Int) = r from by rw [← HR.out]; unfold cmpZ; rw [if_neg (by omega), if_neg (by omega)])
      clear HR
      go_enter Try.func39, Try.ntmps39
      go_wp2_with (first
        | (go_at_call 51; with_reducible (refine H1.out.mono ?_); rintro e w' ⟨rfl, rfl⟩)
        | (go_at_call 51; with_reducible (refine H2.out.mono ?_); rintro e w' ⟨rfl, rfl⟩)
        | fail)
      go_ret
      exact ⟨by have := HG.out; subst this; rfl, rfl⟩
set_option maxHeartbeats 1000000 in
theorem cmpS (a b : ByteArray) (w : World) : Calls Try.prog 38 #[.string a, .string b] w fun e w' => e = .returned (.int .i64 (cmpB a b)) ∧ w' = w := by
  have H1 := Lib.hid (nanS a w)
  have H2 := Lib.hid (nanS b w)
  obtain ⟨r, hr⟩ : ∃ r, cmpB a b = r := ⟨_, rfl⟩
  rw [hr]
  have HR := Lib.hid hr
  clear hr
  cases h1 : Op.bytesLess a.toList b.toList with
  | true =>
    have HG := Lib.hid (show (-1 : Int) = r from by rw [← HR.out]; unfold cmpB; rw [h1]; rfl)
    clear HR
    go_enter Try.func38, Try.ntmps38
    go_wp2_with (first
      | (go_at_call 50; with_reducible (refine H1.out.mono ?_); rintro e w' ⟨rfl, rfl⟩)
      | (go_at_call 50; with_reducible (refine H2.out.mono ?_); rintro e w' ⟨rfl, rfl⟩)
      | fail)
    go_ret
    exact ⟨by have := HG.out; subst this; rfl, rfl⟩
  | false =>
    cases h2 : Op.bytesLess b.toList a.toList with
    | true =>
      have HG := Lib.hid (show (1 : Int) = r from by rw [← HR.out]; unfold cmpB; rw [h1, h2]; rfl)
      have e1 : (a.toList == b.toList) = false := by
        rw [beq_eq_false_iff_ne]; intro e; rw [e, bl_irr] at h2; cases h2
      clear HR
      go_enter Try.func38, Try.ntmps38
      go_wp2_with (first
        | (go_at_call 50; with_reducible (refine H1.out.mono ?_); rintro e w' ⟨rfl, rfl⟩)
        | (go_at_call 50; with_reducible (refine H2.out.mono ?_); rintro e w' ⟨rfl, rfl⟩)
        | fail)
      go_ret
      exact ⟨by have := HG.out; subst this; rfl, rfl⟩
    | false =>
      have HG := Lib.hid (show (0 : Int) = r from by rw [← HR.out]; unfold cmpB; rw [h1, h2]; rfl)
      have e1 : (a.toList == b.toList) = true := by
        rw [beq_iff_eq]
        by_cases e : a.toList = b.toList
        · exact e
        · rcases bl_tot _ _ e with h3 | h3
          · rw [h1] at h3; cases h3
          · rw [h2] at h3; cases h3
      clear HR
      go_enter Try.func38, Try.ntmps38
      go_wp2_with (first
        | (go_at_call 50; with_reducible (refine H1.out.mono ?_); rintro e w' ⟨rfl, rfl⟩)
        | (go_at_call 50; with_reducible (refine H2.out.mono ?_); rintro e w' ⟨rfl, rfl⟩)
        | fail)
      go_ret
      exact ⟨by have := HG.out; subst this; rfl, rfl⟩
set_option maxHeartbeats 1000000 in
theorem or_three (x y z : Int) (b : Nat) (w : World) (h0 : w.cell? ⟨b, 0, none⟩ = some (.int .i64 x)) (h1 : w.cell? ⟨b, 1, none⟩ = some (.int .i64 y)) (h2 : w.cell? ⟨b, 2, none⟩ = some (.int .i64 z)) :
    Calls Try.prog 37 #[.slice (some ⟨b, 0, none⟩) 3 3] w fun e w' => e = .returned (.int .i64 (or3 x y z)) ∧ w' = w := by
  obtain ⟨r, hr⟩ : ∃ r, or3 x y z = r := ⟨_, rfl⟩
  rw [hr]
  have HR := Lib.hid hr
  clear hr
  by_cases hx : x = 0
  · subst hx
    by_cases hy : y = 0
    · subst hy
      have HG := Lib.hid (show z = r from by rw [← HR.out]; unfold or3; rw [if_pos rfl, if_pos rfl])
      clear HR
      by_cases hz : z = 0
      · subst hz
        go_enter Try.func37, Try.ntmps37
        go_wp2_with fail
        refine wp_loop_rounds 4 ?_
        rw [rounds_succ]
        go_wp2_with fail
        rw [rounds_succ]
        go_wp2_with fail
        rw [rounds_succ]
        go_wp2_with fail
        rw [rounds_succ]
        go_wp2_with fail
        go_ret
        exact ⟨by have := HG.out; subst this; rfl, rfl⟩
      · skip
        have z1 : (z == 0) = false := by simpa using hz
        have z2 : decide (z = 0) = false := by simpa using hz
        have z3 : (z != 0) = true := by simpa using hz
        clear hz
        go_enter Try.func37, Try.ntmps37
        go_wp2_with fail
        refine wp_loop_rounds 4 ?_
        rw [rounds_succ]
        go_wp2_with fail
        rw [rounds_succ]
        go_wp2_with fail
        rw [rounds_succ]
        go_wp2_with fail
        go_ret
        exact ⟨by have := HG.out; subst this; rfl, rfl⟩
    · have HG := Lib.hid (show y = r from by rw [← HR.out]; unfold or3; rw [if_pos rfl, if_neg hy])
      have y1 : (y == 0) = false := by simpa using hy
      have y2 : decide (y = 0) = false := by simpa using hy
      have y3 : (y != 0) = true := by simpa using hy
      clear HR hy
      go_enter Try.func37, Try.ntmps37
      go_wp2_with fail
      refine wp_loop_rounds 4 ?_
      rw [rounds_succ]
      go_wp2_with fail
      rw [rounds_succ]
      go_wp2_with fail
      go_ret
      exact ⟨by have := HG.out; subst this; rfl, rfl⟩
  · have HG := Lib.hid (show x = r from by rw [← HR.out]; unfold or3; rw [if_neg hx])
    have x1 : (x == 0) = false := by simpa using hx
    have x2 : decide (x = 0) = false := by simpa using hx
    have x3 : (x != 0) = true := by simpa using hx
    clear HR hx
    go_enter Try.func37, Try.ntmps37
    go_wp2_with fail
    refine wp_loop_rounds 4 ?_
    rw [rounds_succ]
    go_wp2_with fail
    go_ret
    exact ⟨by have := HG.out; subst this; rfl, rfl⟩
theorem cell_of3 (w : World) (a b c : Value) (T : TypeId) : (w.alloc (.cells #[a, b, c] T)).cell? ⟨w.heap.size, 0, none⟩ = some a ∧ (w.alloc (.cells #[a, b, c] T)).cell? ⟨w.heap.size, 1, none⟩ = some b ∧ (w.alloc (.cells #[a, b, c] T)).cell? ⟨w.heap.size, 2, none⟩ = some c := by
  have h := Blk.new w T #[a, b, c]
  exact ⟨h.cell 0, h.cell 1, h.cell 2⟩
theorem cell_of3d (w : World) (a b c : Value) (T : TypeId) : (w.alloc (.cells #[a, b, c] T)).drew.cell? ⟨w.heap.size, 0, none⟩ = some a ∧ (w.alloc (.cells #[a, b, c] T)).drew.cell? ⟨w.heap.size, 1, none⟩ = some b ∧ (w.alloc (.cells #[a, b, c] T)).drew.cell? ⟨w.heap.size, 2, none⟩ = some c := cell_of3 w a b c T
theorem Blk.gr {w w' : World} {g : Nat} {t : TypeId} {cs : Array Value} (b : Blk w g t cs) (h : Gr w w') : Blk w' g t cs := b.eq (h.below.block _ b.lt)
theorem two_qg (w : World) (a b : Qu) : Blk ((w.alloc (Obj.cells (qf a).toArray 25)).alloc (Obj.cells (qf b).toArray 25)) w.heap.size 25 (qf a).toArray ∧ Blk ((w.alloc (Obj.cells (qf a).toArray 25)).alloc (Obj.cells (qf b).toArray 25)) (w.heap.size + 1) 25 (qf b).toArray ∧ Gr w ((w.alloc (Obj.cells (qf a).toArray 25)).alloc (Obj.cells (qf b).toArray 25)) := by
  have h1 := Blk.new w 25 (qf a).toArray
  have g1 := (Gr.refl w).alloc (Obj.cells (qf a).toArray 25)
  have s1 : (w.alloc (Obj.cells (qf a).toArray 25)).heap.size = w.heap.size + 1 := by simp
  generalize w.alloc (Obj.cells (qf a).toArray 25) = w1 at *
  have h2 := Blk.new w1 25 (qf b).toArray
  rw [s1] at h2
  exact ⟨h1.gr ((Gr.refl w1).alloc _), h2, g1.alloc _⟩
set_option maxRecDepth 1000000 in
set_option maxHeartbeats 4000000 in
theorem order_any (x y : Qu) (w : World) : Calls Try.prog 33 #[.agg (qf x).toArray, .agg (qf y).toArray] w fun e w' => e = .returned (.int .i64 (cfQ x y)) ∧ Gr w w' := by
  have h2 := two_qg w x y
  unfold qf at h2 ⊢
  unfold cfQ
  obtain ⟨w1, hw1⟩ : ∃ w1 : World, (w.alloc (Obj.cells #[.string x.n, .int .u16 (x.k : Nat), .int .u16 (x.c : Nat)] 25)).alloc (Obj.cells #[.string y.n, .int .u16 (y.k : Nat), .int .u16 (y.c : Nat)] 25) = w1 := ⟨_, rfl⟩
  rw [hw1] at h2
  have HF := Lib.hid (fun (w' : World) (q : Gr w1 w') => (show Gr w1 w' ∧ w'.cell? ⟨w.heap.size, 0, none⟩ = some (.string x.n) ∧ w'.cell? ⟨w.heap.size, 1, none⟩ = some (.int .u16 (x.k : Nat)) ∧ w'.cell? ⟨w.heap.size, 2, none⟩ = some (.int .u16 (x.c : Nat)) ∧ w'.cell? ⟨w.heap.size + 1, 0, none⟩ = some (.string y.n) ∧ w'.cell? ⟨w.heap.size + 1, 1, none⟩ = some (.int .u16 (y.k : Nat)) ∧ w'.cell? ⟨w.heap.size + 1, 2, none⟩ = some (.int .u16 (y.c : Nat)) from by
    obtain ⟨a0, a1, a2⟩ := q_cells (q := x) (h2.1.gr q)
    obtain ⟨b0, b1, b2⟩ := q_cells (q := y) (h2.2.1.gr q)
    exact ⟨q, a0, a1, a2, b0, b1, b2⟩))
  have HG := Lib.hid h2.2.2
  clear h2
  have HK1 := Lib.hid (fun W => cmpS x.n y.n W)
  have HK2 := Lib.hid (fun W => cmpH x.k y.k W)
  have HK3 := Lib.hid (fun W => cmpH x.c y.c W)
  generalize cmpB x.n y.n = z1 at *
  generalize cmpZ (x.k : Nat) (y.k : Nat) = z2 at *
  generalize cmpZ (x.c : Nat) (y.c : Nat) = z3 at *
  have G0 := Lib.hid (Gr.refl w1).drew
  go_enter Try.func33, Try.ntmps33
  go_upto_region 1 with (fail)
  try rw [hw1]
  try clear hw1
  go_region_held3 (fun w' => Gr w1 w' ∧ w'.cell? ⟨w.heap.size, 0, none⟩ = some (.string x.n) ∧ w'.cell? ⟨w.heap.size, 1, none⟩ = some (.int .u16 (x.k : Nat)) ∧ w'.cell? ⟨w.heap.size, 2, none⟩ = some (.int .u16 (x.c : Nat)) ∧ w'.cell? ⟨w.heap.size + 1, 0, none⟩ = some (.string y.n) ∧ w'.cell? ⟨w.heap.size + 1, 1, none⟩ = some (.int .u16 (y.k : Nat)) ∧ w'.cell? ⟨w.heap.size + 1, 2, none⟩ = some (.int .u16 (y.c : Nat))) (first | exact HF.out _ G0.out | exact HF.out _ (by assumption) | exact HF.out _ (Gr.alloc (by assumption) _)) (first
    | (go_at_call 38; with_reducible (refine (HK1.out _).mono ?_); rintro e w4 ⟨rfl, rfl⟩)
    | (go_at_call 39; with_reducible (refine (HK2.out _).mono ?_); rintro e w5 ⟨rfl, rfl⟩)
    | (go_at_call 39; with_reducible (refine (HK3.out _).mono ?_); rintro e w6 ⟨rfl, rfl⟩)
    | (go_at_call 37; refine (or_three z1 z2 z3 _ _ (cell_of3d _ _ _ _ _).1 (cell_of3d _ _ _ _ _).2.1 (cell_of3d _ _ _ _ _).2.2).mono ?_; rintro e w7 ⟨rfl, rfl⟩)
    | (go_at_call 37; refine (or_three z1 z2 z3 _ _ (cell_of3 _ _ _ _ _).1 (cell_of3 _ _ _ _ _).2.1 (cell_of3 _ _ _ _ _).2.2).mono ?_; rintro e w7 ⟨rfl, rfl⟩))
  all_goals (go_wp2_with fail)
  all_goals (go_ret; exact ⟨rfl, HG.out.trans (Gr.alloc (by assumption) _)⟩)
end Go.Proofs.Ytnmgeoeppfdnhaa
