/- The contracts of derricklaw05.few and record.Same. -/
import Derived.Test.YtlphbeaaeeohjaaDoorRqs
import Derived.Deep.RegionHeld
namespace Go.Proofs.YtlphbeaaeeohjaaDoor
open Go.RowKit
set_option linter.unusedVariables false

/-- Texts of 700 bytes at most. -/
def fewR (r : Rc) : Bool := decide (r.n.size ≤ 700) && decide (r.d.size ≤ 700)
theorem few_any (r : Rc) (w : World) :
    Calls Tryd.prog 9 #[.agg #[.string r.n, .int .u16 (r.k : Nat), .int .u16 (r.c : Nat), .int .u32 (r.t : Nat), .string r.d]] w fun e w' => e = .returned (.bool (fewR r)) ∧ Below w.heap.size w w' := by
  obtain ⟨n, k, c, t, d⟩ := r
  simp only [fewR]
  by_cases h1 : n.size ≤ 700
  · have b1 : decide ((n.size : Int) ≤ 700) = true := by simp; omega
    by_cases h2 : d.size ≤ 700
    · have b2 : decide ((d.size : Int) ≤ 700) = true := by simp; omega
      have e : (decide (n.size ≤ 700) && decide (d.size ≤ 700)) = true := by simp [h1, h2]
      rw [e]
      clear h1 h2 e
      go_enter Tryd.func9, Tryd.ntmps9
      go_wp2_with fail
      go_ret
      exact ⟨rfl, (Below.refl _ w).alloc (Nat.le_refl _) _⟩
    · have b2 : decide ((d.size : Int) ≤ 700) = false := by simp; omega
      have e : (decide (n.size ≤ 700) && decide (d.size ≤ 700)) = false := by simp [h1, h2]
      rw [e]
      clear h1 h2 e
      go_enter Tryd.func9, Tryd.ntmps9
      go_wp2_with fail
      go_ret
      exact ⟨rfl, (Below.refl _ w).alloc (Nat.le_refl _) _⟩
  · have b1 : decide ((n.size : Int) ≤ 700) = false := by simp; omega
    have e : (decide (n.size ≤ 700) && decide (d.size ≤ 700)) = false := by simp [h1]
    rw [e]
    clear h1 e
    go_enter Tryd.func9, Tryd.ntmps9
    go_wp2_with fail
    go_ret
    exact ⟨rfl, (Below.refl _ w).alloc (Nat.le_refl _) _⟩

def keyR (a b : Rc) : Bool := decide (a.n.toList = b.n.toList ∧ (a.k : Int) = (b.k : Int) ∧ (a.c : Int) = (b.c : Int))
def sameR (a b : Rc) : Bool := keyR a b && (a.d.toList == b.d.toList)

/-- The two boxes of a call. -/
structure Bx (w : World) (xs ys : Array Value) (W : World) : Prop where
  bel : Below w.heap.size w W
  one : W.heap[w.heap.size]? = some (.cells xs 25 (0, 0))
  two : W.heap[w.heap.size + 1]? = some (.cells ys 25 (0, 0))
theorem Bx.call {w W W' : World} {xs ys : Array Value} (h : Bx w xs ys W) (hb : Below W.heap.size W W') : Bx w xs ys W' :=
  ⟨h.bel.trans (hb.mono h.bel.size), (hb.block _ (heap_lt h.one)).trans h.one, (hb.block _ (heap_lt h.two)).trans h.two⟩
theorem Bx.start (w : World) (xs ys : Array Value) : Bx w xs ys ((w.alloc (Obj.cells xs 25)).alloc (Obj.cells ys 25)) := by
  obtain ⟨a, b, c⟩ := two_blocks (w := w) (cs := xs) (zs := ys) (t := 25) (Below.refl _ _)
  exact ⟨c, a, b⟩
theorem Bx.drew {w W : World} {xs ys : Array Value} (h : Bx w xs ys W) : Bx w xs ys W.drew := ⟨h.bel.drew, h.one, h.two⟩
structure Cells5 (W : World) (g : Nat) (a b c d e : Value) : Prop where
  c0 : W.cell? ⟨g, 0, none⟩ = some a
  c1 : W.cell? ⟨g, 1, none⟩ = some b
  c2 : W.cell? ⟨g, 2, none⟩ = some c
  c3 : W.cell? ⟨g, 3, none⟩ = some d
  c4 : W.cell? ⟨g, 4, none⟩ = some e

set_option maxRecDepth 100000 in
set_option maxHeartbeats 1000000 in
theorem same_yes (n d d' : ByteArray) (k c t t' : Nat) (w : World) :
    Calls Tryd.prog 19 #[.agg #[.string n, .int .u16 (k : Nat), .int .u16 (c : Nat), .int .u32 (t : Nat), .string d], .agg #[.string n, .int .u16 (k : Nat), .int .u16 (c : Nat), .int .u32 (t' : Nat), .string d']] w fun e w' => e = .returned (.bool (d.toList == d'.toList)) ∧ Below w.heap.size w w' := by
  have HS := Lib.hid (Bx.start w #[.string n, .int .u16 (k : Nat), .int .u16 (c : Nat), .int .u32 (t : Nat), .string d] #[.string n, .int .u16 (k : Nat), .int .u16 (c : Nat), .int .u32 (t' : Nat), .string d'])
  obtain ⟨W, hW⟩ : ∃ W, W = ((w.alloc (Obj.cells #[.string n, .int .u16 (k : Nat), .int .u16 (c : Nat), .int .u32 (t : Nat), .string d] 25)).alloc (Obj.cells #[.string n, .int .u16 (k : Nat), .int .u16 (c : Nat), .int .u32 (t' : Nat), .string d'] 25)) := ⟨_, rfl⟩
  rw [← hW] at HS
  have HH := Lib.hid hW
  clear hW
  go_enter Tryd.func19, Tryd.ntmps19
  go_wp2_with fail
  rw [← HH.out]
  clear HH
  first | (go_region_held (fun w' => w'.cell? ⟨w.heap.size, 0, none⟩ = some (.string n) ∧ w'.cell? ⟨w.heap.size, 1, none⟩ = some (.int .u16 (k : Nat)) ∧ w'.cell? ⟨w.heap.size, 2, none⟩ = some (.int .u16 (c : Nat)) ∧ w'.cell? ⟨w.heap.size, 3, none⟩ = some (.int .u32 (t : Nat)) ∧ w'.cell? ⟨w.heap.size, 4, none⟩ = some (.string d) ∧ w'.cell? ⟨w.heap.size + 1, 0, none⟩ = some (.string n) ∧ w'.cell? ⟨w.heap.size + 1, 1, none⟩ = some (.int .u16 (k : Nat)) ∧ w'.cell? ⟨w.heap.size + 1, 2, none⟩ = some (.int .u16 (c : Nat)) ∧ w'.cell? ⟨w.heap.size + 1, 3, none⟩ = some (.int .u32 (t' : Nat)) ∧ w'.cell? ⟨w.heap.size + 1, 4, none⟩ = some (.string d')) (first | exact ⟨blk_cell HS.out.drew.one 0, blk_cell HS.out.drew.one 1, blk_cell HS.out.drew.one 2, blk_cell HS.out.drew.one 3, blk_cell HS.out.drew.one 4, blk_cell HS.out.drew.two 0, blk_cell HS.out.drew.two 1, blk_cell HS.out.drew.two 2, blk_cell HS.out.drew.two 3, blk_cell HS.out.drew.two 4⟩ | exact ⟨blk_cell HS2.out.one 0, blk_cell HS2.out.one 1, blk_cell HS2.out.one 2, blk_cell HS2.out.one 3, blk_cell HS2.out.one 4, blk_cell HS2.out.two 0, blk_cell HS2.out.two 1, blk_cell HS2.out.two 2, blk_cell HS2.out.two 3, blk_cell HS2.out.two 4⟩ | exact ⟨blk_cell HS3.out.one 0, blk_cell HS3.out.one 1, blk_cell HS3.out.one 2, blk_cell HS3.out.one 3, blk_cell HS3.out.one 4, blk_cell HS3.out.two 0, blk_cell HS3.out.two 1, blk_cell HS3.out.two 2, blk_cell HS3.out.two 3, blk_cell HS3.out.two 4⟩)
    (first | (go_at_call 10; refine (key_any _ _ _ _ _ W.drew).mono ?_; rintro e w2 ⟨rfl, hb2⟩; have HS2 := Lib.hid (HS.out.drew.call hb2); clear hb2) | (go_at_call 10; refine (key_any _ _ _ _ _ w2).mono ?_; rintro e w3 ⟨rfl, hb3⟩; have HS3 := Lib.hid (HS2.out.call hb3); clear hb3))) | fail
  go_wp2_with fail
  go_ret
  exact ⟨rfl, HS3.out.bel⟩

set_option maxRecDepth 100000 in
set_option maxHeartbeats 1000000 in
theorem same_no1 (n n' d d' : ByteArray) (k k' c c' t t' : Nat) (w : World) (h : ¬ n.toList = n'.toList) :
    Calls Tryd.prog 19 #[.agg #[.string n, .int .u16 (k : Nat), .int .u16 (c : Nat), .int .u32 (t : Nat), .string d], .agg #[.string n', .int .u16 (k' : Nat), .int .u16 (c' : Nat), .int .u32 (t' : Nat), .string d']] w fun e w' => e = .returned (.bool false) ∧ Below w.heap.size w w' := by
  have HS := Lib.hid (Bx.start w #[.string n, .int .u16 (k : Nat), .int .u16 (c : Nat), .int .u32 (t : Nat), .string d] #[.string n', .int .u16 (k' : Nat), .int .u16 (c' : Nat), .int .u32 (t' : Nat), .string d'])
  obtain ⟨W, hW⟩ : ∃ W, W = ((w.alloc (Obj.cells #[.string n, .int .u16 (k : Nat), .int .u16 (c : Nat), .int .u32 (t : Nat), .string d] 25)).alloc (Obj.cells #[.string n', .int .u16 (k' : Nat), .int .u16 (c' : Nat), .int .u32 (t' : Nat), .string d'] 25)) := ⟨_, rfl⟩
  rw [← hW] at HS
  have HH := Lib.hid hW
  clear hW
  go_enter Tryd.func19, Tryd.ntmps19
  go_wp2_with fail
  rw [← HH.out]
  clear HH
  have Wa0 : W.cell? ⟨w.heap.size, 0, none⟩ = some (.string n) := blk_cell HS.out.one 0; have Wa1 : W.cell? ⟨w.heap.size, 1, none⟩ = some (.int .u16 (k : Nat)) := blk_cell HS.out.one 1; have Wa2 : W.cell? ⟨w.heap.size, 2, none⟩ = some (.int .u16 (c : Nat)) := blk_cell HS.out.one 2; have Wa3 : W.cell? ⟨w.heap.size, 3, none⟩ = some (.int .u32 (t : Nat)) := blk_cell HS.out.one 3; have Wa4 : W.cell? ⟨w.heap.size, 4, none⟩ = some (.string d) := blk_cell HS.out.one 4; have Wb0 : W.cell? ⟨w.heap.size + 1, 0, none⟩ = some (.string n') := blk_cell HS.out.two 0; have Wb1 : W.cell? ⟨w.heap.size + 1, 1, none⟩ = some (.int .u16 (k' : Nat)) := blk_cell HS.out.two 1; have Wb2 : W.cell? ⟨w.heap.size + 1, 2, none⟩ = some (.int .u16 (c' : Nat)) := blk_cell HS.out.two 2; have Wb3 : W.cell? ⟨w.heap.size + 1, 3, none⟩ = some (.int .u32 (t' : Nat)) := blk_cell HS.out.two 3; have Wb4 : W.cell? ⟨w.heap.size + 1, 4, none⟩ = some (.string d') := blk_cell HS.out.two 4
  first | (go_region_with (first | (go_at_call 10; refine (key_any _ _ _ _ _ W.drew).mono ?_; rintro e w2 ⟨rfl, hb2⟩; have HS2 := Lib.hid (HS.out.drew.call hb2); clear hb2; have w2a0 : w2.cell? ⟨w.heap.size, 0, none⟩ = some (.string n) := blk_cell HS2.out.one 0; have w2a1 : w2.cell? ⟨w.heap.size, 1, none⟩ = some (.int .u16 (k : Nat)) := blk_cell HS2.out.one 1; have w2a2 : w2.cell? ⟨w.heap.size, 2, none⟩ = some (.int .u16 (c : Nat)) := blk_cell HS2.out.one 2; have w2a3 : w2.cell? ⟨w.heap.size, 3, none⟩ = some (.int .u32 (t : Nat)) := blk_cell HS2.out.one 3; have w2a4 : w2.cell? ⟨w.heap.size, 4, none⟩ = some (.string d) := blk_cell HS2.out.one 4; have w2b0 : w2.cell? ⟨w.heap.size + 1, 0, none⟩ = some (.string n') := blk_cell HS2.out.two 0; have w2b1 : w2.cell? ⟨w.heap.size + 1, 1, none⟩ = some (.int .u16 (k' : Nat)) := blk_cell HS2.out.two 1; have w2b2 : w2.cell? ⟨w.heap.size + 1, 2, none⟩ = some (.int .u16 (c' : Nat)) := blk_cell HS2.out.two 2; have w2b3 : w2.cell? ⟨w.heap.size + 1, 3, none⟩ = some (.int .u32 (t' : Nat)) := blk_cell HS2.out.two 3; have w2b4 : w2.cell? ⟨w.heap.size + 1, 4, none⟩ = some (.string d') := blk_cell HS2.out.two 4) | (go_at_call 10; refine (key_any _ _ _ _ _ w2).mono ?_; rintro e w3 ⟨rfl, hb3⟩; have HS3 := Lib.hid (HS2.out.call hb3); clear hb3))) | fail
  all_goals
    go_wp2_with fail
    go_ret
    exact ⟨rfl, HS3.out.bel⟩

set_option maxRecDepth 100000 in
set_option maxHeartbeats 1000000 in
theorem same_no2 (n d d' : ByteArray) (k k' c c' t t' : Nat) (w : World) (h : ¬ (k : Int) = (k' : Int)) :
    Calls Tryd.prog 19 #[.agg #[.string n, .int .u16 (k : Nat), .int .u16 (c : Nat), .int .u32 (t : Nat), .string d], .agg #[.string n, .int .u16 (k' : Nat), .int .u16 (c' : Nat), .int .u32 (t' : Nat), .string d']] w fun e w' => e = .returned (.bool false) ∧ Below w.heap.size w w' := by
  have HS := Lib.hid (Bx.start w #[.string n, .int .u16 (k : Nat), .int .u16 (c : Nat), .int .u32 (t : Nat), .string d] #[.string n, .int .u16 (k' : Nat), .int .u16 (c' : Nat), .int .u32 (t' : Nat), .string d'])
  obtain ⟨W, hW⟩ : ∃ W, W = ((w.alloc (Obj.cells #[.string n, .int .u16 (k : Nat), .int .u16 (c : Nat), .int .u32 (t : Nat), .string d] 25)).alloc (Obj.cells #[.string n, .int .u16 (k' : Nat), .int .u16 (c' : Nat), .int .u32 (t' : Nat), .string d'] 25)) := ⟨_, rfl⟩
  rw [← hW] at HS
  have HH := Lib.hid hW
  clear hW
  go_enter Tryd.func19, Tryd.ntmps19
  go_wp2_with fail
  rw [← HH.out]
  clear HH
  have Wa0 : W.cell? ⟨w.heap.size, 0, none⟩ = some (.string n) := blk_cell HS.out.one 0; have Wa1 : W.cell? ⟨w.heap.size, 1, none⟩ = some (.int .u16 (k : Nat)) := blk_cell HS.out.one 1; have Wa2 : W.cell? ⟨w.heap.size, 2, none⟩ = some (.int .u16 (c : Nat)) := blk_cell HS.out.one 2; have Wa3 : W.cell? ⟨w.heap.size, 3, none⟩ = some (.int .u32 (t : Nat)) := blk_cell HS.out.one 3; have Wa4 : W.cell? ⟨w.heap.size, 4, none⟩ = some (.string d) := blk_cell HS.out.one 4; have Wb0 : W.cell? ⟨w.heap.size + 1, 0, none⟩ = some (.string n) := blk_cell HS.out.two 0; have Wb1 : W.cell? ⟨w.heap.size + 1, 1, none⟩ = some (.int .u16 (k' : Nat)) := blk_cell HS.out.two 1; have Wb2 : W.cell? ⟨w.heap.size + 1, 2, none⟩ = some (.int .u16 (c' : Nat)) := blk_cell HS.out.two 2; have Wb3 : W.cell? ⟨w.heap.size + 1, 3, none⟩ = some (.int .u32 (t' : Nat)) := blk_cell HS.out.two 3; have Wb4 : W.cell? ⟨w.heap.size + 1, 4, none⟩ = some (.string d') := blk_cell HS.out.two 4
  first | (go_region_with (first | (go_at_call 10; refine (key_any _ _ _ _ _ W.drew).mono ?_; rintro e w2 ⟨rfl, hb2⟩; have HS2 := Lib.hid (HS.out.drew.call hb2); clear hb2; have w2a0 : w2.cell? ⟨w.heap.size, 0, none⟩ = some (.string n) := blk_cell HS2.out.one 0; have w2a1 : w2.cell? ⟨w.heap.size, 1, none⟩ = some (.int .u16 (k : Nat)) := blk_cell HS2.out.one 1; have w2a2 : w2.cell? ⟨w.heap.size, 2, none⟩ = some (.int .u16 (c : Nat)) := blk_cell HS2.out.one 2; have w2a3 : w2.cell? ⟨w.heap.size, 3, none⟩ = some (.int .u32 (t : Nat)) := blk_cell HS2.out.one 3; have w2a4 : w2.cell? ⟨w.heap.size, 4, none⟩ = some (.string d) := blk_cell HS2.out.one 4; have w2b0 : w2.cell? ⟨w.heap.size + 1, 0, none⟩ = some (.string n) := blk_cell HS2.out.two 0; have w2b1 : w2.cell? ⟨w.heap.size + 1, 1, none⟩ = some (.int .u16 (k' : Nat)) := blk_cell HS2.out.two 1; have w2b2 : w2.cell? ⟨w.heap.size + 1, 2, none⟩ = some (.int .u16 (c' : Nat)) := blk_cell HS2.out.two 2; have w2b3 : w2.cell? ⟨w.heap.size + 1, 3, none⟩ = some (.int .u32 (t' : Nat)) := blk_cell HS2.out.two 3; have w2b4 : w2.cell? ⟨w.heap.size + 1, 4, none⟩ = some (.string d') := blk_cell HS2.out.two 4) | (go_at_call 10; refine (key_any _ _ _ _ _ w2).mono ?_; rintro e w3 ⟨rfl, hb3⟩; have HS3 := Lib.hid (HS2.out.call hb3); clear hb3))) | fail
  all_goals
    go_wp2_with fail
    go_ret
    exact ⟨rfl, HS3.out.bel⟩

set_option maxRecDepth 100000 in
set_option maxHeartbeats 1000000 in
theorem same_no3 (n d d' : ByteArray) (k c c' t t' : Nat) (w : World) (h : ¬ (c : Int) = (c' : Int)) :
    Calls Tryd.prog 19 #[.agg #[.string n, .int .u16 (k : Nat), .int .u16 (c : Nat), .int .u32 (t : Nat), .string d], .agg #[.string n, .int .u16 (k : Nat), .int .u16 (c' : Nat), .int .u32 (t' : Nat), .string d']] w fun e w' => e = .returned (.bool false) ∧ Below w.heap.size w w' := by
  have HS := Lib.hid (Bx.start w #[.string n, .int .u16 (k : Nat), .int .u16 (c : Nat), .int .u32 (t : Nat), .string d] #[.string n, .int .u16 (k : Nat), .int .u16 (c' : Nat), .int .u32 (t' : Nat), .string d'])
  obtain ⟨W, hW⟩ : ∃ W, W = ((w.alloc (Obj.cells #[.string n, .int .u16 (k : Nat), .int .u16 (c : Nat), .int .u32 (t : Nat), .string d] 25)).alloc (Obj.cells #[.string n, .int .u16 (k : Nat), .int .u16 (c' : Nat), .int .u32 (t' : Nat), .string d'] 25)) := ⟨_, rfl⟩
  rw [← hW] at HS
  have HH := Lib.hid hW
  clear hW
  go_enter Tryd.func19, Tryd.ntmps19
  go_wp2_with fail
  rw [← HH.out]
  clear HH
  have Wa0 : W.cell? ⟨w.heap.size, 0, none⟩ = some (.string n) := blk_cell HS.out.one 0; have Wa1 : W.cell? ⟨w.heap.size, 1, none⟩ = some (.int .u16 (k : Nat)) := blk_cell HS.out.one 1; have Wa2 : W.cell? ⟨w.heap.size, 2, none⟩ = some (.int .u16 (c : Nat)) := blk_cell HS.out.one 2; have Wa3 : W.cell? ⟨w.heap.size, 3, none⟩ = some (.int .u32 (t : Nat)) := blk_cell HS.out.one 3; have Wa4 : W.cell? ⟨w.heap.size, 4, none⟩ = some (.string d) := blk_cell HS.out.one 4; have Wb0 : W.cell? ⟨w.heap.size + 1, 0, none⟩ = some (.string n) := blk_cell HS.out.two 0; have Wb1 : W.cell? ⟨w.heap.size + 1, 1, none⟩ = some (.int .u16 (k : Nat)) := blk_cell HS.out.two 1; have Wb2 : W.cell? ⟨w.heap.size + 1, 2, none⟩ = some (.int .u16 (c' : Nat)) := blk_cell HS.out.two 2; have Wb3 : W.cell? ⟨w.heap.size + 1, 3, none⟩ = some (.int .u32 (t' : Nat)) := blk_cell HS.out.two 3; have Wb4 : W.cell? ⟨w.heap.size + 1, 4, none⟩ = some (.string d') := blk_cell HS.out.two 4
  first | (go_region_with (first | (go_at_call 10; refine (key_any _ _ _ _ _ W.drew).mono ?_; rintro e w2 ⟨rfl, hb2⟩; have HS2 := Lib.hid (HS.out.drew.call hb2); clear hb2; have w2a0 : w2.cell? ⟨w.heap.size, 0, none⟩ = some (.string n) := blk_cell HS2.out.one 0; have w2a1 : w2.cell? ⟨w.heap.size, 1, none⟩ = some (.int .u16 (k : Nat)) := blk_cell HS2.out.one 1; have w2a2 : w2.cell? ⟨w.heap.size, 2, none⟩ = some (.int .u16 (c : Nat)) := blk_cell HS2.out.one 2; have w2a3 : w2.cell? ⟨w.heap.size, 3, none⟩ = some (.int .u32 (t : Nat)) := blk_cell HS2.out.one 3; have w2a4 : w2.cell? ⟨w.heap.size, 4, none⟩ = some (.string d) := blk_cell HS2.out.one 4; have w2b0 : w2.cell? ⟨w.heap.size + 1, 0, none⟩ = some (.string n) := blk_cell HS2.out.two 0; have w2b1 : w2.cell? ⟨w.heap.size + 1, 1, none⟩ = some (.int .u16 (k : Nat)) := blk_cell HS2.out.two 1; have w2b2 : w2.cell? ⟨w.heap.size + 1, 2, none⟩ = some (.int .u16 (c' : Nat)) := blk_cell HS2.out.two 2; have w2b3 : w2.cell? ⟨w.heap.size + 1, 3, none⟩ = some (.int .u32 (t' : Nat)) := blk_cell HS2.out.two 3; have w2b4 : w2.cell? ⟨w.heap.size + 1, 4, none⟩ = some (.string d') := blk_cell HS2.out.two 4) | (go_at_call 10; refine (key_any _ _ _ _ _ w2).mono ?_; rintro e w3 ⟨rfl, hb3⟩; have HS3 := Lib.hid (HS2.out.call hb3); clear hb3))) | fail
  all_goals
    go_wp2_with fail
    go_ret
    exact ⟨rfl, HS3.out.bel⟩

theorem same_any (a b : Rc) (w : World) :
    Calls Tryd.prog 19 #[.agg #[.string a.n, .int .u16 (a.k : Nat), .int .u16 (a.c : Nat), .int .u32 (a.t : Nat), .string a.d], .agg #[.string b.n, .int .u16 (b.k : Nat), .int .u16 (b.c : Nat), .int .u32 (b.t : Nat), .string b.d]] w fun e w' => e = .returned (.bool (sameR a b)) ∧ Below w.heap.size w w' := by
  obtain ⟨n, k, c, t, d⟩ := a
  obtain ⟨n', k', c', t', d'⟩ := b
  unfold sameR keyR
  simp only
  by_cases h1 : n.toList = n'.toList
  · have e1 : n = n' := by rw [ByteArray.toList_eq, ByteArray.toList_eq] at h1; exact ba_ext h1
    subst e1
    by_cases h2 : (k : Int) = (k' : Int)
    · have e2 : k = k' := by omega
      subst e2
      by_cases h3 : (c : Int) = (c' : Int)
      · have e3 : c = c' := by omega
        subst e3
        have e : (decide (n.toList = n.toList ∧ (k : Int) = (k : Int) ∧ (c : Int) = (c : Int)) && (d.toList == d'.toList)) = (d.toList == d'.toList) := by simp
        rw [e]
        exact same_yes n d d' k c t t' w
      · have e : (decide (n.toList = n.toList ∧ (k : Int) = (k : Int) ∧ (c : Int) = (c' : Int)) && (d.toList == d'.toList)) = false := by simp [h3]
        rw [e]
        exact same_no3 n d d' k c c' t t' w h3
    · have e : (decide (n.toList = n.toList ∧ (k : Int) = (k' : Int) ∧ (c : Int) = (c' : Int)) && (d.toList == d'.toList)) = false := by simp [h2]
      rw [e]
      exact same_no2 n d d' k k' c c' t t' w h2
  · have e : (decide (n.toList = n'.toList ∧ (k : Int) = (k' : Int) ∧ (c : Int) = (c' : Int)) && (d.toList == d'.toList)) = false := by simp [h1]
    rw [e]
    exact same_no1 n n' d d' k k' c c' t t' w h1
end Go.Proofs.YtlphbeaaeeohjaaDoor
