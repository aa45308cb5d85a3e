/- The document's example on the program's model (written by tools/gen_emn.py). -/
import Derived.Test.YtnmgeoeppfdnhaaEmp
namespace Go.Proofs.Ytnmgeoeppfdnhaa
open Go.RowKit
set_option linter.unusedVariables false
set_option linter.unusedSimpArgs false

def q0 : Qu := ⟨⟨#[1, 97, 0]⟩, 1, 1⟩
def X0 : Ev := ⟨⟨q0, [], 0, 3, 9⟩, none, 0⟩
theorem q0_fine : q0.Fine := ⟨by unfold maxLen; decide, by decide, by decide⟩
theorem X0_re (X : Nat → Prop) (w : World) : Re X w X0 := ⟨Sl.nil rf w, (fun b off e => by cases e), q0_fine, by decide, by decide⟩
theorem X0_ins : insL [] 2 X0.e 1 = ([X0.e], 0) := by rfl
theorem X0_look : lookL [X0.e] q0 8 = (X0.e, true) := by unfold lookL entL; simp [X0]
theorem X0_late : lookL [X0.e] q0 9 = (default, false) := by unfold lookL entL; simp [X0]
theorem X0_ent : entL [X0.e] q0 = some X0.e := by unfold entL; simp [X0]
/-- What a look leaves: a box of what it told. -/
theorem box_low {w w2 : World} {x : Ev} (hb : Below w.heap.size w w2) : Below w.heap.size w ((w2.alloc (Obj.cells #[.string ⟨#[]⟩, .int .u16 0, .int .u16 0, .slice none 0 0, .int .i64 0, .int .i64 0, .int .u64 0] 35)).setRow w2.heap.size (evL x).toArray) := hb.trans ((box_of w2 x).2.mono hb.size)
set_option maxRecDepth 100000 in
set_option maxHeartbeats 4000000 in
theorem shown_any (w : World) : Calls Try.prog 9 #[] w fun e w' => e = .returned (.bool true) ∧ Below w.heap.size w w' := by
  have HN := Lib.hid (new_any 2 (by omega) w)
  go_enter Try.func9, Try.ntmps9
  go_upto_region 2 with (go_at_call 10; (with_reducible (refine (HN.out).mono ?_)); rintro e w1 ⟨h, p, rfl, v1, b1, hh, hp⟩; have HV1 := Lib.hid (And.intro v1 (And.intro b1 (And.intro hh hp))); clear v1 b1 hh hp)
  go_upto_region 3 with (fail)
  have hX : Blk (w1.alloc (Obj.cells #[.string ⟨#[1, 97, 0]⟩, .int .u16 1, .int .u16 1, .slice none 0 0, .int .i64 0, .int .i64 3, .int .u64 9] 35)) w1.heap.size 35 #[.string ⟨#[1, 97, 0]⟩, .int .u16 1, .int .u16 1, .slice none 0 0, .int .i64 0, .int .i64 3, .int .u64 9] := Blk.new _ _ _
  have hb2 := (Below.refl w1.heap.size w1).alloc (Nat.le_refl _) (Obj.cells #[.string ⟨#[1, 97, 0]⟩, .int .u16 1, .int .u16 1, .slice none 0 0, .int .i64 0, .int .i64 3, .int .u64 9] 35)
  have v2 := HV1.out.1.low hb2
  have hI := ins_any X0 1 v2 (by simp) (X0_re _ _)
  rw [X0_ins, evV_eq] at hI
  have HI := Lib.hid (show Calls Try.prog 18 #[.pointer (some ⟨h, 0, none⟩), .agg #[.string ⟨#[1, 97, 0]⟩, .int .u16 1, .int .u16 1, .slice none 0 0, .int .i64 0, .int .i64 3, .int .u64 9], .int .u64 1] (w1.alloc (Obj.cells #[.string ⟨#[1, 97, 0]⟩, .int .u16 1, .int .u16 1, .slice none 0 0, .int .i64 0, .int .i64 3, .int .u64 9] 35)) _ from hI)
  have HX := Lib.hid (And.intro hX (And.intro (HV1.out.2.1.trans (hb2.mono HV1.out.2.1.size)) (Nat.lt_of_lt_of_le v2.em.lt (Nat.le_refl _))))
  have HPX := Lib.hid (show p ≠ w1.heap.size by have := HV1.out.1.em.lt; omega)
  clear hX hb2 v2 hI HN
  generalize w1.alloc (Obj.cells #[.string ⟨#[1, 97, 0]⟩, .int .u16 1, .int .u16 1, .slice none 0 0, .int .i64 0, .int .i64 3, .int .u64 9] 35) = w2 at *
  generalize w1.heap.size = g at *
  have x0 := HX.out.1.cell 0
  have x1 := HX.out.1.cell 1
  have x2 := HX.out.1.cell 2
  have x3 := HX.out.1.cell 3
  have x4 := HX.out.1.cell 4
  have x5 := HX.out.1.cell 5
  have x6 := HX.out.1.cell 6
  simp only [List.getElem?_toArray, List.getElem?_cons_zero, List.getElem?_cons_succ] at x0 x1 x2 x3 x4 x5 x6
  go_upto_region 4 with (go_at_call 18; (with_reducible (refine (HI.out).mono ?_)); rintro e w3 ⟨f3, rfl, v3, c3⟩; have HV3 := Lib.hid (And.intro v3 c3); clear v3 c3)
  clear x0 x1 x2 x3 x4 x5 x6
  have hx3 := HX.out.1.ch HV3.out.2 (fun e => HPX.out e.symm)
  have hb3 : Below w.heap.size w w3 := (Ch.bel HX.out.2.1 |>.trans HV3.out.2 : Ch (fun i => i = p) w w3).isBelow (fun i e => by have := HV1.out.2.2.2; omega) (Nat.le_refl _)
  have hL := look_any q0 q0_fine 8 HV3.out.1
  rw [X0_look] at hL
  have HX3 := Lib.hid (And.intro hx3 (And.intro hb3 HV3.out.1))
  have HL := Lib.hid (show Calls Try.prog 17 #[.pointer (some ⟨h, 0, none⟩), .agg #[.string ⟨#[1, 97, 0]⟩, .int .u16 1, .int .u16 1], .int .u64 8] w3 _ from hL)
  clear hx3 hb3 hL HX HV3 HI HPX HV1
  have x0 := HX3.out.1.cell 0
  have x1 := HX3.out.1.cell 1
  have x2 := HX3.out.1.cell 2
  simp only [List.getElem?_toArray, List.getElem?_cons_zero, List.getElem?_cons_succ] at x0 x1 x2
  go_upto_region 5 with (first | (refine wpList_store_row rfl 35 _ _ rfl (w4.heap.size) (evL ⟨X0.e, A4, cap4⟩).toArray rfl rfl 35 _ HNw4.out (infoEa _) rfl (evL_one _) ?_) | (go_at_call 17; (with_reducible (refine (HL.out).mono ?_)); rintro e w4 ⟨A4, cap4, rfl, sl4, nw4, hb4⟩; have HB4 := Lib.hid hb4; have HNw4 := Lib.hid (Blk.new w4 35 zE); unfold zE at HNw4; clear hb4))
  clear x0 x1 x2
  have hb4 := box_low HB4.out (x := ⟨X0.e, A4, cap4⟩)
  have HX4 := Lib.hid (And.intro (HX3.out.1.eq (hb4.block _ HX3.out.1.lt)) (And.intro (HX3.out.2.1.trans (hb4.mono HX3.out.2.1.size)) (HX3.out.2.2.low hb4)))
  have HK4 := Lib.hid (box_of w4 ⟨X0.e, A4, cap4⟩).1
  unfold zE at HK4
  clear hb4 HB4 HNw4 HL HX3
  generalize (w4.alloc (Obj.cells #[.string ⟨#[]⟩, .int .u16 0, .int .u16 0, .slice none 0 0, .int .i64 0, .int .i64 0, .int .u64 0] 35)).setRow w4.heap.size (evL ⟨X0.e, A4, cap4⟩).toArray = w5 at *
  generalize w4.heap.size = r4 at *
  have hL := look_any q0 q0_fine 9 HX4.out.2.2
  rw [X0_late] at hL
  have HL := Lib.hid (show Calls Try.prog 17 #[.pointer (some ⟨h, 0, none⟩), .agg #[.string ⟨#[1, 97, 0]⟩, .int .u16 1, .int .u16 1], .int .u64 9] w5 _ from hL)
  clear hL
  have x0 := HX4.out.1.cell 0
  have x1 := HX4.out.1.cell 1
  have x2 := HX4.out.1.cell 2
  simp only [List.getElem?_toArray, List.getElem?_cons_zero, List.getElem?_cons_succ] at x0 x1 x2
  go_upto_region 6 with (first | (refine wpList_store_row rfl 35 _ _ rfl (w6.heap.size) (evL ⟨default, A6, cap6⟩).toArray rfl rfl 35 _ HNw6.out (infoEa _) rfl (evL_one _) ?_) | (go_at_call 17; (with_reducible (refine (HL.out).mono ?_)); rintro e w6 ⟨A6, cap6, rfl, sl6, nw6, hb6⟩; have HB6 := Lib.hid hb6; have HNw6 := Lib.hid (Blk.new w6 35 zE); unfold zE at HNw6; clear hb6))
  clear x0 x1 x2
  have hb6 := box_low HB6.out (x := ⟨default, A6, cap6⟩)
  have HX6 := Lib.hid (And.intro (HX4.out.1.eq (hb6.block _ HX4.out.1.lt)) (And.intro (HX4.out.2.1.trans (hb6.mono HX4.out.2.1.size)) (And.intro (HX4.out.2.2.low hb6) (HK4.out.eq (hb6.block _ HK4.out.lt)))))
  clear hb6 HB6 HNw6 HL HX4 HK4
  generalize (w6.alloc (Obj.cells #[.string ⟨#[]⟩, .int .u16 0, .int .u16 0, .slice none 0 0, .int .i64 0, .int .i64 0, .int .u64 0] 35)).setRow w6.heap.size (evL ⟨default, A6, cap6⟩).toArray = w7 at *
  generalize w6.heap.size = r6 at *
  have hH := has_any q0 q0_fine HX6.out.2.2.1
  rw [X0_ent, Option.isSome_some] at hH
  have HH := Lib.hid (show Calls Try.prog 14 #[.pointer (some ⟨h, 0, none⟩), .agg #[.string ⟨#[1, 97, 0]⟩, .int .u16 1, .int .u16 1]] w7 _ from hH)
  have HLn := Lib.hid (fun W (hW : Below w7.heap.size w7 W) => len_any (HX6.out.2.2.1.low hW))
  have hfl : decide ((2 : Int) ≤ (([X0.e] : List En).length : Nat)) = false := by decide
  have HFl := Lib.hid (fun W (hW : Below w7.heap.size w7 W) => (by have h := full_any (HX6.out.2.2.1.low hW); rw [hfl] at h; exact h : Calls Try.prog 11 #[.pointer (some ⟨h, 0, none⟩)] W fun e w' => e = .returned (.bool false) ∧ Below W.heap.size W w'))
  clear hH hfl
  have x0 := HX6.out.1.cell 0
  have x1 := HX6.out.1.cell 1
  have x2 := HX6.out.1.cell 2
  simp only [List.getElem?_toArray, List.getElem?_cons_zero, List.getElem?_cons_succ] at x0 x1 x2
  have y5 := HX6.out.2.2.2.cell 5
  simp only [evL, List.getElem?_toArray, List.getElem?_cons_zero, List.getElem?_cons_succ] at y5
  replace y5 : w7.cell? ⟨r4, 5, none⟩ = some (.int .i64 3) := y5
  go_wp2_with (first | (go_at_call 11; (with_reducible (refine (HFl.out _ HB8.out).mono ?_)); rintro e w9 ⟨rfl, hb9⟩; have HB9 := Lib.hid hb9; clear hb9) | (go_at_call 13; (with_reducible (refine (HLn.out _ HB8.out).mono ?_)); rintro e w10 ⟨rfl, rfl⟩) | (go_at_call 14; (with_reducible (refine (HH.out).mono ?_)); rintro e w8 ⟨rfl, hb8⟩; have HB8 := Lib.hid hb8; clear hb8))
  go_ret
  exact ⟨rfl, HX6.out.2.1.trans ((HB8.out.trans (HB9.out.mono HB8.out.size)).mono HX6.out.2.1.size)⟩
end Go.Proofs.Ytnmgeoeppfdnhaa
