/- The walk of RankTells. -/
import Derived.Test.YtbcgkjfhfegeaaaDoorRkb
import Derived.Deep.RegionHeld
import Derived.Deep.RegionHeld3

namespace Go.Proofs.YtbcgkjfhfegeaaaDoor
open Go.RowKit
set_option linter.unusedVariables false

/-- The cells of two entries in memory. -/
structure Two (w : World) (A B : Nat) (rk rk' : Int) (ex : Nat) : Prop where
  al : A < w.heap.size
  bl : B < w.heap.size
  a : Eb w A ⟨#[]⟩ 0 0 (.slice none 0 0) 0 rk ex
  b : Eb w B ⟨#[]⟩ 0 0 (.slice none 0 0) 0 rk' 0
theorem Two.below {w w' : World} {A B : Nat} {rk rk' : Int} {ex : Nat} (h : Two w A B rk rk' ex) (hb : Below w.heap.size w w') : Two w' A B rk rk' ex :=
  ⟨Nat.lt_of_lt_of_le h.al hb.size, Nat.lt_of_lt_of_le h.bl hb.size, h.a.below h.al hb, h.b.below h.bl hb⟩

theorem bl_next {w3 wc wd : World} (h : Below w3.heap.size w3 wc) (hb : Below wc.heap.size wc wd) : Below w3.heap.size w3 wd := h.trans (hb.mono h.size)
theorem still {F : Nat} {ag : Array Value} {v : Value} {wc : World} (h : Calls Tryd.prog F ag wc fun x w' => x = .returned v ∧ w' = wc) : Calls Tryd.prog F ag wc fun x w' => x = .returned v ∧ Below wc.heap.size wc w' :=
  h.mono (fun _ _ hh => ⟨hh.1, hh.2 ▸ Below.refl _ _⟩)
theorem Two.cells {w' : World} {A B : Nat} {rk rk' : Int} {ex : Nat} (h : Two w' A B rk rk' ex) : w'.cell? ⟨A, 0, none⟩ = some (.string ⟨#[]⟩) ∧ w'.cell? ⟨A, 1, none⟩ = some (.int .u16 0) ∧ w'.cell? ⟨A, 2, none⟩ = some (.int .u16 0) ∧ w'.cell? ⟨A, 3, none⟩ = some (.slice none 0 0) ∧ w'.cell? ⟨A, 4, none⟩ = some (.int .i64 0) ∧ w'.cell? ⟨A, 5, none⟩ = some (.int .i64 rk) ∧ w'.cell? ⟨A, 6, none⟩ = some (.int .u64 (ex : Nat)) ∧ w'.cell? ⟨B, 0, none⟩ = some (.string ⟨#[]⟩) ∧ w'.cell? ⟨B, 1, none⟩ = some (.int .u16 0) ∧ w'.cell? ⟨B, 2, none⟩ = some (.int .u16 0) ∧ w'.cell? ⟨B, 3, none⟩ = some (.slice none 0 0) ∧ w'.cell? ⟨B, 4, none⟩ = some (.int .i64 0) ∧ w'.cell? ⟨B, 5, none⟩ = some (.int .i64 rk') ∧ w'.cell? ⟨B, 6, none⟩ = some (.int .u64 0) := by
  obtain ⟨a0, a1, a2, a3, a4, a5, a6⟩ := h.a.cells
  obtain ⟨b0, b1, b2, b3, b4, b5, b6⟩ := h.b.cells
  exact ⟨a0, a1, a2, a3, a4, a5, a6, b0, b1, b2, b3, b4, b5, b6⟩
set_option maxRecDepth 100000 in
set_option maxHeartbeats 2000000 in
theorem tells_walk (s : Int) (aa : Bool) (r : Int) (a ex : Nat) (e : Int) (now : Nat) (ha : a < 18446744073709551616) (w : World) (hL : Lay w) :
    Calls Tryd.prog 3 #[.int .i64 s, .bool aa, .int .i64 r, .agg #[.int .u64 (a : Nat), .int .u64 (ex : Nat)], .int .i64 e, .int .u64 (now : Nat)] w fun x w' => x = .returned (.bool true) ∧ Below w.heap.size w w' := by
  have HL := Lib.hid hL
  have HP := Lib.hid (lay_lt hL)
  clear hL
  have HA0 := Lib.hid (World.alloc_heap_new w (.cells #[.int .u64 (a : Nat), .int .u64 (ex : Nat)] 23))
  have HW0 := Lib.hid ((Below.refl w.heap.size w).alloc (Nat.le_refl _) (.cells #[.int .u64 (a : Nat), .int .u64 (ex : Nat)] 23))
  obtain ⟨x, hx⟩ : ∃ x, a % 8 = x := ⟨_, rfl⟩
  have hx8 : x < 8 := by omega
  have exx : (a : Int).tmod 8 = (x : Int) := by rw [← hx]; exact (Int.ofNat_tmod a 8).symm
  clear hx ha
  go_enter Tryd.func3, Tryd.ntmps3
  go_wp2_with fail
  generalize hw0 : w.alloc (.cells #[.int .u64 (a : Nat), .int .u64 (ex : Nat)] 23) = w0
  rw [hw0] at HA0 HW0
  clear hw0
  have HL0 := Lib.hid (HL.out.below HP.out HW0.out)
  refine (shown_any w0 HL0.out).mono ?_
  rintro _ w1 ⟨rfl, hb⟩
  have HW1 := Lib.hid (HW0.out.trans (hb.mono HW0.out.size))
  have HL1 := Lib.hid (HL.out.below HP.out HW1.out)
  have hA1 : w1.heap[w.heap.size]? = some (.cells #[.int .u64 (a : Nat), .int .u64 (ex : Nat)] 23 (0, 0)) := (hb.block _ (Array.getElem?_eq_some_iff.1 HA0.out).1).trans HA0.out
  have c0 : w1.cell? ⟨w.heap.size, 0, none⟩ = some (.int .u64 (a : Nat)) := blk_cell hA1 0
  have c1 : w1.cell? ⟨w.heap.size, 1, none⟩ = some (.int .u64 (ex : Nat)) := blk_cell hA1 1
  have HT := Lib.hid (two_blocks w1 ⟨#[]⟩ ⟨#[]⟩ 0 0 0 0 (.slice none 0 0) (.slice none 0 0) 0 0 (x : Int) e ex 0)
  clear hb hA1 HA0 HW0 HL0
  go_upto_region 4 with (fail)
  generalize hw3 : (w1.alloc (.cells #[.string ⟨#[]⟩, .int .u16 0, .int .u16 0, .slice none 0 0, .int .i64 0, .int .i64 (x : Nat), .int .u64 (ex : Nat)] 30)).alloc (.cells #[.string ⟨#[]⟩, .int .u16 0, .int .u16 0, .slice none 0 0, .int .i64 0, .int .i64 e, .int .u64 0] 30) = w3
  have hT3 : Eb w3 w1.heap.size ⟨#[]⟩ 0 0 (.slice none 0 0) 0 (x : Int) ex ∧ Eb w3 (w1.heap.size + 1) ⟨#[]⟩ 0 0 (.slice none 0 0) 0 e 0 ∧ Below w1.heap.size w1 w3 := hw3 ▸ HT.out
  have HT3 := Lib.hid (Two.mk (rk := x) (rk' := e) (ex := ex) hT3.1.lt hT3.2.1.lt hT3.1 hT3.2.1)
  have HW3 := Lib.hid (HW1.out.trans (hT3.2.2.mono HW1.out.size))
  have HL3 := Lib.hid (HL.out.below HP.out HW3.out)
  clear hw3 HT hT3 c0 c1 HL1 HL HW1 hx8
  have H8 := Lib.hid (fun wc => still (of_any s aa wc))
  have H9 := Lib.hid (fun wc => still (fof_any s aa wc))
  have H10 := Lib.hid (fun wc (h : Below w3.heap.size w3 wc) => still (name_any r wc (HL3.out.below (lay_lt HL3.out) h)))
  have H11 := Lib.hid (fun wc => still (fname_any r wc))
  have H12 := Lib.hid (fun wc => beats_any ⟨#[]⟩ ⟨#[]⟩ 0 0 0 0 (.slice none 0 0) (.slice none 0 0) 0 0 (x : Int) e ex 0 now wc)
  have H13 := Lib.hid (fun wc => fbeats_any ⟨#[]⟩ ⟨#[]⟩ 0 0 0 0 (.slice none 0 0) (.slice none 0 0) 0 0 (x : Int) e ex 0 now wc)
  generalize ofN s aa = o at *
  generalize nmN r = nm at *
  generalize btN (x : Int) ex e now = bt at *
  go_region_held (fun w' => w'.cell? ⟨w1.heap.size, 0, none⟩ = some (.string ⟨#[]⟩) ∧ w'.cell? ⟨w1.heap.size, 1, none⟩ = some (.int .u16 0) ∧ w'.cell? ⟨w1.heap.size, 2, none⟩ = some (.int .u16 0) ∧ w'.cell? ⟨w1.heap.size, 3, none⟩ = some (.slice none 0 0) ∧ w'.cell? ⟨w1.heap.size, 4, none⟩ = some (.int .i64 0) ∧ w'.cell? ⟨w1.heap.size, 5, none⟩ = some (.int .i64 (x : Int)) ∧ w'.cell? ⟨w1.heap.size, 6, none⟩ = some (.int .u64 (ex : Nat)) ∧ w'.cell? ⟨w1.heap.size + 1, 0, none⟩ = some (.string ⟨#[]⟩) ∧ w'.cell? ⟨w1.heap.size + 1, 1, none⟩ = some (.int .u16 0) ∧ w'.cell? ⟨w1.heap.size + 1, 2, none⟩ = some (.int .u16 0) ∧ w'.cell? ⟨w1.heap.size + 1, 3, none⟩ = some (.slice none 0 0) ∧ w'.cell? ⟨w1.heap.size + 1, 4, none⟩ = some (.int .i64 0) ∧ w'.cell? ⟨w1.heap.size + 1, 5, none⟩ = some (.int .i64 e) ∧ w'.cell? ⟨w1.heap.size + 1, 6, none⟩ = some (.int .u64 0))
    (first | exact HT3.out.cells | exact (HT3.out.below (by first | exact (Below.refl _ _).drew | assumption)).cells)
    (first
      | (go_at_call 8; refine (H8.out _).mono ?_; rintro _ wd ⟨rfl, hb⟩; have hbd := bl_next (by first | exact (Below.refl _ _).drew | assumption) hb; clear hb)
      | (go_at_call 9; refine (H9.out _).mono ?_; rintro _ wd ⟨rfl, hb⟩; have hbd := bl_next (by first | exact (Below.refl _ _).drew | assumption) hb; clear hb)
      | (go_at_call 10; refine (H10.out _ (by first | exact (Below.refl _ _).drew | assumption)).mono ?_; rintro _ wd ⟨rfl, hb⟩; have hbd := bl_next (by first | exact (Below.refl _ _).drew | assumption) hb; clear hb)
      | (go_at_call 11; refine (H11.out _).mono ?_; rintro _ wd ⟨rfl, hb⟩; have hbd := bl_next (by first | exact (Below.refl _ _).drew | assumption) hb; clear hb)
      | (go_at_call 12; refine (H12.out _).mono ?_; rintro _ wd ⟨rfl, hb⟩; have hbd := bl_next (by first | exact (Below.refl _ _).drew | assumption) hb; clear hb)
      | (go_at_call 13; refine (H13.out _).mono ?_; rintro _ wd ⟨rfl, hb⟩; have hbd := bl_next (by first | exact (Below.refl _ _).drew | assumption) hb; clear hb))
  all_goals
    go_wp2_with fail
    go_ret
    exact ⟨by first | rfl | simp, HW3.out.trans ((show Below w3.heap.size w3 _ by assumption).mono HW3.out.size)⟩
end Go.Proofs.YtbcgkjfhfegeaaaDoor
