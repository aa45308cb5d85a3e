/- The contract of derricklaw05.shown: the document's example. And of few. -/
import Derived.Test.YtlphbeaaeeohjaaDoorRqb
import Derived.Test.YtlphbeaaeeohjaaDoorRqg
namespace Go.Proofs.YtlphbeaaeeohjaaDoor
open Go.RowKit
set_option linter.unusedVariables false

/-- The example. -/
def exR : Rc := ⟨exM, 1, 1, 5, ⟨#[1, 2, 3, 4]⟩⟩
theorem exR_may : mayR exR = true := by
  unfold mayR
  rw [show exR.n = exM from rfl, exM_is.may.1, show exR.k = 1 from rfl, mayD_1]
  decide
theorem exR_put : (prS [] [] exR).1 = [2, 97, 98, 0, 0, 1, 0, 1, 0, 0, 0, 5, 0, 4, 1, 2, 3, 4] := by
  unfold prS
  rw [if_pos exR_may]
  unfold putR dtR hdR putQ
  rw [show exR.n = exM from rfl, exM_is.may.2]
  decide
theorem exR_ok : exR.Ok := ⟨by decide, by decide, by decide⟩
theorem exR_take : tkR ⟨#[2, 97, 98, 0, 0, 1, 0, 1, 0, 0, 0, 5, 0, 4, 1, 2, 3, 4]⟩ 0 = some (exR, 18) := by
  have h := tkR_put (S := []) (L := []) (Good.nil _) exR_ok exR_may (s := ⟨#[2, 97, 98, 0, 0, 1, 0, 1, 0, 0, 0, 5, 0, 4, 1, 2, 3, 4]⟩) [] (by
    have := exR_put
    unfold prS at this
    rw [if_pos exR_may] at this
    rw [this]
    rfl)
  have h2 := exR_put
  unfold prS at h2
  rw [if_pos exR_may] at h2
  rw [h2] at h
  exact h

set_option maxRecDepth 100000 in
set_option maxHeartbeats 1000000 in
theorem rshown_any (w : World) (hL : Lay w) : Calls Tryd.prog 8 #[] w fun e w' => e = .returned (.bool true) ∧ Below w.heap.size w w' := by
  have HL := Lib.hid hL
  have H0 := Lib.hid (lay_lt hL)
  have hbox := World.alloc_heap_new w (Obj.cells #[.string ⟨#[2, 97, 98, 0]⟩, .int .u16 1, .int .u16 1, .int .u32 5, .string ⟨#[1, 2, 3, 4]⟩] 25)
  have hal := (Below.refl w.heap.size w).alloc (Nat.le_refl _) (Obj.cells #[.string ⟨#[2, 97, 98, 0]⟩, .int .u16 1, .int .u16 1, .int .u32 5, .string ⟨#[1, 2, 3, 4]⟩] 25)
  obtain ⟨t1, t2, t3⟩ := r_some exR_take
  have e1 : prE exR = 0 := by unfold prE; rw [if_pos exR_may]
  have HE := Lib.hid (And.intro e1 exR_put)
  have hv : Value.agg #[.string (rR ⟨#[2, 97, 98, 0, 0, 1, 0, 1, 0, 0, 0, 5, 0, 4, 1, 2, 3, 4]⟩ 0).n, .int .u16 ((rR ⟨#[2, 97, 98, 0, 0, 1, 0, 1, 0, 0, 0, 5, 0, 4, 1, 2, 3, 4]⟩ 0).k : Nat), .int .u16 ((rR ⟨#[2, 97, 98, 0, 0, 1, 0, 1, 0, 0, 0, 5, 0, 4, 1, 2, 3, 4]⟩ 0).c : Nat), .int .u32 ((rR ⟨#[2, 97, 98, 0, 0, 1, 0, 1, 0, 0, 0, 5, 0, 4, 1, 2, 3, 4]⟩ 0).t : Nat), .string (rR ⟨#[2, 97, 98, 0, 0, 1, 0, 1, 0, 0, 0, 5, 0, 4, 1, 2, 3, 4]⟩ 0).d] = .agg #[.string ⟨#[2, 97, 98, 0]⟩, .int .u16 1, .int .u16 1, .int .u32 5, .string ⟨#[1, 2, 3, 4]⟩] := by rw [t1]; rfl
  have HT := Lib.hid (And.intro hv (And.intro t2 t3))
  have HX := Lib.hid hbox
  have HSz := Lib.hid (show (w.alloc (Obj.cells #[.string ⟨#[2, 97, 98, 0]⟩, .int .u16 1, .int .u16 1, .int .u32 5, .string ⟨#[1, 2, 3, 4]⟩] 25)).heap.size = w.heap.size + 1 by simp)
  have HA := Lib.hid hal
  clear hL hbox hal hv t1 t2 t3 e1
  go_enter Tryd.func8, Tryd.ntmps8
  go_wp2_with fail
  refine (new_any _).mono ?_
  rintro e w1 ⟨rfl, hP1, hb1⟩
  rw [HSz.out] at hP1 hb1 ⊢
  have HX1 := Lib.hid ((hb1.block w.heap.size (by simp)).trans HX.out)
  have HB1 := Lib.hid (HA.out.trans (hb1.mono (by omega)))
  have HP1 := Lib.hid (St.new hP1)
  have HZ1 := Lib.hid (show w.heap.size + 1 ≤ w1.heap.size by have := hb1.size; rw [HSz.out] at this; exact this)
  have HL1 := Lib.hid (HL.out.below H0.out HB1.out)
  clear hP1 hb1 HX HA
  go_wp2_with (refine wpList_load_row rfl 25 _ rfl w.heap.size rfl 25 _ _ _ HX1.out Tryd.underlying25 rfl infoR ?_)
  refine (putr_any _ _ [] [] exR (by decide) (by decide) exR_ok (by simp) _ HL1.out HP1.out HZ1.out (by simp)).mono ?_
  rintro e w2 ⟨rfl, hs2, hb2, _⟩
  rw [HE.out.2] at hs2
  rw [HE.out.1]
  have HX2 := Lib.hid ((hb2.block w.heap.size (by simp)).trans HX1.out)
  have HB2 := Lib.hid (HB1.out.trans (hb2.mono (by simp)))
  have HP2 := Lib.hid hs2.is
  have HL2 := Lib.hid (HL.out.below H0.out HB2.out)
  clear hs2 hb2 HX1 HB1 HP1 HZ1 HL1
  go_wp2_with fail
  refine (out_any _ _ _ _ _ HP2.out).mono ?_
  rintro e w3 ⟨rfl, rfl⟩
  go_wp2_with fail
  refine (taker_any ⟨#[2, 97, 98, 0, 0, 1, 0, 1, 0, 0, 0, 5, 0, 4, 1, 2, 3, 4]⟩ 0 (by decide) (by decide) _ HL2.out).mono ?_
  rintro e w3 ⟨rfl, hb3⟩
  rw [HT.out.1, HT.out.2.1, HT.out.2.2]
  have HX3 := Lib.hid ((heap_alloc_old w3 (Obj.cells #[.string ⟨#[2, 97, 98, 0]⟩, .int .u16 1, .int .u16 1, .int .u32 5, .string ⟨#[1, 2, 3, 4]⟩] 25) (Nat.lt_of_lt_of_le (heap_lt HX2.out) hb3.size)).trans ((hb3.block w.heap.size (heap_lt HX2.out)).trans HX2.out))
  have HB3 := Lib.hid (HB2.out.trans (hb3.mono HB2.out.size))
  obtain ⟨w4, hw4⟩ : ∃ w4, w4 = w3.alloc (Obj.cells #[.string ⟨#[2, 97, 98, 0]⟩, .int .u16 1, .int .u16 1, .int .u32 5, .string ⟨#[1, 2, 3, 4]⟩] 25) := ⟨_, rfl⟩
  have HB4 := Lib.hid (HB3.out.alloc HB3.out.size (Obj.cells #[.string ⟨#[2, 97, 98, 0]⟩, .int .u16 1, .int .u16 1, .int .u32 5, .string ⟨#[1, 2, 3, 4]⟩] 25))
  have HQ3 := Lib.hid (World.alloc_heap_new w3 (Obj.cells #[.string ⟨#[2, 97, 98, 0]⟩, .int .u16 1, .int .u16 1, .int .u32 5, .string ⟨#[1, 2, 3, 4]⟩] 25))
  have HP3 := Lib.hid ((HP2.out.below hb3).below ((Below.refl w3.heap.size w3).alloc (Nat.le_refl _) (Obj.cells #[.string ⟨#[2, 97, 98, 0]⟩, .int .u16 1, .int .u16 1, .int .u32 5, .string ⟨#[1, 2, 3, 4]⟩] 25)))
  have HW4 := Lib.hid hw4
  rw [← hw4] at HX3 HQ3 HP3 HB4
  clear hb3 HX2 HB2 HP2 HL2 HB3 hw4
  have c0 : w4.cell? ⟨w.heap.size, 0, none⟩ = some (.string ⟨#[2, 97, 98, 0]⟩) := blk_cell HX3.out 0
  have c1 : w4.cell? ⟨w.heap.size, 1, none⟩ = some (.int .u16 1) := blk_cell HX3.out 1
  have c2 : w4.cell? ⟨w.heap.size, 2, none⟩ = some (.int .u16 1) := blk_cell HX3.out 2
  have c3 : w4.cell? ⟨w.heap.size, 3, none⟩ = some (.int .u32 5) := blk_cell HX3.out 3
  have c4 : w4.cell? ⟨w.heap.size, 4, none⟩ = some (.string ⟨#[1, 2, 3, 4]⟩) := blk_cell HX3.out 4
  have d0 : w4.cell? ⟨w3.heap.size, 0, none⟩ = some (.string ⟨#[2, 97, 98, 0]⟩) := blk_cell HQ3.out 0
  have d1 : w4.cell? ⟨w3.heap.size, 1, none⟩ = some (.int .u16 1) := blk_cell HQ3.out 1
  have d2 : w4.cell? ⟨w3.heap.size, 2, none⟩ = some (.int .u16 1) := blk_cell HQ3.out 2
  have d3 : w4.cell? ⟨w3.heap.size, 3, none⟩ = some (.int .u32 5) := blk_cell HQ3.out 3
  have d4 : w4.cell? ⟨w3.heap.size, 4, none⟩ = some (.string ⟨#[1, 2, 3, 4]⟩) := blk_cell HQ3.out 4
  go_wp2_with fail
  rw [← HW4.out]
  refine (out_any _ _ _ _ _ HP3.out).mono ?_
  rintro e w5 ⟨rfl, rfl⟩
  go_wp2_with fail
  refine (len_any _ _ _ _ _ HP3.out).mono ?_
  rintro e w6 ⟨rfl, rfl⟩
  go_wp2_with fail
  go_ret
  exact ⟨rfl, HB4.out⟩
end Go.Proofs.YtlphbeaaeeohjaaDoor
