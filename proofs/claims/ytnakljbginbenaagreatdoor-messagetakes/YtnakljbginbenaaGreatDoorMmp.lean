/- The contract of derricklaw06.shown: the document's example. -/
import Derived.Test.YtnakljbginbenaaGreatDoorMml
namespace Go.Proofs.YtnakljbginbenaaGreatDoor
open Go.RowKit
set_option linter.unusedVariables false

def exA : Ms := ⟨7, false, false, false, false, false, 0, 0, [], [], [], []⟩
def exT : Ms := repM exA 2
def exS : ByteArray := ⟨#[0, 7, 128, 130, 0, 0, 0, 0, 0, 0, 0, 0]⟩
theorem sm_nil : Sm [] := ⟨by decide, fun r hr => by cases hr⟩
theorem exA_sm : SmM exA := ⟨sm_nil, sm_nil, sm_nil, sm_nil⟩
theorem exT_sm : SmM exT := ⟨sm_nil, sm_nil, sm_nil, sm_nil⟩
theorem exT_ok : exT.Ok := ⟨by decide, (fun r hr => by cases hr), (fun r hr => by cases hr), (fun r hr => by cases hr), (fun r hr => by cases hr)⟩
theorem exT_may : mayM exT = true := by decide
theorem exT_enc : (encM exT).1 = [0, 7, 128, 130, 0, 0, 0, 0, 0, 0, 0, 0] := by decide
theorem exT_put : pmE exT = 0 ∧ pmS exT = exS := by
  obtain ⟨h1, h2⟩ := pm_yes exT_may (by rw [exT_enc]; decide)
  exact ⟨h1, by rw [h2, exT_enc]; rfl⟩
theorem exT_take : tmM exS = exT ∧ tmE exS = 0 := by
  obtain ⟨h1, h2⟩ := enc_ok (mayM_iff.1 exT_may) exT_ok
  rw [exT_enc] at h1 h2
  unfold tmM tmE
  rw [show exS = ⟨([0, 7, 128, 130, 0, 0, 0, 0, 0, 0, 0, 0] : List UInt8).toArray⟩ from rfl, h1, h2]
  exact ⟨rfl, rfl⟩

set_option maxRecDepth 100000 in
set_option maxHeartbeats 1000000 in
theorem mshown_any (w : World) (hL : Lay w) : Calls Tryz.prog 6 #[] w fun e w' => e = .returned (.bool true) ∧ Below w.heap.size w w' := by
  have HL := Lib.hid hL
  have H0 := Lib.hid (lay_lt hL)
  clear hL
  go_enter Tryz.func6, Tryz.ntmps6
  go_wp2_with fail
  refine (reply_any exA zAd 2 exA_sm _ ⟨Sl.nil _ _, Sl.nil _ _, Sl.nil _ _, Sl.nil _ _⟩).mono ?_
  rintro e w1 ⟨d1, rfl, hg1, hb1⟩
  have HG1 := Lib.hid hg1
  have HB1 := Lib.hid hb1
  clear hg1 hb1
  go_wp2_with fail
  refine (putm_any exT d1 exT_ok exT_sm _ HG1.out (HL.out.below H0.out HB1.out)).mono ?_
  rintro e w2 ⟨rfl, hb2⟩
  rw [exT_put.1, exT_put.2]
  have HB2 := Lib.hid (HB1.out.trans (hb2.mono HB1.out.size))
  clear hb2
  go_wp2_with fail
  refine (takem_any exS (by decide) _ (HL.out.below H0.out HB2.out)).mono ?_
  rintro e w3 ⟨d3, rfl, _, hb3⟩
  rw [exT_take.1, exT_take.2]
  have hB3 := HB2.out.trans (hb3.mono HB2.out.size)
  have hx3 := World.alloc_heap_new w3 (Obj.cells (msV zMs zAd) 26)
  have hx4 := setRow_heap (w3.alloc (Obj.cells (msV zMs zAd) 26)) w3.heap.size (msV zMs zAd) (msV exT d3) 26 (0, 0) hx3
  have hB4 := setRow_below (hB3.alloc hB3.size (Obj.cells (msV zMs zAd) 26)) (show w.heap.size ≤ w3.heap.size from hB3.size) (msV exT d3)
  obtain ⟨w4, hw4⟩ : ∃ w4, w4 = (w3.alloc (Obj.cells (msV zMs zAd) 26)).setRow w3.heap.size (msV exT d3) := ⟨_, rfl⟩
  rw [← hw4] at hx4 hB4
  have c1 : w4.cell? ⟨w3.heap.size, 1, none⟩ = some (.bool true) := blk_cell hx4 1
  have c5 : w4.cell? ⟨w3.heap.size, 5, none⟩ = some (.bool true) := blk_cell hx4 5
  have c7 : w4.cell? ⟨w3.heap.size, 7, none⟩ = some (.int .i64 2) := blk_cell hx4 7
  have HX3 := Lib.hid hx3
  have HB4 := Lib.hid hB4
  have HW4 := Lib.hid hw4
  have hs : exS = ⟨#[0, 7, 128, 130, 0, 0, 0, 0, 0, 0, 0, 0]⟩ := rfl
  clear hB3 hx3 hx4 hB4 hw4 hb3
  rw [hs]
  clear hs
  go_upto_region 3 with (refine wpList_store_row rfl 26 _ _ rfl w3.heap.size (msV exT d3) rfl rfl 26 (msV zMs zAd) HX3.out infoM rfl (msV_all _ _) ?_)
  rw [show Obj.cells #[Value.int IntKind.u16 0, .bool false, .bool false, .bool false, .bool false, .bool false, .int .i64 0, .int .i64 0, .slice none 0 0, .slice none 0 0, .slice none 0 0, .slice none 0 0] 26 = Obj.cells (msV zMs zAd) 26 from rfl, ← HW4.out]
  go_wp2_with fail
  go_ret
  exact ⟨rfl, HB4.out⟩
end Go.Proofs.YtnakljbginbenaaGreatDoor
