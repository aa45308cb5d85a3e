/- The walk of derricklaw06.MessageCuts: what any message is cut to, for any size, is the document's. -/
import Derived.Test.YtnakljbginbenaaGreatDoorNre
import Derived.Test.YtnakljbginbenaaGreatDoorMmp
import Derived.Test.YtnakljbginbenaaGreatDoorLmv
namespace Go.Proofs.YtnakljbginbenaaGreatDoor
open Go.RowKit
set_option linter.unusedVariables false

theorem cutIs_big {m : Ms} {most : Int} {N : Ms} {E : Int} (h : CutIs m most N E) (hs : SmM m) : N.q.length ≤ 9223372036854775807 ∧ N.an.length ≤ 9223372036854775807 ∧ N.ns.length ≤ 9223372036854775807 ∧ N.ar.length ≤ 9223372036854775807 := by
  have h1 := hs.q.len
  have h2 := hs.an.len
  have h3 := hs.ns.len
  have h4 := hs.ar.len
  rcases h with ⟨_, rfl, _⟩ | ⟨_, _, rfl, _⟩ | ⟨_, _, _, j, _, rfl⟩
  · decide
  · decide
  · have k1 := List.length_take_le' j m.an
    have k2 := List.length_take_le' (j - m.an.length) m.ns
    have k3 := List.length_take_le' (j - m.an.length - m.ns.length) m.ar
    refine ⟨?_, ?_, ?_, ?_⟩
    · show m.q.length ≤ _; omega
    · show (m.an.take j).length ≤ _; omega
    · show (m.ns.take (j - m.an.length)).length ≤ _; omega
    · show (m.ar.take (j - m.an.length - m.ns.length)).length ≤ _; omega

set_option maxRecDepth 100000 in
set_option maxHeartbeats 4000000 in
theorem cuts_walk6 (m : Ms) (d : Ad) (most : Int) (hok : m.Ok) (hwf : (Lit.int .i64 most).wf = true) (w : World) (hI : Mg w m d) (hL : Lay w) :
    Calls Tryz.prog 5 #[.agg (msV m d), .int .i64 most] w fun e w' => e = .returned (.bool true) ∧ Below w.heap.size w w' := by
  have hbox := World.alloc_heap_new w (Obj.cells (msV m d) 26)
  have hal := (Below.refl w.heap.size w).alloc (Nat.le_refl _) (Obj.cells (msV m d) 26)
  obtain ⟨w1, hw1⟩ : ∃ w1, w1 = w.alloc (Obj.cells (msV m d) 26) := ⟨_, rfl⟩
  rw [← hw1] at hbox hal
  have hblk : ∀ W, Below w1.heap.size w1 W → W.heap[w.heap.size]? = some (.cells (msV m d) 26 (0, 0)) := fun W hW => (hW.block _ (heap_lt hbox)).trans hbox
  have HW := Lib.hid hw1
  have HX := Lib.hid hblk
  have HAl := Lib.hid hal
  have HI := Lib.hid (hI.below hal)
  have HL := Lib.hid (hL.below (lay_lt hL) hal)
  have H0 := Lib.hid (lay_lt (hL.below (lay_lt hL) hal))
  have HOk := Lib.hid hok
  clear hbox hal hw1 hI hL hok hblk
  go_enter Tryz.func5, Tryz.ntmps5
  go_upto_region 1 with (fail)
  rw [← HW.out]
  clear HW
  go_wp2_with fail
  refine (mshown_any _ HL.out).mono ?_
  rintro e w2 ⟨rfl, hb2⟩
  have HB2 := Lib.hid hb2
  have HX2 := Lib.hid (HX.out _ hb2)
  clear hb2
  go_wp2_with (refine wpList_load_row rfl 26 _ rfl w.heap.size rfl 26 _ _ _ HX2.out Tryz.underlying26 rfl (infoM' m d) ?_)
  refine (fewm_any m d _ (HI.out.below HB2.out)).mono ?_
  rintro e w3 ⟨rfl, hb3⟩
  have HB3 := Lib.hid (HB2.out.trans (hb3.mono HB2.out.size))
  have HX3 := Lib.hid (HX.out _ HB3.out)
  clear hb3 HX2 HB2
  cases hf : fewM m with
  | false =>
    clear hf
    go_wp2_with fail
    go_ret
    exact ⟨rfl, HAl.out.trans (HB3.out.mono HAl.out.size)⟩
  | true =>
    have HSm := Lib.hid (fewM_sm hf HOk.out)
    have HFw := Lib.hid (fewM_fw hf)
    clear hf
    clear hwf
    go_wp2_with (refine wpList_load_row rfl 26 _ rfl w.heap.size rfl 26 _ _ _ HX3.out Tryz.underlying26 rfl (infoM' m d) ?_)
    refine (cut_any m d most HOk.out HSm.out _ (HI.out.below HB3.out) (HL.out.below H0.out HB3.out)).mono ?_
    rintro e w4 ⟨N, E, d4, rfl, hcut, hg4, hb4⟩
    have hB4 := HB3.out.trans (hb4.mono HB3.out.size)
    have HZ4 := Lib.hid (bx_zero w4)
    obtain ⟨w5, hw5⟩ : ∃ y, y = bxM w4 N d4 := ⟨_, rfl⟩
    have hv := bx_below w4 N d4
    have hx := bx_at w4 N d4
    rw [← hw5] at hv hx
    have HW5 := Lib.hid (show w5 = (w4.alloc (Obj.cells (msV zMs zAd) 26)).setRow w4.heap.size (msV N d4) from hw5)
    have HG5 := Lib.hid (hg4.below hv)
    have hB5 := hB4.trans (hv.mono hB4.size)
    have HB5 := Lib.hid hB5
    have HY5 := Lib.hid hx
    have HX5 := Lib.hid (HX.out _ hB5)
    have HCut := Lib.hid hcut
    clear hg4 hb4 hB4 hB5 hw5 hv hx hcut HX3 HB3
    go_upto_region 5 with (refine wpList_store_row rfl 26 _ _ rfl w4.heap.size (msV N d4) rfl rfl 26 (msV zMs zAd) HZ4.out infoM rfl (msV_all _ _) ?_; rw [show Obj.cells #[Value.int IntKind.u16 0, .bool false, .bool false, .bool false, .bool false, .bool false, .int .i64 0, .int .i64 0, .slice none 0 0, .slice none 0 0, .slice none 0 0, .slice none 0 0] 26 = Obj.cells (msV zMs zAd) 26 from rfl, ← HW5.out])
    clear HW5 HZ4
    go_wp2_with (refine wpList_load_row rfl 26 _ rfl w.heap.size rfl 26 _ _ _ HX5.out Tryz.underlying26 rfl (infoM' m d) ?_)
    refine (fcut_any m d most HOk.out HSm.out HFw.out _ (HI.out.below HB5.out)).mono ?_
    rintro e w6 ⟨N', E', d6, rfl, hcr, hg6, hb6⟩
    obtain ⟨rfl, rfl⟩ := cuts_same HCut.out hcr
    have hB6 := HB5.out.trans (hb6.mono HB5.out.size)
    have HZ6 := Lib.hid (bx_zero w6)
    obtain ⟨w7, hw7⟩ : ∃ y, y = bxM w6 N d6 := ⟨_, rfl⟩
    have hv := bx_below w6 N d6
    have hx := bx_at w6 N d6
    rw [← hw7] at hv hx
    have HW7 := Lib.hid (show w7 = (w6.alloc (Obj.cells (msV zMs zAd) 26)).setRow w6.heap.size (msV N d6) from hw7)
    have HG7 := Lib.hid (hg6.below hv)
    have h57 := hb6.trans (hv.mono hb6.size)
    have HG5' := Lib.hid (HG5.out.below h57)
    have hB7 := hB6.trans (hv.mono hB6.size)
    have HB7 := Lib.hid hB7
    have HY7 := Lib.hid hx
    have HY5' := Lib.hid ((h57.block _ (heap_lt HY5.out)).trans HY5.out)
    clear hg6 hb6 hB6 hB7 hw7 hv hx hcr h57 HX5 HB5 HY5 HG5
    go_upto_region 6 with (refine wpList_store_row rfl 26 _ _ rfl w6.heap.size (msV N d6) rfl rfl 26 (msV zMs zAd) HZ6.out infoM rfl (msV_all _ _) ?_; rw [show Obj.cells #[Value.int IntKind.u16 0, .bool false, .bool false, .bool false, .bool false, .bool false, .int .i64 0, .int .i64 0, .slice none 0 0, .slice none 0 0, .slice none 0 0, .slice none 0 0] 26 = Obj.cells (msV zMs zAd) 26 from rfl, ← HW7.out])
    clear HW7 HZ6
    have HBig := Lib.hid (cutIs_big HCut.out HSm.out)
    have hbb : (E == E) = true := by simp
    have a0 : w7.cell? ⟨w4.heap.size, 0, none⟩ = some (.int .u16 (N.id : Nat)) := blk_cell (HY5'.out) 0
    have a1 : w7.cell? ⟨w4.heap.size, 1, none⟩ = some (.bool N.qr) := blk_cell (HY5'.out) 1
    have a2 : w7.cell? ⟨w4.heap.size, 2, none⟩ = some (.bool N.aa) := blk_cell (HY5'.out) 2
    have a3 : w7.cell? ⟨w4.heap.size, 3, none⟩ = some (.bool N.tc) := blk_cell (HY5'.out) 3
    have a4 : w7.cell? ⟨w4.heap.size, 4, none⟩ = some (.bool N.rd) := blk_cell (HY5'.out) 4
    have a5 : w7.cell? ⟨w4.heap.size, 5, none⟩ = some (.bool N.ra) := blk_cell (HY5'.out) 5
    have a6 : w7.cell? ⟨w4.heap.size, 6, none⟩ = some (.int .i64 N.op) := blk_cell (HY5'.out) 6
    have a7 : w7.cell? ⟨w4.heap.size, 7, none⟩ = some (.int .i64 N.rc) := blk_cell (HY5'.out) 7
    have a8 : w7.cell? ⟨w4.heap.size, 8, none⟩ = some (.slice d4.aq N.q.length d4.cq) := blk_cell (HY5'.out) 8
    have a9 : w7.cell? ⟨w4.heap.size, 9, none⟩ = some (.slice d4.a1 N.an.length d4.c1) := blk_cell (HY5'.out) 9
    have a10 : w7.cell? ⟨w4.heap.size, 10, none⟩ = some (.slice d4.a2 N.ns.length d4.c2) := blk_cell (HY5'.out) 10
    have a11 : w7.cell? ⟨w4.heap.size, 11, none⟩ = some (.slice d4.a3 N.ar.length d4.c3) := blk_cell (HY5'.out) 11
    have b0 : w7.cell? ⟨w6.heap.size, 0, none⟩ = some (.int .u16 (N.id : Nat)) := blk_cell (HY7.out) 0
    have b1 : w7.cell? ⟨w6.heap.size, 1, none⟩ = some (.bool N.qr) := blk_cell (HY7.out) 1
    have b2 : w7.cell? ⟨w6.heap.size, 2, none⟩ = some (.bool N.aa) := blk_cell (HY7.out) 2
    have b3 : w7.cell? ⟨w6.heap.size, 3, none⟩ = some (.bool N.tc) := blk_cell (HY7.out) 3
    have b4 : w7.cell? ⟨w6.heap.size, 4, none⟩ = some (.bool N.rd) := blk_cell (HY7.out) 4
    have b5 : w7.cell? ⟨w6.heap.size, 5, none⟩ = some (.bool N.ra) := blk_cell (HY7.out) 5
    have b6 : w7.cell? ⟨w6.heap.size, 6, none⟩ = some (.int .i64 N.op) := blk_cell (HY7.out) 6
    have b7 : w7.cell? ⟨w6.heap.size, 7, none⟩ = some (.int .i64 N.rc) := blk_cell (HY7.out) 7
    have b8 : w7.cell? ⟨w6.heap.size, 8, none⟩ = some (.slice d6.aq N.q.length d6.cq) := blk_cell (HY7.out) 8
    have b9 : w7.cell? ⟨w6.heap.size, 9, none⟩ = some (.slice d6.a1 N.an.length d6.c1) := blk_cell (HY7.out) 9
    have b10 : w7.cell? ⟨w6.heap.size, 10, none⟩ = some (.slice d6.a2 N.ns.length d6.c2) := blk_cell (HY7.out) 10
    have b11 : w7.cell? ⟨w6.heap.size, 11, none⟩ = some (.slice d6.a3 N.ar.length d6.c3) := blk_cell (HY7.out) 11
    go_wp2_with fail
    refine (samem_yes N d4 d6 HBig.out.1 HBig.out.2.1 HBig.out.2.2.1 HBig.out.2.2.2 _ HG5'.out HG7.out).mono ?_
    rintro e w8 ⟨rfl, hb8⟩
    have HB8 := Lib.hid (HB7.out.trans (hb8.mono HB7.out.size))
    clear hb8
    go_wp2_with fail
    go_ret
    exact ⟨rfl, HAl.out.trans (HB8.out.mono HAl.out.size)⟩
end Go.Proofs.YtnakljbginbenaaGreatDoor
