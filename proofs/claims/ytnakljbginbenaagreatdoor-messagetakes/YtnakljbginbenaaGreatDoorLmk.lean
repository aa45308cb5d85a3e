/- The walk of derricklaw06.MessageTakes: the message that any string is, and its header, are the document's. -/
import Derived.Test.YtnakljbginbenaaGreatDoorNrf
import Derived.Test.YtnakljbginbenaaGreatDoorMmp
import Derived.Test.YtnakljbginbenaaGreatDoorMmn
import Derived.Test.YtnakljbginbenaaGreatDoorLmv
namespace Go.Proofs.YtnakljbginbenaaGreatDoor
open Go.RowKit
set_option linter.unusedVariables false

theorem tm_big {s : ByteArray} (hs : s.size ≤ 1500) : (tmM s).q.length ≤ 9223372036854775807 ∧ (tmM s).an.length ≤ 9223372036854775807 ∧ (tmM s).ns.length ≤ 9223372036854775807 ∧ (tmM s).ar.length ≤ 9223372036854775807 := by
  cases hk : okT s with
  | false => rw [(tm_no hk).1]; decide
  | true => rw [(tm_yes hk).1]; exact ((tk_of hk).sm hs).big
theorem hm_mg (s : ByteArray) (w : World) : Mg w (hmT s) zAd := by
  unfold hmT
  split
  · exact ⟨Sl.nil _ _, Sl.nil _ _, Sl.nil _ _, Sl.nil _ _⟩
  · exact zMg w
theorem hm_big (s : ByteArray) : (hmT s).q.length ≤ 9223372036854775807 ∧ (hmT s).an.length ≤ 9223372036854775807 ∧ (hmT s).ns.length ≤ 9223372036854775807 ∧ (hmT s).ar.length ≤ 9223372036854775807 := by
  unfold hmT
  split
  · exact ⟨Nat.zero_le _, Nat.zero_le _, Nat.zero_le _, Nat.zero_le _⟩
  · decide

set_option maxRecDepth 100000 in
set_option maxHeartbeats 4000000 in
theorem takes_walk6 (s : ByteArray) (hs0 : s.size ≤ 140737488355328) (w : World) (hL : Lay w) :
    Calls Tryz.prog 4 #[.string s] w fun e w' => e = .returned (.bool true) ∧ Below w.heap.size w w' := by
  have HL := Lib.hid hL
  have H0 := Lib.hid (lay_lt hL)
  clear hL
  go_enter Tryz.func4, Tryz.ntmps4
  go_wp2_with fail
  refine (mshown_any _ HL.out).mono ?_
  rintro e w1 ⟨rfl, hb1⟩
  have HB1 := Lib.hid hb1
  clear hb1
  by_cases hs : s.size ≤ 1500
  rotate_left
  · have d1 : decide ((s.size : Int) > 1500) = true := by simp; omega
    clear hs
    go_wp2_with fail
    go_ret
    exact ⟨rfl, HB1.out⟩
  · have d1 : decide ((s.size : Int) > 1500) = false := by simp; omega
    have HT1 := Lib.hid (fun w' hL' => takem_any s (by omega) w' hL')
    have HT2 := Lib.hid (fun w' => ftakem_any s hs w')
    have HT3 := Lib.hid (fun w' => header_any s (by omega) w')
    have HT4 := Lib.hid (fun w' => fheaderT_any s (by omega) w')
    have HG := Lib.hid (hm_mg s)
    have HBg := Lib.hid (tm_big hs)
    have HBh := Lib.hid (hm_big s)
    generalize tmM s = N at *
    generalize tmE s = E at *
    generalize hmT s = H at *
    generalize hmE s = F at *
    go_wp2_with fail
    refine (HT1.out _ (HL.out.below H0.out HB1.out)).mono ?_
    rintro e w2 ⟨d2, rfl, hg2, hb2⟩
    have hB2 := HB1.out.trans (hb2.mono HB1.out.size)
    have HZ2 := Lib.hid (bx_zero w2)
    obtain ⟨w3, hw3⟩ : ∃ y, y = bxM w2 N d2 := ⟨_, rfl⟩
    have hv := bx_below w2 N d2
    have hx := bx_at w2 N d2
    rw [← hw3] at hv hx
    have HW3 := Lib.hid (show w3 = (w2.alloc (Obj.cells (msV zMs zAd) 26)).setRow w2.heap.size (msV N d2) from hw3)
    have HG2 := Lib.hid (hg2.below hv)
    have HB3 := Lib.hid (hB2.trans (hv.mono hB2.size))
    have HY3 := Lib.hid hx
    clear hg2 hb2 hB2 hw3 hv hx HT1 HB1
    go_upto_region 5 with (refine wpList_store_row rfl 26 _ _ rfl w2.heap.size (msV N d2) rfl rfl 26 (msV zMs zAd) HZ2.out infoM rfl (msV_all _ _) ?_; rw [show Obj.cells #[Value.int IntKind.u16 0, .bool false, .bool false, .bool false, .bool false, .bool false, .int .i64 0, .int .i64 0, .slice none 0 0, .slice none 0 0, .slice none 0 0, .slice none 0 0] 26 = Obj.cells (msV zMs zAd) 26 from rfl, ← HW3.out])
    clear HW3 HZ2
    go_wp2_with fail
    refine (HT2.out _).mono ?_
    rintro e w4 ⟨d4, rfl, hg4, hb4⟩
    have HZ4 := Lib.hid (bx_zero w4)
    obtain ⟨w5, hw5⟩ : ∃ y, y = bxM w4 N d4 := ⟨_, rfl⟩
    have hv := bx_below w4 N d4
    have hx := bx_at w4 N d4
    rw [← hw5] at hv hx
    have HW5 := Lib.hid (show w5 = (w4.alloc (Obj.cells (msV zMs zAd) 26)).setRow w4.heap.size (msV N d4) from hw5)
    have h35 := hb4.trans (hv.mono hb4.size)
    have HG4 := Lib.hid (hg4.below hv)
    have HG2b := Lib.hid (HG2.out.below h35)
    have HB5 := Lib.hid (HB3.out.trans (h35.mono HB3.out.size))
    have HY5 := Lib.hid hx
    have HY3b := Lib.hid ((h35.block _ (heap_lt HY3.out)).trans HY3.out)
    clear hg4 hb4 hw5 hv hx h35 HT2 HB3 HY3 HG2
    go_upto_region 6 with (refine wpList_store_row rfl 26 _ _ rfl w4.heap.size (msV N d4) rfl rfl 26 (msV zMs zAd) HZ4.out infoM rfl (msV_all _ _) ?_; rw [show Obj.cells #[Value.int IntKind.u16 0, .bool false, .bool false, .bool false, .bool false, .bool false, .int .i64 0, .int .i64 0, .slice none 0 0, .slice none 0 0, .slice none 0 0, .slice none 0 0] 26 = Obj.cells (msV zMs zAd) 26 from rfl, ← HW5.out])
    clear HW5 HZ4
    go_wp2_with fail
    refine (HT3.out _).mono ?_
    rintro e w6 ⟨rfl, hb6⟩
    have HZ6 := Lib.hid (bx_zero w6)
    obtain ⟨w7, hw7⟩ : ∃ y, y = bxM w6 H zAd := ⟨_, rfl⟩
    have hv := bx_below w6 H zAd
    have hx := bx_at w6 H zAd
    rw [← hw7] at hv hx
    have HW7 := Lib.hid (show w7 = (w6.alloc (Obj.cells (msV zMs zAd) 26)).setRow w6.heap.size (msV H zAd) from hw7)
    have h57 := hb6.trans (hv.mono hb6.size)
    have HG4b := Lib.hid (HG4.out.below h57)
    have HG2c := Lib.hid (HG2b.out.below h57)
    have HB7 := Lib.hid (HB5.out.trans (h57.mono HB5.out.size))
    have HY7 := Lib.hid hx
    have HY5b := Lib.hid ((h57.block _ (heap_lt HY5.out)).trans HY5.out)
    have HY3c := Lib.hid ((h57.block _ (heap_lt HY3b.out)).trans HY3b.out)
    clear hb6 hw7 hv hx h57 HT3 HB5 HY5 HY3b HG4 HG2b
    go_upto_region 7 with (refine wpList_store_row rfl 26 _ _ rfl w6.heap.size (msV H zAd) rfl rfl 26 (msV zMs zAd) HZ6.out infoM rfl (msV_all _ _) ?_; rw [show Obj.cells #[Value.int IntKind.u16 0, .bool false, .bool false, .bool false, .bool false, .bool false, .int .i64 0, .int .i64 0, .slice none 0 0, .slice none 0 0, .slice none 0 0, .slice none 0 0] 26 = Obj.cells (msV zMs zAd) 26 from rfl, ← HW7.out])
    clear HW7 HZ6
    go_wp2_with fail
    refine (HT4.out _).mono ?_
    rintro e w8 ⟨rfl, hb8⟩
    have HZ8 := Lib.hid (bx_zero w8)
    obtain ⟨w9, hw9⟩ : ∃ y, y = bxM w8 H zAd := ⟨_, rfl⟩
    have hv := bx_below w8 H zAd
    have hx := bx_at w8 H zAd
    rw [← hw9] at hv hx
    have HW9 := Lib.hid (show w9 = (w8.alloc (Obj.cells (msV zMs zAd) 26)).setRow w8.heap.size (msV H zAd) from hw9)
    have h79 := hb8.trans (hv.mono hb8.size)
    have HG4c := Lib.hid (HG4b.out.below h79)
    have HG2d := Lib.hid (HG2c.out.below h79)
    have HB9 := Lib.hid (HB7.out.trans (h79.mono HB7.out.size))
    have HY9 := Lib.hid hx
    have HY7b := Lib.hid ((h79.block _ (heap_lt HY7.out)).trans HY7.out)
    have HY5c := Lib.hid ((h79.block _ (heap_lt HY5b.out)).trans HY5b.out)
    have HY3d := Lib.hid ((h79.block _ (heap_lt HY3c.out)).trans HY3c.out)
    clear hb8 hw9 hv hx h79 HT4 HB7 HY7 HY5b HY3c HG4b HG2c
    go_upto_region 8 with (refine wpList_store_row rfl 26 _ _ rfl w8.heap.size (msV H zAd) rfl rfl 26 (msV zMs zAd) HZ8.out infoM rfl (msV_all _ _) ?_; rw [show Obj.cells #[Value.int IntKind.u16 0, .bool false, .bool false, .bool false, .bool false, .bool false, .int .i64 0, .int .i64 0, .slice none 0 0, .slice none 0 0, .slice none 0 0, .slice none 0 0] 26 = Obj.cells (msV zMs zAd) 26 from rfl, ← HW9.out])
    clear HW9 HZ8
    have hbb : (E == E) = true := by simp
    have hff : (F == F) = true := by simp
    have a0 : w9.cell? ⟨w2.heap.size, 0, none⟩ = some (.int .u16 (N.id : Nat)) := blk_cell (HY3d.out) 0
    have a1 : w9.cell? ⟨w2.heap.size, 1, none⟩ = some (.bool N.qr) := blk_cell (HY3d.out) 1
    have a2 : w9.cell? ⟨w2.heap.size, 2, none⟩ = some (.bool N.aa) := blk_cell (HY3d.out) 2
    have a3 : w9.cell? ⟨w2.heap.size, 3, none⟩ = some (.bool N.tc) := blk_cell (HY3d.out) 3
    have a4 : w9.cell? ⟨w2.heap.size, 4, none⟩ = some (.bool N.rd) := blk_cell (HY3d.out) 4
    have a5 : w9.cell? ⟨w2.heap.size, 5, none⟩ = some (.bool N.ra) := blk_cell (HY3d.out) 5
    have a6 : w9.cell? ⟨w2.heap.size, 6, none⟩ = some (.int .i64 N.op) := blk_cell (HY3d.out) 6
    have a7 : w9.cell? ⟨w2.heap.size, 7, none⟩ = some (.int .i64 N.rc) := blk_cell (HY3d.out) 7
    have a8 : w9.cell? ⟨w2.heap.size, 8, none⟩ = some (.slice d2.aq N.q.length d2.cq) := blk_cell (HY3d.out) 8
    have a9 : w9.cell? ⟨w2.heap.size, 9, none⟩ = some (.slice d2.a1 N.an.length d2.c1) := blk_cell (HY3d.out) 9
    have a10 : w9.cell? ⟨w2.heap.size, 10, none⟩ = some (.slice d2.a2 N.ns.length d2.c2) := blk_cell (HY3d.out) 10
    have a11 : w9.cell? ⟨w2.heap.size, 11, none⟩ = some (.slice d2.a3 N.ar.length d2.c3) := blk_cell (HY3d.out) 11
    have b0 : w9.cell? ⟨w4.heap.size, 0, none⟩ = some (.int .u16 (N.id : Nat)) := blk_cell (HY5c.out) 0
    have b1 : w9.cell? ⟨w4.heap.size, 1, none⟩ = some (.bool N.qr) := blk_cell (HY5c.out) 1
    have b2 : w9.cell? ⟨w4.heap.size, 2, none⟩ = some (.bool N.aa) := blk_cell (HY5c.out) 2
    have b3 : w9.cell? ⟨w4.heap.size, 3, none⟩ = some (.bool N.tc) := blk_cell (HY5c.out) 3
    have b4 : w9.cell? ⟨w4.heap.size, 4, none⟩ = some (.bool N.rd) := blk_cell (HY5c.out) 4
    have b5 : w9.cell? ⟨w4.heap.size, 5, none⟩ = some (.bool N.ra) := blk_cell (HY5c.out) 5
    have b6 : w9.cell? ⟨w4.heap.size, 6, none⟩ = some (.int .i64 N.op) := blk_cell (HY5c.out) 6
    have b7 : w9.cell? ⟨w4.heap.size, 7, none⟩ = some (.int .i64 N.rc) := blk_cell (HY5c.out) 7
    have b8 : w9.cell? ⟨w4.heap.size, 8, none⟩ = some (.slice d4.aq N.q.length d4.cq) := blk_cell (HY5c.out) 8
    have b9 : w9.cell? ⟨w4.heap.size, 9, none⟩ = some (.slice d4.a1 N.an.length d4.c1) := blk_cell (HY5c.out) 9
    have b10 : w9.cell? ⟨w4.heap.size, 10, none⟩ = some (.slice d4.a2 N.ns.length d4.c2) := blk_cell (HY5c.out) 10
    have b11 : w9.cell? ⟨w4.heap.size, 11, none⟩ = some (.slice d4.a3 N.ar.length d4.c3) := blk_cell (HY5c.out) 11
    go_wp2_with fail
    refine (samem_yes N d2 d4 HBg.out.1 HBg.out.2.1 HBg.out.2.2.1 HBg.out.2.2.2 _ HG2d.out HG4c.out).mono ?_
    rintro e wa ⟨rfl, hba⟩
    have HBa := Lib.hid (HB9.out.trans (hba.mono HB9.out.size))
    have hy7 := (hba.block _ (heap_lt HY7b.out)).trans HY7b.out
    have hy9 := (hba.block _ (heap_lt HY9.out)).trans HY9.out
    clear hba a0 b0 a1 b1 a2 b2 a3 b3 a4 b4 a5 b5 a6 b6 a7 b7 a8 b8 a9 b9 a10 b10 a11 b11
    have a0 : wa.cell? ⟨w6.heap.size, 0, none⟩ = some (.int .u16 (H.id : Nat)) := blk_cell (hy7) 0
    have a1 : wa.cell? ⟨w6.heap.size, 1, none⟩ = some (.bool H.qr) := blk_cell (hy7) 1
    have a2 : wa.cell? ⟨w6.heap.size, 2, none⟩ = some (.bool H.aa) := blk_cell (hy7) 2
    have a3 : wa.cell? ⟨w6.heap.size, 3, none⟩ = some (.bool H.tc) := blk_cell (hy7) 3
    have a4 : wa.cell? ⟨w6.heap.size, 4, none⟩ = some (.bool H.rd) := blk_cell (hy7) 4
    have a5 : wa.cell? ⟨w6.heap.size, 5, none⟩ = some (.bool H.ra) := blk_cell (hy7) 5
    have a6 : wa.cell? ⟨w6.heap.size, 6, none⟩ = some (.int .i64 H.op) := blk_cell (hy7) 6
    have a7 : wa.cell? ⟨w6.heap.size, 7, none⟩ = some (.int .i64 H.rc) := blk_cell (hy7) 7
    have a8 : wa.cell? ⟨w6.heap.size, 8, none⟩ = some (.slice zAd.aq H.q.length zAd.cq) := blk_cell (hy7) 8
    have a9 : wa.cell? ⟨w6.heap.size, 9, none⟩ = some (.slice zAd.a1 H.an.length zAd.c1) := blk_cell (hy7) 9
    have a10 : wa.cell? ⟨w6.heap.size, 10, none⟩ = some (.slice zAd.a2 H.ns.length zAd.c2) := blk_cell (hy7) 10
    have a11 : wa.cell? ⟨w6.heap.size, 11, none⟩ = some (.slice zAd.a3 H.ar.length zAd.c3) := blk_cell (hy7) 11
    have b0 : wa.cell? ⟨w8.heap.size, 0, none⟩ = some (.int .u16 (H.id : Nat)) := blk_cell (hy9) 0
    have b1 : wa.cell? ⟨w8.heap.size, 1, none⟩ = some (.bool H.qr) := blk_cell (hy9) 1
    have b2 : wa.cell? ⟨w8.heap.size, 2, none⟩ = some (.bool H.aa) := blk_cell (hy9) 2
    have b3 : wa.cell? ⟨w8.heap.size, 3, none⟩ = some (.bool H.tc) := blk_cell (hy9) 3
    have b4 : wa.cell? ⟨w8.heap.size, 4, none⟩ = some (.bool H.rd) := blk_cell (hy9) 4
    have b5 : wa.cell? ⟨w8.heap.size, 5, none⟩ = some (.bool H.ra) := blk_cell (hy9) 5
    have b6 : wa.cell? ⟨w8.heap.size, 6, none⟩ = some (.int .i64 H.op) := blk_cell (hy9) 6
    have b7 : wa.cell? ⟨w8.heap.size, 7, none⟩ = some (.int .i64 H.rc) := blk_cell (hy9) 7
    have b8 : wa.cell? ⟨w8.heap.size, 8, none⟩ = some (.slice zAd.aq H.q.length zAd.cq) := blk_cell (hy9) 8
    have b9 : wa.cell? ⟨w8.heap.size, 9, none⟩ = some (.slice zAd.a1 H.an.length zAd.c1) := blk_cell (hy9) 9
    have b10 : wa.cell? ⟨w8.heap.size, 10, none⟩ = some (.slice zAd.a2 H.ns.length zAd.c2) := blk_cell (hy9) 10
    have b11 : wa.cell? ⟨w8.heap.size, 11, none⟩ = some (.slice zAd.a3 H.ar.length zAd.c3) := blk_cell (hy9) 11
    clear hy7 hy9
    go_wp2_with fail
    refine (samem_yes H zAd zAd HBh.out.1 HBh.out.2.1 HBh.out.2.2.1 HBh.out.2.2.2 _ (HG.out _) (HG.out _)).mono ?_
    rintro e wb ⟨rfl, hbb2⟩
    have HBb := Lib.hid (HBa.out.trans (hbb2.mono HBa.out.size))
    clear hbb2
    go_wp2_with fail
    go_ret
    exact ⟨rfl, HBb.out⟩
end Go.Proofs.YtnakljbginbenaaGreatDoor
