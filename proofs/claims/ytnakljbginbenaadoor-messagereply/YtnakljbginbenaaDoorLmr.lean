/- The walk of derricklaw06.MessageReply: an answer may be, if its question may, and its code; answered again it is the same. -/
import Derived.Test.YtnakljbginbenaaDoorMmp
import Derived.Test.YtnakljbginbenaaDoorMmn
import Derived.Test.YtnakljbginbenaaDoorMmo
namespace Go.Proofs.YtnakljbginbenaaDoor
open Go.RowKit
set_option linter.unusedVariables false

theorem rep_may {m : Ms} {x : Nat} (hx : x ≤ 15) (h : mayM m = true) : mayM (repM m x) = true := by
  have h := mayM_iff.1 h
  exact mayM_iff.2 ⟨h.op, ⟨by show (0 : Int) ≤ x; omega, by show (x : Int) ≤ 15; omega⟩, h.q, ⟨by show ([] : List Rc).length ≤ _; simp, fun r hr => by cases hr⟩, ⟨by show ([] : List Rc).length ≤ _; simp, fun r hr => by cases hr⟩, ⟨by show ([] : List Rc).length ≤ _; simp, fun r hr => by cases hr⟩⟩
theorem rep_sm {m : Ms} (h : SmM m) (x : Int) : SmM (repM m x) := ⟨h.q, sm_nil, sm_nil, sm_nil⟩

set_option maxRecDepth 100000 in
set_option maxHeartbeats 4000000 in
theorem reply_walk (m : Ms) (d : Ad) (k : Nat) (hok : m.Ok) (hk : k < 256) (w : World) (hI : Mg w m d) (hL : Lay w) :
    Calls Tryd.prog 6 #[.agg (msV m d), .int .u8 (k : Nat)] w fun e w' => e = .returned (.bool true) ∧ Below w.heap.size w w' := by
  have hbox := World.alloc_heap_new w (Obj.cells (msV m d) 26)
  have hal := (Below.refl w.heap.size w).alloc (Nat.le_refl _) (Obj.cells (msV m d) 26)
  obtain ⟨w1, hw1⟩ : ∃ w1, w1 = w.alloc (Obj.cells (msV m d) 26) := ⟨_, rfl⟩
  rw [← hw1] at hbox hal
  have hblk : ∀ W, Below w1.heap.size w1 W → W.heap[w.heap.size]? = some (.cells (msV m d) 26 (0, 0)) := fun W hW => (hW.block _ (heap_lt hbox)).trans hbox
  have HW := Lib.hid hw1
  have HX := Lib.hid hblk
  have HAl := Lib.hid hal
  have HI := Lib.hid (hI.below hal)
  have HL := Lib.hid (hL.below (lay_lt hL) hal)
  have H0 := Lib.hid (lay_lt (hL.below (lay_lt hL) hal))
  have HOk := Lib.hid hok
  obtain ⟨x, hx⟩ : ∃ x : Nat, x = k % 16 := ⟨_, rfl⟩
  have hx1 : ((k : Int).tmod 16) = (x : Int) := by rw [Int.tmod_eq_emod_of_nonneg (by omega)]; omega
  have hx2 : x ≤ 15 := by omega
  clear hbox hal hw1 hI hL hok hblk hx
  go_enter Tryd.func6, Tryd.ntmps6
  go_upto_region 1 with (fail)
  rw [← HW.out]
  clear HW
  go_wp2_with fail
  refine (mshown_any _ HL.out).mono ?_
  rintro e w2 ⟨rfl, hb2⟩
  have HB2 := Lib.hid hb2
  have HX2 := Lib.hid (HX.out _ hb2)
  clear hb2
  go_wp2_with (refine wpList_load_row rfl 26 _ rfl w.heap.size rfl 26 _ _ _ HX2.out Tryd.underlying26 rfl (infoM' m d) ?_)
  refine (fewm_any m d _ (HI.out.below HB2.out)).mono ?_
  rintro e w3 ⟨rfl, hb3⟩
  have HB3 := Lib.hid (HB2.out.trans (hb3.mono HB2.out.size))
  have HX3 := Lib.hid (HX.out _ HB3.out)
  clear hb3 HX2 HB2
  cases hf : fewM m with
  | false =>
    clear hf
    go_wp2_with fail
    go_ret
    exact ⟨rfl, HAl.out.trans (HB3.out.mono HAl.out.size)⟩
  | true =>
    have HSm := Lib.hid (fewM_sm hf HOk.out)
    clear hf
    go_wp2_with (refine wpList_load_row rfl 26 _ rfl w.heap.size rfl 26 _ _ _ HX3.out Tryd.underlying26 rfl (infoM' m d) ?_)
    refine (reply_any m d (x : Nat) HSm.out _ (HI.out.below HB3.out)).mono ?_
    rintro e w4 ⟨d4, rfl, hg4, hb4⟩
    have hB4 := HB3.out.trans (hb4.mono HB3.out.size)
    have hx4 := World.alloc_heap_new w4 (Obj.cells (msV zMs zAd) 26)
    have hx5 := setRow_heap (w4.alloc (Obj.cells (msV zMs zAd) 26)) w4.heap.size (msV zMs zAd) (msV (repM m x) d4) 26 (0, 0) hx4
    have hv5 := setRow_below ((Below.refl w4.heap.size w4).alloc (Nat.le_refl _) (Obj.cells (msV zMs zAd) 26)) (Nat.le_refl _) (msV (repM m x) d4)
    obtain ⟨w5, hw5⟩ : ∃ w5, w5 = (w4.alloc (Obj.cells (msV zMs zAd) 26)).setRow w4.heap.size (msV (repM m x) d4) := ⟨_, rfl⟩
    rw [← hw5] at hx5 hv5
    have HX4 := Lib.hid hx4
    have HX5 := Lib.hid hx5
    have HG5 := Lib.hid (hg4.below hv5)
    have HB5 := Lib.hid (hB4.trans (hv5.mono hB4.size))
    have HW5 := Lib.hid hw5
    clear hb4 hB4 hx4 hx5 hv5 hw5 hg4 HX3 HB3
    go_upto_region 5 with (refine wpList_store_row rfl 26 _ _ rfl w4.heap.size (msV (repM m x) d4) rfl rfl 26 (msV zMs zAd) HX4.out infoM rfl (msV_all _ _) ?_)
    rw [show Obj.cells #[Value.int IntKind.u16 0, .bool false, .bool false, .bool false, .bool false, .bool false, .int .i64 0, .int .i64 0, .slice none 0 0, .slice none 0 0, .slice none 0 0, .slice none 0 0] 26 = Obj.cells (msV zMs zAd) 26 from rfl, ← HW5.out]
    clear HW5
    go_wp2_with (refine wpList_load_row rfl 26 _ rfl w4.heap.size rfl 26 _ _ _ HX5.out Tryd.underlying26 rfl (infoM' _ _) ?_)
    refine (reply_any (repM m x) d4 (x : Nat) (rep_sm HSm.out _) _ HG5.out).mono ?_
    rintro e w6 ⟨d6, rfl, hg6, hb6⟩
    rw [show repM (repM m x) x = repM m x from rfl] at hg6 ⊢
    have hB6 := HB5.out.trans (hb6.mono HB5.out.size)
    have hx6 := World.alloc_heap_new w6 (Obj.cells (msV zMs zAd) 26)
    have hx7 := setRow_heap (w6.alloc (Obj.cells (msV zMs zAd) 26)) w6.heap.size (msV zMs zAd) (msV (repM m x) d6) 26 (0, 0) hx6
    have hv7 := setRow_below ((Below.refl w6.heap.size w6).alloc (Nat.le_refl _) (Obj.cells (msV zMs zAd) 26)) (Nat.le_refl _) (msV (repM m x) d6)
    obtain ⟨w7, hw7⟩ : ∃ w7, w7 = (w6.alloc (Obj.cells (msV zMs zAd) 26)).setRow w6.heap.size (msV (repM m x) d6) := ⟨_, rfl⟩
    rw [← hw7] at hx7 hv7
    have hw57 := hb6.trans (hv7.mono hb6.size)
    have hy5 := (hw57.block _ (heap_lt HX5.out)).trans HX5.out
    have hB7 := hB6.trans (hv7.mono hB6.size)
    have hym := HX.out _ hB7
    have r0 : w7.cell? ⟨w4.heap.size, 0, none⟩ = some (.int .u16 (m.id : Nat)) := blk_cell hy5 0
    have r1 : w7.cell? ⟨w4.heap.size, 1, none⟩ = some (.bool true) := blk_cell hy5 1
    have r2 : w7.cell? ⟨w4.heap.size, 2, none⟩ = some (.bool false) := blk_cell hy5 2
    have r3 : w7.cell? ⟨w4.heap.size, 3, none⟩ = some (.bool false) := blk_cell hy5 3
    have r4 : w7.cell? ⟨w4.heap.size, 4, none⟩ = some (.bool m.rd) := blk_cell hy5 4
    have r5 : w7.cell? ⟨w4.heap.size, 5, none⟩ = some (.bool true) := blk_cell hy5 5
    have r6 : w7.cell? ⟨w4.heap.size, 6, none⟩ = some (.int .i64 m.op) := blk_cell hy5 6
    have r7 : w7.cell? ⟨w4.heap.size, 7, none⟩ = some (.int .i64 (x : Nat)) := blk_cell hy5 7
    have r8 : w7.cell? ⟨w4.heap.size, 8, none⟩ = some (.slice d4.aq m.q.length d4.cq) := blk_cell hy5 8
    have r9 : w7.cell? ⟨w4.heap.size, 9, none⟩ = some (.slice d4.a1 0 d4.c1) := blk_cell hy5 9
    have r10 : w7.cell? ⟨w4.heap.size, 10, none⟩ = some (.slice d4.a2 0 d4.c2) := blk_cell hy5 10
    have r11 : w7.cell? ⟨w4.heap.size, 11, none⟩ = some (.slice d4.a3 0 d4.c3) := blk_cell hy5 11
    have t0 : w7.cell? ⟨w6.heap.size, 0, none⟩ = some (.int .u16 (m.id : Nat)) := blk_cell hx7 0
    have t1 : w7.cell? ⟨w6.heap.size, 1, none⟩ = some (.bool true) := blk_cell hx7 1
    have t2 : w7.cell? ⟨w6.heap.size, 2, none⟩ = some (.bool false) := blk_cell hx7 2
    have t3 : w7.cell? ⟨w6.heap.size, 3, none⟩ = some (.bool false) := blk_cell hx7 3
    have t4 : w7.cell? ⟨w6.heap.size, 4, none⟩ = some (.bool m.rd) := blk_cell hx7 4
    have t5 : w7.cell? ⟨w6.heap.size, 5, none⟩ = some (.bool true) := blk_cell hx7 5
    have t6 : w7.cell? ⟨w6.heap.size, 6, none⟩ = some (.int .i64 m.op) := blk_cell hx7 6
    have t7 : w7.cell? ⟨w6.heap.size, 7, none⟩ = some (.int .i64 (x : Nat)) := blk_cell hx7 7
    have t8 : w7.cell? ⟨w6.heap.size, 8, none⟩ = some (.slice d6.aq m.q.length d6.cq) := blk_cell hx7 8
    have t9 : w7.cell? ⟨w6.heap.size, 9, none⟩ = some (.slice d6.a1 0 d6.c1) := blk_cell hx7 9
    have t10 : w7.cell? ⟨w6.heap.size, 10, none⟩ = some (.slice d6.a2 0 d6.c2) := blk_cell hx7 10
    have t11 : w7.cell? ⟨w6.heap.size, 11, none⟩ = some (.slice d6.a3 0 d6.c3) := blk_cell hx7 11
    have s0 : w7.cell? ⟨w.heap.size, 0, none⟩ = some (.int .u16 (m.id : Nat)) := blk_cell hym 0
    have s4 : w7.cell? ⟨w.heap.size, 4, none⟩ = some (.bool m.rd) := blk_cell hym 4
    have s6 : w7.cell? ⟨w.heap.size, 6, none⟩ = some (.int .i64 m.op) := blk_cell hym 6
    have s8 : w7.cell? ⟨w.heap.size, 8, none⟩ = some (.slice d.aq m.q.length d.cq) := blk_cell hym 8
    have HX6 := Lib.hid hx6
    have HY5 := Lib.hid hy5
    have HG7 := Lib.hid (hg6.below hv7)
    have HG57 := Lib.hid (HG5.out.below hw57)
    have HB7 := Lib.hid hB7
    have HW7 := Lib.hid hw7
    have HSz := Lib.hid (rep_sm HSm.out (x : Nat))
    have HQl := Lib.hid HSm.out.q.len
    clear hb6 hB6 hx6 hx7 hv7 hw7 hg6 hy5 hB7 hym hw57 HX5 HB5 HG5
    go_wp2_with (refine wpList_store_row rfl 26 _ _ rfl w6.heap.size (msV (repM m x) d6) rfl rfl 26 (msV zMs zAd) HX6.out infoM rfl (msV_all _ _) ?_; rw [show Obj.cells #[Value.int IntKind.u16 0, .bool false, .bool false, .bool false, .bool false, .bool false, .int .i64 0, .int .i64 0, .slice none 0 0, .slice none 0 0, .slice none 0 0, .slice none 0 0] 26 = Obj.cells (msV zMs zAd) 26 from rfl, ← HW7.out])
    refine (samem_yes (repM m x) d4 d6 (by have := HQl.out; show m.q.length ≤ _; omega) (by show ([] : List Rc).length ≤ _; simp) (by show ([] : List Rc).length ≤ _; simp) (by show ([] : List Rc).length ≤ _; simp) _ HG57.out HG7.out).mono ?_
    rintro e w8 ⟨rfl, hb8⟩
    have hB8 := HB7.out.trans (hb8.mono HB7.out.size)
    have hym := HX.out _ hB8
    have m0 : w8.cell? ⟨w.heap.size, 0, none⟩ = some (.int .u16 (m.id : Nat)) := blk_cell hym 0
    have m1 : w8.cell? ⟨w.heap.size, 1, none⟩ = some (.bool m.qr) := blk_cell hym 1
    have m2 : w8.cell? ⟨w.heap.size, 2, none⟩ = some (.bool m.aa) := blk_cell hym 2
    have m3 : w8.cell? ⟨w.heap.size, 3, none⟩ = some (.bool m.tc) := blk_cell hym 3
    have m4 : w8.cell? ⟨w.heap.size, 4, none⟩ = some (.bool m.rd) := blk_cell hym 4
    have m5 : w8.cell? ⟨w.heap.size, 5, none⟩ = some (.bool m.ra) := blk_cell hym 5
    have m6 : w8.cell? ⟨w.heap.size, 6, none⟩ = some (.int .i64 m.op) := blk_cell hym 6
    have m7 : w8.cell? ⟨w.heap.size, 7, none⟩ = some (.int .i64 m.rc) := blk_cell hym 7
    have m8 : w8.cell? ⟨w.heap.size, 8, none⟩ = some (.slice d.aq m.q.length d.cq) := blk_cell hym 8
    have m9 : w8.cell? ⟨w.heap.size, 9, none⟩ = some (.slice d.a1 m.an.length d.c1) := blk_cell hym 9
    have m10 : w8.cell? ⟨w.heap.size, 10, none⟩ = some (.slice d.a2 m.ns.length d.c2) := blk_cell hym 10
    have m11 : w8.cell? ⟨w.heap.size, 11, none⟩ = some (.slice d.a3 m.ar.length d.c3) := blk_cell hym 11
    have HB8 := Lib.hid hB8
    have HG8 := Lib.hid (HG57.out.below hb8)
    have HY8 := Lib.hid ((hb8.block _ (heap_lt HY5.out)).trans HY5.out)
    clear hb8 hB8 hym r0 r1 r2 r3 r4 r5 r6 r7 r8 r9 r10 r11 t0 t1 t2 t3 t4 t5 t6 t7 t8 t9 t10 t11 s0 s4 s6 s8
    cases hmm : mayM m with
    | false =>
      have HM := Lib.hid (fun w' hI' hL' => maym_any m d HSm.out w' hI' hL')
      rw [hmm] at HM
      clear hmm
      go_wp2_with fail
      refine (HM.out _ (HI.out.below HB8.out) (HL.out.below H0.out HB8.out)).mono ?_
      rintro e w9 ⟨rfl, hb9⟩
      have HB9 := Lib.hid (HB8.out.trans (hb9.mono HB8.out.size))
      clear hb9
      go_wp2_with fail
      go_ret
      exact ⟨rfl, HAl.out.trans (HB9.out.mono HAl.out.size)⟩
    | true =>
      have HM := Lib.hid (fun w' hI' hL' => maym_any m d HSm.out w' hI' hL')
      have HR := Lib.hid (fun w' hI' hL' => maym_any (repM m x) d4 HSz.out w' hI' hL')
      rw [hmm] at HM
      rw [rep_may hx2 hmm] at HR
      clear hmm
      go_wp2_with fail
      refine (HM.out _ (HI.out.below HB8.out) (HL.out.below H0.out HB8.out)).mono ?_
      rintro e w9 ⟨rfl, hb9⟩
      have HB9 := Lib.hid (HB8.out.trans (hb9.mono HB8.out.size))
      have hy9 := (hb9.block _ (heap_lt HY8.out)).trans HY8.out
      have r0 : w9.cell? ⟨w4.heap.size, 0, none⟩ = some (.int .u16 (m.id : Nat)) := blk_cell hy9 0
      have r1 : w9.cell? ⟨w4.heap.size, 1, none⟩ = some (.bool true) := blk_cell hy9 1
      have r2 : w9.cell? ⟨w4.heap.size, 2, none⟩ = some (.bool false) := blk_cell hy9 2
      have r3 : w9.cell? ⟨w4.heap.size, 3, none⟩ = some (.bool false) := blk_cell hy9 3
      have r4 : w9.cell? ⟨w4.heap.size, 4, none⟩ = some (.bool m.rd) := blk_cell hy9 4
      have r5 : w9.cell? ⟨w4.heap.size, 5, none⟩ = some (.bool true) := blk_cell hy9 5
      have r6 : w9.cell? ⟨w4.heap.size, 6, none⟩ = some (.int .i64 m.op) := blk_cell hy9 6
      have r7 : w9.cell? ⟨w4.heap.size, 7, none⟩ = some (.int .i64 (x : Nat)) := blk_cell hy9 7
      have r8 : w9.cell? ⟨w4.heap.size, 8, none⟩ = some (.slice d4.aq m.q.length d4.cq) := blk_cell hy9 8
      have r9 : w9.cell? ⟨w4.heap.size, 9, none⟩ = some (.slice d4.a1 0 d4.c1) := blk_cell hy9 9
      have r10 : w9.cell? ⟨w4.heap.size, 10, none⟩ = some (.slice d4.a2 0 d4.c2) := blk_cell hy9 10
      have r11 : w9.cell? ⟨w4.heap.size, 11, none⟩ = some (.slice d4.a3 0 d4.c3) := blk_cell hy9 11
      have HG9 := Lib.hid (HG8.out.below hb9)
      clear hb9 hy9 m0 m1 m2 m3 m4 m5 m6 m7 m8 m9 m10 m11
      go_wp2_with fail
      refine (HR.out _ HG9.out (HL.out.below H0.out HB9.out)).mono ?_
      rintro e w10 ⟨rfl, hb10⟩
      have HB10 := Lib.hid (HB9.out.trans (hb10.mono HB9.out.size))
      clear hb10
      go_wp2_with fail
      go_ret
      exact ⟨rfl, HAl.out.trans (HB10.out.mono HAl.out.size)⟩
end Go.Proofs.YtnakljbginbenaaDoor
