/- The contracts of derrickref05.RRs and derrickref06.Same, at what is the same. -/
import Derived.Test.YtnakljbginbenaaGreatDoorMme
import Derived.RegionTactic
import Derived.Deep.DeepCutAuto
import Derived.BigQuiet
namespace Go.Proofs.YtnakljbginbenaaGreatDoor
open Go.RowKit
set_option linter.unusedVariables false

set_option maxRecDepth 100000 in
set_option maxHeartbeats 1000000 in
theorem rrs_yes (A : Option Addr) (cap : Nat) (A2 : Option Addr) (cap2 : Nat) (l : List Rc) (hl : l.length ≤ 9223372036854775807) (w : World) (hI : Sl rf w A cap l) (hJ : Sl rf w A2 cap2 l) :
    Calls Tryz.prog 34 #[.slice A l.length cap, .slice A2 l.length cap2] w fun e w' => e = .returned (.bool true) ∧ Below w.heap.size w w' := by
  have HI := Lib.hid hI
  have HJ := Lib.hid hJ
  clear hI hJ
  go_enter Tryz.func34, Tryz.ntmps34
  go_wp2_with fail
  go_loopw [5] (fun i wr => ∃ j : Nat, j ≤ l.length ∧ i = .int .i64 j ∧ Below w.heap.size w wr) (fun i _ => l.length - (intOf i).toNat)
  case atStart => exact ⟨0, Nat.zero_le _, rfl, Below.refl _ _⟩
  case round =>
    obtain ⟨j, hj, rfl, hbel⟩ := hrel
    by_cases hlt : j < l.length
    · obtain ⟨b, off, rfl, hb, c0, c1, c2, c3, c4⟩ := (HI.out.below' hbel).rec5 j hlt
      obtain ⟨b', off', rfl, hb', d0, d1, d2, d3, d4⟩ := (HJ.out.below' hbel).rec5 j hlt
      have HB := Lib.hid hbel
      clear hbel
      generalize l[j] = r at *
      go_upto_region 6 with (fail)
      first | (go_region_with (fail)) | fail
      all_goals
        go_wp2_with fail
        go_roundw
        case rel => exact ⟨j + 1, hlt, by go_num, HB.out.drew⟩
        case measure => simp [intOf]; omega
    · obtain rfl : j = l.length := by omega
      have HB := Lib.hid hbel
      clear hbel
      go_wp2_with fail
      go_ret
      exact ⟨rfl, HB.out⟩

set_option maxRecDepth 100000 in
set_option maxHeartbeats 4000000 in
theorem samem_yes (m : Ms) (d d' : Ad) (hq : m.q.length ≤ 9223372036854775807) (h1 : m.an.length ≤ 9223372036854775807) (h2 : m.ns.length ≤ 9223372036854775807) (h3 : m.ar.length ≤ 9223372036854775807) (w : World) (hI : Mg w m d) (hJ : Mg w m d') :
    Calls Tryz.prog 12 #[.agg (msV m d), .agg (msV m d')] w fun e w' => e = .returned (.bool true) ∧ Below w.heap.size w w' := by
  obtain ⟨aq, cq, a1, c1, a2, c2, a3, c3⟩ := d
  obtain ⟨bq, kq, b1, k1, b2, k2, b3, k3⟩ := d'
  have hb1 := (Below.refl w.heap.size w).alloc (Nat.le_refl _) (Obj.cells (msV m ⟨aq, cq, a1, c1, a2, c2, a3, c3⟩) 26)
  have hx1 := World.alloc_heap_new w (Obj.cells (msV m ⟨aq, cq, a1, c1, a2, c2, a3, c3⟩) 26)
  have hb2 := hb1.alloc hb1.size (Obj.cells (msV m ⟨bq, kq, b1, k1, b2, k2, b3, k3⟩) 26)
  have hx2 := heap_alloc2_new w (Obj.cells (msV m ⟨aq, cq, a1, c1, a2, c2, a3, c3⟩) 26) (Obj.cells (msV m ⟨bq, kq, b1, k1, b2, k2, b3, k3⟩) 26)
  have hx3 := (heapOld (Obj.cells (msV m ⟨bq, kq, b1, k1, b2, k2, b3, k3⟩) 26) (heap_lt hx1)).trans hx1
  obtain ⟨w2, hw2⟩ : ∃ w2, w2 = (w.alloc (Obj.cells (msV m ⟨aq, cq, a1, c1, a2, c2, a3, c3⟩) 26)).alloc (Obj.cells (msV m ⟨bq, kq, b1, k1, b2, k2, b3, k3⟩) 26) := ⟨_, rfl⟩
  rw [← hw2] at hb2 hx2 hx3
  have HW := Lib.hid hw2
  have hblk : ∀ W, Below w2.heap.size w2 W → W.heap[w.heap.size]? = some (.cells (msV m ⟨aq, cq, a1, c1, a2, c2, a3, c3⟩) 26 (0, 0)) ∧ W.heap[w.heap.size + 1]? = some (.cells (msV m ⟨bq, kq, b1, k1, b2, k2, b3, k3⟩) 26 (0, 0)) := fun W hW => ⟨(hW.block _ (heap_lt hx3)).trans hx3, (hW.block _ (heap_lt hx2)).trans hx2⟩
  have HX := Lib.hid hblk
  have HB2 := Lib.hid hb2
  have hIq : Sl qf w2 aq cq m.q := hI.q.below' hb2
  have hI1 : Sl rf w2 a1 c1 m.an := hI.an.below' hb2
  have hI2 : Sl rf w2 a2 c2 m.ns := hI.ns.below' hb2
  have hI3 : Sl rf w2 a3 c3 m.ar := hI.ar.below' hb2
  have hJq : Sl qf w2 bq kq m.q := hJ.q.below' hb2
  have hJ1 : Sl rf w2 b1 k1 m.an := hJ.an.below' hb2
  have hJ2 : Sl rf w2 b2 k2 m.ns := hJ.ns.below' hb2
  have hJ3 : Sl rf w2 b3 k3 m.ar := hJ.ar.below' hb2
  have HQ := Lib.hid (And.intro hIq hJq)
  have H1 := Lib.hid (And.intro hI1 hJ1)
  have H2 := Lib.hid (And.intro hI2 hJ2)
  have H3 := Lib.hid (And.intro hI3 hJ3)
  clear hb1 hx1 hb2 hx2 hx3 hw2 hI hJ hblk hIq hI1 hI2 hI3 hJq hJ1 hJ2 hJ3
  obtain ⟨y1, y2⟩ := HX.out w2 (Below.refl _ _)
  have e8 : w2.cell? ⟨w.heap.size, 8, none⟩ = some (.slice aq m.q.length cq) := blk_cell y1 8
  have f8 : w2.cell? ⟨w.heap.size + 1, 8, none⟩ = some (.slice bq m.q.length kq) := blk_cell y2 8
  have e9 : w2.cell? ⟨w.heap.size, 9, none⟩ = some (.slice a1 m.an.length c1) := blk_cell y1 9
  have f9 : w2.cell? ⟨w.heap.size + 1, 9, none⟩ = some (.slice b1 m.an.length k1) := blk_cell y2 9
  clear y1 y2
  go_enter Tryz.func12, Tryz.ntmps12
  go_upto_region 1 with (fail)
  rw [← HW.out]
  clear HW
  go_wp2_with fail
  refine (rrs_yes _ _ _ _ m.an h1 _ H1.out.1 H1.out.2).mono ?_
  rintro e w3 ⟨rfl, hb3⟩
  have HB3 := Lib.hid hb3
  obtain ⟨y1, y2⟩ := HX.out w3 hb3
  have e10 : w3.cell? ⟨w.heap.size, 10, none⟩ = some (.slice a2 m.ns.length c2) := blk_cell y1 10
  have f10 : w3.cell? ⟨w.heap.size + 1, 10, none⟩ = some (.slice b2 m.ns.length k2) := blk_cell y2 10
  clear y1 y2 hb3 e8 f8 e9 f9
  go_wp2_with fail
  refine (rrs_yes _ _ _ _ m.ns h2 _ (H2.out.1.below' HB3.out) (H2.out.2.below' HB3.out)).mono ?_
  rintro e w4 ⟨rfl, hb4⟩
  have HB4 := Lib.hid (HB3.out.trans (hb4.mono HB3.out.size))
  obtain ⟨y1, y2⟩ := HX.out w4 HB4.out
  have e11 : w4.cell? ⟨w.heap.size, 11, none⟩ = some (.slice a3 m.ar.length c3) := blk_cell y1 11
  have f11 : w4.cell? ⟨w.heap.size + 1, 11, none⟩ = some (.slice b3 m.ar.length k3) := blk_cell y2 11
  clear y1 y2 hb4 e10 f10 HB3
  go_wp2_with fail
  refine (rrs_yes _ _ _ _ m.ar h3 _ (H3.out.1.below' HB4.out) (H3.out.2.below' HB4.out)).mono ?_
  rintro e w5 ⟨rfl, hb5⟩
  have HB5 := Lib.hid (HB4.out.trans (hb5.mono HB4.out.size))
  clear hb5 e11 f11 HB4
  go_wp2_with fail
  go_loopw [5] (fun i wr => ∃ j : Nat, j ≤ m.q.length ∧ i = .int .i64 j ∧ Below w2.heap.size w2 wr) (fun i _ => m.q.length - (intOf i).toNat)
  case atStart => exact ⟨0, Nat.zero_le _, rfl, HB5.out⟩
  case round =>
    clear HB5
    obtain ⟨j, hj, rfl, hbel⟩ := hrel
    obtain ⟨y1, y2⟩ := HX.out wr hbel
    have e8 : wr.cell? ⟨w.heap.size, 8, none⟩ = some (.slice aq m.q.length cq) := blk_cell y1 8
    have f8 : wr.cell? ⟨w.heap.size + 1, 8, none⟩ = some (.slice bq m.q.length kq) := blk_cell y2 8
    by_cases hlt : j < m.q.length
    · obtain ⟨b, off, rfl, hb, c0, g1, g2⟩ := (HQ.out.1.below' hbel).ask3 j hlt
      obtain ⟨b', off', rfl, hb', d0, d1, d2⟩ := (HQ.out.2.below' hbel).ask3 j hlt
      have HB := Lib.hid hbel
      clear hbel y1 y2
      generalize m.q[j] = r at *
      go_upto_region 6 with (fail)
      first | (go_region_with (fail)) | fail
      all_goals
        go_wp2_with fail
        go_roundw
        case rel => exact ⟨j + 1, hlt, by go_num, HB.out.drew⟩
        case measure => simp [intOf]; omega
    · obtain rfl : j = m.q.length := by omega
      have e0 : wr.cell? ⟨w.heap.size, 0, none⟩ = some (.int .u16 (m.id : Nat)) := blk_cell y1 0
      have e1 : wr.cell? ⟨w.heap.size, 1, none⟩ = some (.bool m.qr) := blk_cell y1 1
      have e2 : wr.cell? ⟨w.heap.size, 2, none⟩ = some (.bool m.aa) := blk_cell y1 2
      have e3 : wr.cell? ⟨w.heap.size, 3, none⟩ = some (.bool m.tc) := blk_cell y1 3
      have e4 : wr.cell? ⟨w.heap.size, 4, none⟩ = some (.bool m.rd) := blk_cell y1 4
      have e5 : wr.cell? ⟨w.heap.size, 5, none⟩ = some (.bool m.ra) := blk_cell y1 5
      have e6 : wr.cell? ⟨w.heap.size, 6, none⟩ = some (.int .i64 m.op) := blk_cell y1 6
      have e7 : wr.cell? ⟨w.heap.size, 7, none⟩ = some (.int .i64 m.rc) := blk_cell y1 7
      have f0 : wr.cell? ⟨w.heap.size + 1, 0, none⟩ = some (.int .u16 (m.id : Nat)) := blk_cell y2 0
      have f1 : wr.cell? ⟨w.heap.size + 1, 1, none⟩ = some (.bool m.qr) := blk_cell y2 1
      have f2 : wr.cell? ⟨w.heap.size + 1, 2, none⟩ = some (.bool m.aa) := blk_cell y2 2
      have f3 : wr.cell? ⟨w.heap.size + 1, 3, none⟩ = some (.bool m.tc) := blk_cell y2 3
      have f4 : wr.cell? ⟨w.heap.size + 1, 4, none⟩ = some (.bool m.rd) := blk_cell y2 4
      have f5 : wr.cell? ⟨w.heap.size + 1, 5, none⟩ = some (.bool m.ra) := blk_cell y2 5
      have f6 : wr.cell? ⟨w.heap.size + 1, 6, none⟩ = some (.int .i64 m.op) := blk_cell y2 6
      have f7 : wr.cell? ⟨w.heap.size + 1, 7, none⟩ = some (.int .i64 m.rc) := blk_cell y2 7
      have HF := Lib.hid (HB2.out.trans (hbel.mono HB2.out.size))
      clear hbel y1 y2
      go_wp2_with fail
      go_ret
      exact ⟨rfl, HF.out⟩
end Go.Proofs.YtnakljbginbenaaGreatDoor
