/- The contract of message.Take. -/
import Derived.Test.YtnakljbginbenaaGreatDoorMmk
namespace Go.Proofs.YtnakljbginbenaaGreatDoor
open Go.RowKit
set_option linter.unusedVariables false

/-- What Take tells. -/
def tmM (s : ByteArray) : Ms := if okT s = true then msT s else zMs
def tmE (s : ByteArray) : Int := if okT s = true then 0 else 2
/-- A slice that lies behind a mark. -/
structure SlF (f : Rc → List Value) (N : Nat) (w : World) (A : Option Addr) (cap : Nat) (l : List Rc) : Prop where
  sl : Sl f w A cap l
  fresh : ∀ a, A = some a → N ≤ a.block
theorem SlF.call {f : Rc → List Value} {N : Nat} {w w' : World} {A : Option Addr} {cap : Nat} {l : List Rc} (h : SlF f N w A cap l) (hb : Below w.heap.size w w') : SlF f N w' A cap l := ⟨h.sl.below' hb, h.fresh⟩
theorem SlF.set {f : Rc → List Value} {N : Nat} {w : World} {A : Option Addr} {cap g i : Nat} {l : List Rc} (h : SlF f N w A cap l) (hg : g < N) (u : Value) : SlF f N (w.setCell ⟨g, i, none⟩ u) A cap l :=
  ⟨h.sl.other (g := g) (fun b hb => Below.heap_setCell w ⟨g, i, none⟩ u b hb) (by simp [World.setCell]) (fun a ha => by have := h.fresh a ha; omega), h.fresh⟩
theorem SlF.row {f : Rc → List Value} {N : Nat} {w : World} {A : Option Addr} {cap g : Nat} {l : List Rc} (h : SlF f N w A cap l) (hg : g < N) (cs : Array Value) : SlF f N (w.setRow g cs) A cap l :=
  ⟨h.sl.other (g := g) (fun b hb => setRow_other _ _ _ _ hb) (by simp) (fun a ha => by have := h.fresh a ha; omega), h.fresh⟩
theorem outP_le {s : ByteArray} {n : Nat} {p : Int} (hp : p ≤ s.size) : outP (rsT s n p) ≤ s.size := by
  cases h : rsT s n p with
  | none => show (-1 : Int) ≤ _; omega
  | some y => exact (rsT_is n p y h).2.2.2 hp
theorem qP_le {s : ByteArray} (h : 12 ≤ s.size) : qP s ≤ s.size := by
  unfold qP
  cases hq : qsT s (g16 s 4) 12 with
  | none => show (-1 : Int) ≤ _; omega
  | some y => exact (qsT_is _ _ y hq).2.2.2 (by omega)
theorem pos_m1 {p : Int} (h : p = -1 ∨ 0 ≤ p) : -1 ≤ p := by omega

set_option maxRecDepth 100000 in
set_option maxHeartbeats 4000000 in
theorem takem_any (s : ByteArray) (hs : s.size ≤ 1073741824) (w : World) (hL : Lay w) :
    Calls Tryz.prog 15 #[.string s] w fun e w' => ∃ d, e = .returned (.tuple #[.agg (msV (tmM s) d), .int .i64 (tmE s)]) ∧ Mg w' (tmM s) d ∧ Below w.heap.size w w' := by
  have hb1 := (Below.refl w.heap.size w).alloc (Nat.le_refl _) (Obj.cells (msV zMs zAd) 26)
  have hx1 := World.alloc_heap_new w (Obj.cells (msV zMs zAd) 26)
  obtain ⟨w1, hw1⟩ : ∃ w1, w1 = w.alloc (Obj.cells (msV zMs zAd) 26) := ⟨_, rfl⟩
  rw [← hw1] at hb1 hx1
  have HW := Lib.hid hw1
  have HB1 := Lib.hid hb1
  have HX1 := Lib.hid hx1
  have HL := Lib.hid hL
  have H0 := Lib.hid (lay_lt hL)
  clear hb1 hx1 hw1 hL
  go_enter Tryz.func15, Tryz.ntmps15
  go_upto_region 1 with (fail)
  rw [show Obj.cells #[Value.int IntKind.u16 0, .bool false, .bool false, .bool false, .bool false, .bool false, .int .i64 0, .int .i64 0, .slice none 0 0, .slice none 0 0, .slice none 0 0, .slice none 0 0] 26 = Obj.cells (msV zMs zAd) 26 from rfl, ← HW.out]
  clear HW
  go_wp2_with fail
  refine (header_any s hs _).mono ?_
  rintro e w2 ⟨rfl, hb2⟩
  have hx2 := World.alloc_heap_new w2 (Obj.cells (msV zMs zAd) 26)
  have hB2 := HB1.out.trans (hb2.mono HB1.out.size)
  have hr2 : w.heap.size < w2.heap.size := Nat.lt_of_lt_of_le (heap_lt HX1.out) hb2.size
  have hB3 := setRow_below (hB2.alloc hB2.size (Obj.cells (msV zMs zAd) 26)) (show w.heap.size ≤ w2.heap.size by omega) (msV (hmT s) zAd)
  have hx3 := setRow_heap (w2.alloc (Obj.cells (msV zMs zAd) 26)) w2.heap.size (msV zMs zAd) (msV (hmT s) zAd) 26 (0, 0) hx2
  have hR3 : ((w2.alloc (Obj.cells (msV zMs zAd) 26)).setRow w2.heap.size (msV (hmT s) zAd)).heap[w.heap.size]? = some (.cells (msV zMs zAd) 26 (0, 0)) := by
    rw [setRow_other _ _ _ _ (by omega), heapOld _ hr2]
    exact (hb2.block _ (heap_lt HX1.out)).trans HX1.out
  have hsz3 : ((w2.alloc (Obj.cells (msV zMs zAd) 26)).setRow w2.heap.size (msV (hmT s) zAd)).heap.size = w2.heap.size + 1 := by simp
  obtain ⟨w3, hw3⟩ : ∃ w3, w3 = (w2.alloc (Obj.cells (msV zMs zAd) 26)).setRow w2.heap.size (msV (hmT s) zAd) := ⟨_, rfl⟩
  rw [← hw3] at hB3 hx3 hR3 hsz3
  have HX2 := Lib.hid hx2
  have HB3 := Lib.hid hB3
  have HX3 := Lib.hid hx3
  have HR3 := Lib.hid hR3
  have HSz := Lib.hid hsz3
  have HW3 := Lib.hid hw3
  have HRg := Lib.hid hr2
  clear hb2 hx2 hB2 hB3 hx3 hR3 hw3 hr2 hsz3
  generalize hg : w2.heap.size = g at *
  go_upto_region 2 with (refine wpList_store_row rfl 26 _ _ rfl g (msV (hmT s) zAd) rfl rfl 26 (msV zMs zAd) HX2.out infoM rfl (msV_all _ _) ?_)
  rw [show Obj.cells #[Value.int IntKind.u16 0, .bool false, .bool false, .bool false, .bool false, .bool false, .int .i64 0, .int .i64 0, .slice none 0 0, .slice none 0 0, .slice none 0 0, .slice none 0 0] 26 = Obj.cells (msV zMs zAd) 26 from rfl, ← HW3.out]
  clear HW3
  by_cases h12 : 12 ≤ s.size
  · obtain ⟨e1, e2⟩ : hmT s = hdT s ∧ hmE s = 0 := ⟨if_pos h12, if_pos h12⟩
    rw [e1] at HX3
    rw [e1, e2]
    have HX := HX3
    have HB := HB3
    have HR := HR3
    have HZ := Lib.hid (Nat.le_of_eq HSz.out.symm)
    clear HX3 HB3 HR3 e1 e2 hg HX2 HSz HB1 HX1
    go_wp2_with fail
    refine (takeQ_any s 12 0 hs h12 (by omega) (by omega) (by omega) _ (HL.out.below H0.out HB.out)).mono ?_
    rintro e v0 ⟨A0, p0, rfl, hS0, hb0, hf0⟩
    rw [show outL (qsT s (g16 s (4 + 2 * 0)) 12) = qL s from rfl] at hS0 ⊢
    rw [show outP (qsT s (g16 s (4 + 2 * 0)) 12) = qP s from rfl]
    have hX0 := (hb0.block _ (heap_lt HX.out)).trans HX.out
    have hR0 := (hb0.block _ (heap_lt HR.out)).trans HR.out
    have hZ0 := Nat.le_trans HZ.out hb0.size
    have hB0 := HB.out.trans (hb0.mono HB.out.size)
    have hF0 : SlF qf (g + 1) v0 A0 p0 (qL s) := ⟨hS0, fun a ha => Nat.le_trans HZ.out (hf0 a ha)⟩
    have c0 : v0.cell? ⟨g, 8, none⟩ = some (.slice none 0 0) := blk_cell hX0 8
    have z0 := blk_frozen hX0 8
    have hY0 := blk_set hX0 8 (.slice A0 (qL s).length p0)
    have hT0 : (v0.setCell ⟨g, 8, none⟩ (.slice A0 (qL s).length p0)).heap[w.heap.size]? = some (.cells (msV zMs zAd) 26 (0, 0)) := (Below.heap_setCell _ _ _ _ (by have := HRg.out; simp only; omega)).trans hR0
    have HZ := Lib.hid (show g + 1 ≤ (v0.setCell ⟨g, 8, none⟩ (.slice A0 (qL s).length p0)).heap.size by simpa [World.setCell] using hZ0)
    have HB := Lib.hid (hB0.setCell (p := ⟨g, 8, none⟩) (show w.heap.size ≤ g by have := HRg.out; omega) (.slice A0 (qL s).length p0))
    have HX := Lib.hid (show (v0.setCell ⟨g, 8, none⟩ (.slice A0 (qL s).length p0)).heap[g]? = some (.cells (msV { hdT s with q := qL s } ⟨A0, p0, none, 0, none, 0, none, 0⟩) 26 (0, 0)) from hY0)
    have HR := Lib.hid hT0
    have HS0 := Lib.hid (hF0.set (g := g) (i := 8) (by omega) (.slice A0 (qL s).length p0))
    clear hX0 hR0 hZ0 hB0 hF0 hY0 hT0 hS0 hb0 hf0 
    obtain ⟨y0, hy0⟩ : ∃ y, y = v0.setCell ⟨g, 8, none⟩ (.slice A0 (qL s).length p0) := ⟨_, rfl⟩
    rw [← hy0] at HZ HB HX HR HS0
    have HY0 := Lib.hid hy0
    clear hy0
    go_upto_region 6 with (fail)
    rw [← HY0.out]
    clear HY0 c0 z0
    go_wp2_with fail
    refine (takeR_any s (qP s) 1 hs h12 (by omega) (pos_m1 (qP_pos s)) (qP_le h12) _ (HL.out.below H0.out HB.out)).mono ?_
    rintro e v1 ⟨A1, p1, rfl, hS1, hb1, hf1⟩
    rw [show outL (rsT s (g16 s (4 + 2 * 1)) (qP s)) = anL s from rfl] at hS1 ⊢
    rw [show outP (rsT s (g16 s (4 + 2 * 1)) (qP s)) = anP s from rfl]
    have hX1 := (hb1.block _ (heap_lt HX.out)).trans HX.out
    have hR1 := (hb1.block _ (heap_lt HR.out)).trans HR.out
    have hZ1 := Nat.le_trans HZ.out hb1.size
    have hB1 := HB.out.trans (hb1.mono HB.out.size)
    have hF1 : SlF rf (g + 1) v1 A1 p1 (anL s) := ⟨hS1, fun a ha => Nat.le_trans HZ.out (hf1 a ha)⟩
    have hG10 := HS0.out.call hb1
    have c1 : v1.cell? ⟨g, 9, none⟩ = some (.slice none 0 0) := blk_cell hX1 9
    have z1 := blk_frozen hX1 9
    have hY1 := blk_set hX1 9 (.slice A1 (anL s).length p1)
    have hT1 : (v1.setCell ⟨g, 9, none⟩ (.slice A1 (anL s).length p1)).heap[w.heap.size]? = some (.cells (msV zMs zAd) 26 (0, 0)) := (Below.heap_setCell _ _ _ _ (by have := HRg.out; simp only; omega)).trans hR1
    have HZ := Lib.hid (show g + 1 ≤ (v1.setCell ⟨g, 9, none⟩ (.slice A1 (anL s).length p1)).heap.size by simpa [World.setCell] using hZ1)
    have HB := Lib.hid (hB1.setCell (p := ⟨g, 9, none⟩) (show w.heap.size ≤ g by have := HRg.out; omega) (.slice A1 (anL s).length p1))
    have HX := Lib.hid (show (v1.setCell ⟨g, 9, none⟩ (.slice A1 (anL s).length p1)).heap[g]? = some (.cells (msV { hdT s with q := qL s, an := anL s } ⟨A0, p0, A1, p1, none, 0, none, 0⟩) 26 (0, 0)) from hY1)
    have HR := Lib.hid hT1
    have HS1 := Lib.hid (hF1.set (g := g) (i := 9) (by omega) (.slice A1 (anL s).length p1))
    have HS0 := Lib.hid (hG10.set (g := g) (i := 9) (by omega) (.slice A1 (anL s).length p1))
    clear hX1 hR1 hZ1 hB1 hF1 hY1 hT1 hS1 hb1 hf1 hG10
    obtain ⟨y1, hy1⟩ : ∃ y, y = v1.setCell ⟨g, 9, none⟩ (.slice A1 (anL s).length p1) := ⟨_, rfl⟩
    rw [← hy1] at HZ HB HX HR HS0 HS1
    have HY1 := Lib.hid hy1
    clear hy1
    go_upto_region 7 with (fail)
    rw [← HY1.out]
    clear HY1 c1 z1
    go_wp2_with fail
    refine (takeR_any s (anP s) 2 hs h12 (by omega) (pos_m1 (anP_pos s)) (outP_le (qP_le h12)) _ (HL.out.below H0.out HB.out)).mono ?_
    rintro e v2 ⟨A2, p2, rfl, hS2, hb2, hf2⟩
    rw [show outL (rsT s (g16 s (4 + 2 * 2)) (anP s)) = nsL s from rfl] at hS2 ⊢
    rw [show outP (rsT s (g16 s (4 + 2 * 2)) (anP s)) = nsP s from rfl]
    have hX2 := (hb2.block _ (heap_lt HX.out)).trans HX.out
    have hR2 := (hb2.block _ (heap_lt HR.out)).trans HR.out
    have hZ2 := Nat.le_trans HZ.out hb2.size
    have hB2 := HB.out.trans (hb2.mono HB.out.size)
    have hF2 : SlF rf (g + 1) v2 A2 p2 (nsL s) := ⟨hS2, fun a ha => Nat.le_trans HZ.out (hf2 a ha)⟩
    have hG20 := HS0.out.call hb2
    have hG21 := HS1.out.call hb2
    have c2 : v2.cell? ⟨g, 10, none⟩ = some (.slice none 0 0) := blk_cell hX2 10
    have z2 := blk_frozen hX2 10
    have hY2 := blk_set hX2 10 (.slice A2 (nsL s).length p2)
    have hT2 : (v2.setCell ⟨g, 10, none⟩ (.slice A2 (nsL s).length p2)).heap[w.heap.size]? = some (.cells (msV zMs zAd) 26 (0, 0)) := (Below.heap_setCell _ _ _ _ (by have := HRg.out; simp only; omega)).trans hR2
    have HZ := Lib.hid (show g + 1 ≤ (v2.setCell ⟨g, 10, none⟩ (.slice A2 (nsL s).length p2)).heap.size by simpa [World.setCell] using hZ2)
    have HB := Lib.hid (hB2.setCell (p := ⟨g, 10, none⟩) (show w.heap.size ≤ g by have := HRg.out; omega) (.slice A2 (nsL s).length p2))
    have HX := Lib.hid (show (v2.setCell ⟨g, 10, none⟩ (.slice A2 (nsL s).length p2)).heap[g]? = some (.cells (msV { hdT s with q := qL s, an := anL s, ns := nsL s } ⟨A0, p0, A1, p1, A2, p2, none, 0⟩) 26 (0, 0)) from hY2)
    have HR := Lib.hid hT2
    have HS2 := Lib.hid (hF2.set (g := g) (i := 10) (by omega) (.slice A2 (nsL s).length p2))
    have HS0 := Lib.hid (hG20.set (g := g) (i := 10) (by omega) (.slice A2 (nsL s).length p2))
    have HS1 := Lib.hid (hG21.set (g := g) (i := 10) (by omega) (.slice A2 (nsL s).length p2))
    clear hX2 hR2 hZ2 hB2 hF2 hY2 hT2 hS2 hb2 hf2 hG20 hG21
    obtain ⟨y2, hy2⟩ : ∃ y, y = v2.setCell ⟨g, 10, none⟩ (.slice A2 (nsL s).length p2) := ⟨_, rfl⟩
    rw [← hy2] at HZ HB HX HR HS0 HS1 HS2
    have HY2 := Lib.hid hy2
    clear hy2
    go_upto_region 8 with (fail)
    rw [← HY2.out]
    clear HY2 c2 z2
    go_wp2_with fail
    refine (takeR_any s (nsP s) 3 hs h12 (by omega) (pos_m1 (nsP_pos s)) (outP_le (outP_le (qP_le h12))) _ (HL.out.below H0.out HB.out)).mono ?_
    rintro e v3 ⟨A3, p3, rfl, hS3, hb3, hf3⟩
    rw [show outL (rsT s (g16 s (4 + 2 * 3)) (nsP s)) = arL s from rfl] at hS3 ⊢
    rw [show outP (rsT s (g16 s (4 + 2 * 3)) (nsP s)) = arP s from rfl]
    have hX3 := (hb3.block _ (heap_lt HX.out)).trans HX.out
    have hR3 := (hb3.block _ (heap_lt HR.out)).trans HR.out
    have hZ3 := Nat.le_trans HZ.out hb3.size
    have hB3 := HB.out.trans (hb3.mono HB.out.size)
    have hF3 : SlF rf (g + 1) v3 A3 p3 (arL s) := ⟨hS3, fun a ha => Nat.le_trans HZ.out (hf3 a ha)⟩
    have hG30 := HS0.out.call hb3
    have hG31 := HS1.out.call hb3
    have hG32 := HS2.out.call hb3
    have c3 : v3.cell? ⟨g, 11, none⟩ = some (.slice none 0 0) := blk_cell hX3 11
    have z3 := blk_frozen hX3 11
    have hY3 := blk_set hX3 11 (.slice A3 (arL s).length p3)
    have hT3 : (v3.setCell ⟨g, 11, none⟩ (.slice A3 (arL s).length p3)).heap[w.heap.size]? = some (.cells (msV zMs zAd) 26 (0, 0)) := (Below.heap_setCell _ _ _ _ (by have := HRg.out; simp only; omega)).trans hR3
    have HZ := Lib.hid (show g + 1 ≤ (v3.setCell ⟨g, 11, none⟩ (.slice A3 (arL s).length p3)).heap.size by simpa [World.setCell] using hZ3)
    have HB := Lib.hid (hB3.setCell (p := ⟨g, 11, none⟩) (show w.heap.size ≤ g by have := HRg.out; omega) (.slice A3 (arL s).length p3))
    have HX := Lib.hid (show (v3.setCell ⟨g, 11, none⟩ (.slice A3 (arL s).length p3)).heap[g]? = some (.cells (msV (msT s) ⟨A0, p0, A1, p1, A2, p2, A3, p3⟩) 26 (0, 0)) from hY3)
    have HR := Lib.hid hT3
    have HS3 := Lib.hid (hF3.set (g := g) (i := 11) (by omega) (.slice A3 (arL s).length p3))
    have HS0 := Lib.hid (hG30.set (g := g) (i := 11) (by omega) (.slice A3 (arL s).length p3))
    have HS1 := Lib.hid (hG31.set (g := g) (i := 11) (by omega) (.slice A3 (arL s).length p3))
    have HS2 := Lib.hid (hG32.set (g := g) (i := 11) (by omega) (.slice A3 (arL s).length p3))
    clear hX3 hR3 hZ3 hB3 hF3 hY3 hT3 hS3 hb3 hf3 hG30 hG31 hG32
    obtain ⟨y3, hy3⟩ : ∃ y, y = v3.setCell ⟨g, 11, none⟩ (.slice A3 (arL s).length p3) := ⟨_, rfl⟩
    rw [← hy3] at HZ HB HX HR HS0 HS1 HS2 HS3
    have HY3 := Lib.hid hy3
    clear hy3
    go_upto_region 9 with (fail)
    rw [← HY3.out]
    clear HY3 c3 z3
    by_cases hst : arP s = s.size
    · have d1 : (arP s != (s.size : Int)) = false := by rw [hst]; simp
      have HE := Lib.hid (show tmM s = msT s ∧ tmE s = 0 by
        have : okT s = true := okT_iff.2 ⟨h12, hst⟩
        unfold tmM tmE
        rw [this]
        exact ⟨rfl, rfl⟩)
      clear hst
      go_wp2_with (first | (refine wpList_load_row rfl 26 _ rfl g rfl 26 _ _ _ HX.out Tryz.underlying26 rfl (infoM' _ _) ?_) | (refine wpList_store_row rfl 26 _ _ rfl w.heap.size (msV (msT s) ⟨A0, p0, A1, p1, A2, p2, A3, p3⟩) rfl rfl 26 _ HR.out infoM rfl (msV_all _ _) ?_))
      refine ret_m2 (g := w.heap.size) rfl rfl rfl rfl (setRow_heap _ _ _ _ _ _ HR.out) rfl ?_
      rw [HE.out.1, HE.out.2]
      have hlt := HRg.out
      exact ⟨⟨A0, p0, A1, p1, A2, p2, A3, p3⟩, rfl, ⟨(HS0.out.row (by omega) _).sl, (HS1.out.row (by omega) _).sl, (HS2.out.row (by omega) _).sl, (HS3.out.row (by omega) _).sl⟩, setRow_below HB.out (Nat.le_refl _) _⟩
    · have d1 : (arP s != (s.size : Int)) = true := by simpa using hst
      have HE := Lib.hid (show tmM s = zMs ∧ tmE s = 2 by
        have : okT s = false := by cases hk : okT s with
          | false => rfl
          | true => exact absurd (okT_iff.1 hk).2 hst
        unfold tmM tmE
        rw [this]
        exact ⟨rfl, rfl⟩)
      clear hst
      go_wp2_with (refine wpList_store_row rfl 26 _ _ rfl w.heap.size (msV zMs zAd) rfl rfl 26 _ HR.out infoM rfl (msV_all _ _) ?_)
      refine ret_m2 (g := w.heap.size) rfl rfl rfl rfl (setRow_heap _ _ _ _ _ _ HR.out) rfl ?_
      rw [HE.out.1, HE.out.2]
      exact ⟨zAd, rfl, zMg _, setRow_below HB.out (Nat.le_refl _) _⟩
  · obtain ⟨e1, e2⟩ : hmT s = zMs ∧ hmE s = 2 := ⟨if_neg h12, if_neg h12⟩
    have HE := Lib.hid (show tmM s = zMs ∧ tmE s = 2 by
      have : okT s = false := by cases hk : okT s with
        | false => rfl
        | true => exact absurd (okT_iff.1 hk).1 h12
      unfold tmM tmE
      rw [this]
      exact ⟨rfl, rfl⟩)
    rw [e2]
    clear e1 e2
    go_wp2_with (refine wpList_store_row rfl 26 _ _ rfl w.heap.size (msV zMs zAd) rfl rfl 26 _ HR3.out infoM rfl (msV_all _ _) ?_)
    refine ret_m2 (g := w.heap.size) rfl rfl rfl rfl (setRow_heap _ _ _ _ _ _ HR3.out) rfl ?_
    rw [HE.out.1, HE.out.2]
    exact ⟨zAd, rfl, zMg _, setRow_below HB3.out (Nat.le_refl _) _⟩
end Go.Proofs.YtnakljbginbenaaGreatDoor
