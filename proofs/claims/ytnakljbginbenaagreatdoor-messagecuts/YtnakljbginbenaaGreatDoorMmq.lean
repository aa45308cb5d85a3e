/- The contract of message.Cut. -/
import Derived.Test.YtnakljbginbenaaGreatDoorMmj
import Derived.Test.YtnakljbginbenaaGreatDoorMml
namespace Go.Proofs.YtnakljbginbenaaGreatDoor
open Go.RowKit
set_option linter.unusedVariables false

/-- What Cut answers. -/
def CutIs (m : Ms) (most : Int) (M : Ms) (E : Int) : Prop :=
  (mayM m = false ∧ M = zMs ∧ E = 1) ∨ (mayM m = true ∧ min most 65535 < ((bgM m).1.length : Int) ∧ M = zMs ∧ E = 3) ∨
  (mayM m = true ∧ ((bgM m).1.length : Int) ≤ min most 65535 ∧ E = 0 ∧ ∃ j, FitsAt (bgM m) m.recs (min most 65535) j ∧ M = lessM m j (m.tc || decide (j < m.recs.length)))
theorem fits_one {X : List UInt8 × Kn} {l : List Rc} {mo : Int} {j k : Nat} (h : FitsAt X l mo j) (h' : FitsAt X l mo k) : j = k := by
  rcases Nat.lt_trichotomy j k with hlt | he | hlt
  · have h1 := h'.2.1 j hlt
    have h2 := h.2.2 (by have := h'.1; omega)
    omega
  · exact he
  · have h1 := h.2.1 k hlt
    have h2 := h'.2.2 (by have := h.1; omega)
    omega
theorem lessM_an (m : Ms) (j : Nat) (t : Bool) : msV (lessM m j t) = fun d => #[.int .u16 (m.id : Nat), .bool m.qr, .bool m.aa, .bool t, .bool m.rd, .bool m.ra, .int .i64 m.op, .int .i64 m.rc, .slice d.aq m.q.length d.cq, .slice d.a1 (m.an.take j).length d.c1, .slice d.a2 (m.ns.take (j - m.an.length)).length d.c2, .slice d.a3 (m.ar.take (j - m.an.length - m.ns.length)).length d.c3] := rfl

set_option maxRecDepth 100000 in
set_option maxHeartbeats 8000000 in
theorem cut_any (m : Ms) (d : Ad) (most : Int) (hok : m.Ok) (hs : SmM m) (w : World) (hI : Mg w m d) (hL : Lay w) :
    Calls Tryz.prog 19 #[.agg (msV m d), .int .i64 most] w fun e w' => ∃ N E d', e = .returned (.tuple #[.agg (msV N d'), .int .i64 E]) ∧ CutIs m most N E ∧ Mg w' N d' ∧ Below w.heap.size w w' := by
  have hb1 := (Below.refl w.heap.size w).alloc (Nat.le_refl _) (Obj.cells (msV m d) 26)
  have hx1 := World.alloc_heap_new w (Obj.cells (msV m d) 26)
  have hb2 := hb1.alloc hb1.size (Obj.cells (msV zMs zAd) 26)
  have hx2 := heap_alloc2_new w (Obj.cells (msV m d) 26) (Obj.cells (msV zMs zAd) 26)
  have hx3 := (heapOld (Obj.cells (msV zMs zAd) 26) (heap_lt hx1)).trans hx1
  have hsz : ((w.alloc (Obj.cells (msV m d) 26)).alloc (Obj.cells (msV zMs zAd) 26)).heap.size = w.heap.size + 2 := by simp
  obtain ⟨w2, hw2⟩ : ∃ w2, w2 = (w.alloc (Obj.cells (msV m d) 26)).alloc (Obj.cells (msV zMs zAd) 26) := ⟨_, rfl⟩
  rw [← hw2] at hb2 hx2 hx3 hsz
  have HW := Lib.hid hw2
  have HX := Lib.hid hx3
  have HR := Lib.hid hx2
  have HB := Lib.hid hb2
  have HZ := Lib.hid (Nat.le_of_eq hsz.symm)
  have HI := Lib.hid hI
  have HL := Lib.hid hL
  have H0 := Lib.hid (lay_lt hL)
  have HOk := Lib.hid hok
  have HSm := Lib.hid hs
  obtain ⟨mo, hmo⟩ : ∃ mo, mo = min most 65535 := ⟨_, rfl⟩
  have hmo1 : min most 65535 = mo := hmo.symm
  have hmo2 : mo ≤ 65535 := by omega
  have HMo := Lib.hid hmo
  clear hb1 hx1 hb2 hx2 hx3 hsz hw2 hI hL hok hs hmo
  go_enter Tryz.func19, Tryz.ntmps19
  go_upto_region 1 with (fail)
  rw [show Obj.cells #[Value.int IntKind.u16 0, .bool false, .bool false, .bool false, .bool false, .bool false, .int .i64 0, .int .i64 0, .slice none 0 0, .slice none 0 0, .slice none 0 0, .slice none 0 0] 26 = Obj.cells (msV zMs zAd) 26 from rfl, ← HW.out]
  clear HW
  go_wp2_with (refine wpList_load_row rfl 26 _ rfl w.heap.size rfl 26 _ _ _ HX.out Tryz.underlying26 rfl (infoM' m d) ?_)
  refine (maym_any m d HSm.out _ (HI.out.below HB.out) (HL.out.below H0.out HB.out)).mono ?_
  rintro e w3 ⟨rfl, hb3⟩
  have HX3 := Lib.hid ((hb3.block _ (heap_lt HX.out)).trans HX.out)
  have HR3 := Lib.hid ((hb3.block _ (heap_lt HR.out)).trans HR.out)
  have HB3 := Lib.hid (HB.out.trans (hb3.mono HB.out.size))
  have HZ3 := Lib.hid (Nat.le_trans HZ.out hb3.size)
  clear hb3 HX HR HB HZ
  cases hmm : mayM m with
  | false =>
    have HC := Lib.hid (show CutIs m most zMs 1 from .inl ⟨hmm, rfl, rfl⟩)
    clear hmm
    go_wp2_with (refine wpList_store_row rfl 26 _ _ rfl (w.heap.size + 1) (msV zMs zAd) rfl rfl 26 (msV zMs zAd) HR3.out infoM rfl (msV_all _ _) ?_)
    refine ret_m2 (g := w.heap.size + 1) rfl rfl rfl rfl (setRow_heap _ _ _ _ _ _ HR3.out) rfl ?_
    exact ⟨zMs, 1, zAd, rfl, HC.out, zMg _, setRow_below HB3.out (Nat.le_succ _) _⟩
  | true =>
    have HM := Lib.hid (mayM_iff.1 hmm)
    have HMB := Lib.hid hmm
    clear hmm
    go_wp2_with (refine wpList_load_row rfl 26 _ rfl w.heap.size rfl 26 _ _ _ HX3.out Tryz.underlying26 rfl (infoM' m d) ?_)
    refine (begin_any m d HM.out HOk.out HSm.out _ (HI.out.below HB3.out) (HL.out.below H0.out HB3.out)).mono ?_
    rintro e w4 ⟨rfl, hs4, hb4⟩
    have hZ4 : w3.heap.size + 1 ≤ w4.heap.size := by have := hs4.is.lt; omega
    have HS4 := Lib.hid hs4
    have HX4 := Lib.hid ((hb4.block _ (heap_lt HX3.out)).trans HX3.out)
    have HR4 := Lib.hid ((hb4.block _ (heap_lt HR3.out)).trans HR3.out)
    have HB4 := Lib.hid (HB3.out.trans (hb4.mono HB3.out.size))
    have HZ4 := Lib.hid hZ4
    have HlX := Lib.hid (heap_lt HX3.out)
    have HlR := Lib.hid (heap_lt HR3.out)
    clear hs4 hb4 hZ4 HX3 HR3
    go_wp2_with fail
    refine (len_any _ _ _ _ _ HS4.out.is).mono ?_
    rintro e w5 ⟨rfl, rfl⟩
    by_cases hbg : mo < ((bgM m).1.length : Int)
    · have d1 : decide (((bgM m).1.length : Int) > mo) = true := by simpa using hbg
      have HC := Lib.hid (show CutIs m most zMs 3 from .inr (.inl ⟨HMB.out, by rw [hmo1]; exact hbg, rfl, rfl⟩))
      clear hbg
      go_wp2_with (refine wpList_store_row rfl 26 _ _ rfl (w.heap.size + 1) (msV zMs zAd) rfl rfl 26 (msV zMs zAd) HR4.out infoM rfl (msV_all _ _) ?_)
      refine ret_m2 (g := w.heap.size + 1) rfl rfl rfl rfl (setRow_heap _ _ _ _ _ _ HR4.out) rfl ?_
      exact ⟨zMs, 3, zAd, rfl, HC.out, zMg _, setRow_below HB4.out (Nat.le_succ _) _⟩
    · have d1 : decide (((bgM m).1.length : Int) > mo) = false := by simpa using hbg
      have HBg := Lib.hid (show ((bgM m).1.length : Int) ≤ min most 65535 by rw [hmo1]; omega)
      clear hbg
      go_wp2_with (refine wpList_load_row rfl 26 _ rfl w.heap.size rfl 26 _ _ _ HX4.out Tryz.underlying26 rfl (infoM' m d) ?_)
      refine (records_any m d HSm.out _ (HI.out.below HB4.out)).mono ?_
      rintro e w5 ⟨A', cap', rfl, hT5, hb5⟩
      have HS5 := Lib.hid (HS4.out.below hb5)
      have HX5 := Lib.hid ((hb5.block _ (heap_lt HX4.out)).trans HX4.out)
      have HR5 := Lib.hid ((hb5.block _ (heap_lt HR4.out)).trans HR4.out)
      have HB5 := Lib.hid (HB4.out.trans (hb5.mono HB4.out.size))
      have HZ5 := Lib.hid (Nat.le_trans HZ4.out hb5.size)
      have HT5 := Lib.hid hT5
      have hbl := bgM_len HM.out
      have hql := HSm.out.q.len
      have HBl := Lib.hid (show (bgM m).1.length ≤ 2000000 by omega)
      clear hT5 hb5 hbl hql HX4 HR4 HB4 HS4
      go_wp2_with fail
      refine (adds_any _ _ (bgM m) mo _ _ m.recs HSm.out.recs.1 HSm.out.recs.2 HM.out.recs HBl.out hmo2 _ HT5.out HS5.out (HL.out.below H0.out HB5.out) (by omega) HZ5.out).mono ?_
      rintro e w6 ⟨j, rfl, hF, _, hb6, _⟩
      have hlX := HlX.out
      have hlR := HlR.out
      have hX6 := (hb6.block _ (show w.heap.size < w3.heap.size + 1 by omega)).trans HX5.out
      have hR6 := (hb6.block _ (show w.heap.size + 1 < w3.heap.size + 1 by omega)).trans HR5.out
      have hB6 := HB5.out.trans (hb6.mono (show w.heap.size ≤ w3.heap.size + 1 by omega))
      have hZ6 : w.heap.size + 2 ≤ w6.heap.size := by have := heap_lt hR6; omega
      have hj : j ≤ 18000 := Nat.le_trans hF.1 HSm.out.recs.1
      obtain ⟨D, hD⟩ : ∃ D, D = decide (j < m.recs.length) := ⟨_, rfl⟩
      have dj : decide (j < m.recs.length) = D := hD.symm
      have dj2 : decide ((j : Int) < (m.recs.length : Int)) = D := by rw [hD]; simp
      have HC := Lib.hid (show CutIs m most (lessM m j (m.tc || D)) 0 from .inr (.inr ⟨HMB.out, HBg.out, rfl, j, by rw [hmo1]; exact hF, by rw [hD]⟩))
      have c3 : w6.cell? ⟨w.heap.size, 3, none⟩ = some (.bool m.tc) := blk_cell hX6 3
      have z3 := blk_frozen hX6 3
      have hY := blk_set hX6 3 (.bool (m.tc || D))
      have HX := Lib.hid (show (w6.setCell ⟨w.heap.size, 3, none⟩ (.bool (m.tc || D))).heap[w.heap.size]? = some (.cells (msV { m with tc := m.tc || D } d) 26 (0, 0)) from hY)
      have HR := Lib.hid ((Below.heap_setCell w6 ⟨w.heap.size, 3, none⟩ (.bool (m.tc || D)) (w.heap.size + 1) (by simp only; omega)).trans hR6)
      have HB := Lib.hid (hB6.setCell (p := ⟨w.heap.size, 3, none⟩) (Nat.le_refl _) (.bool (m.tc || D)))
      have HZ := Lib.hid (show w.heap.size + 2 ≤ (w6.setCell ⟨w.heap.size, 3, none⟩ (.bool (m.tc || D))).heap.size by simpa [World.setCell] using hZ6)
      obtain ⟨y0, hy0⟩ : ∃ y, y = w6.setCell ⟨w.heap.size, 3, none⟩ (.bool (m.tc || D)) := ⟨_, rfl⟩
      rw [← hy0] at HX HR HB HZ
      have HY0 := Lib.hid hy0
      clear hy0 hF hb6 hlX hlR hX6 hR6 hB6 hZ6 hD hY HX5 HR5 HB5 HS5 HT5 HZ5 HlX HlR HZ3 HZ4 HB3
      have hql := HSm.out.q.len
      have hl1 := HSm.out.an.len
      have hl2 := HSm.out.ns.len
      have hl3 := HSm.out.ar.len
      cases htc : m.tc with
      | true =>
        rw [htc] at c3 HX HC HY0
        rw [Bool.true_or] at HX HC HY0
        clear htc
        go_upto_region 10 with (fail)
        rw [← HY0.out]
        clear HY0 c3 z3
        have c8 : y0.cell? ⟨w.heap.size, 8, none⟩ = some (.slice d.aq m.q.length d.cq) := blk_cell HX.out 8
        go_wp2_with fail
        refine (cloneQ_any d.aq d.cq m.q (by omega) _ (HI.out.q.below' HB.out)).mono ?_
        rintro e v0 ⟨A0, p0, rfl, hS0, hb0, hf0⟩
        have hX0 := (hb0.block _ (heap_lt HX.out)).trans HX.out
        have hR0 := (hb0.block _ (heap_lt HR.out)).trans HR.out
        have hZ0 := Nat.le_trans HZ.out hb0.size
        have hB0 := HB.out.trans (hb0.mono HB.out.size)
        have hF0 : SlF qf (w.heap.size + 2) v0 A0 p0 m.q := ⟨hS0, fun a ha => Nat.le_trans HZ.out (hf0 a ha)⟩
        clear c8
        have c8 : v0.cell? ⟨w.heap.size, 8, none⟩ = some (.slice d.aq m.q.length d.cq) := blk_cell hX0 8
        have z0 := blk_frozen hX0 8
        have hY0 := blk_set hX0 8 (.slice A0 m.q.length p0)
        have HX := Lib.hid (show (v0.setCell ⟨w.heap.size, 8, none⟩ (.slice A0 m.q.length p0)).heap[w.heap.size]? = some (.cells (msV { m with tc := true } ⟨A0, p0, d.a1, d.c1, d.a2, d.c2, d.a3, d.c3⟩) 26 (0, 0)) from hY0)
        have HR := Lib.hid ((Below.heap_setCell v0 ⟨w.heap.size, 8, none⟩ (.slice A0 m.q.length p0) (w.heap.size + 1) (by simp only; omega)).trans hR0)
        have HB := Lib.hid (hB0.setCell (p := ⟨w.heap.size, 8, none⟩) (Nat.le_refl _) (.slice A0 m.q.length p0))
        have HZ := Lib.hid (show w.heap.size + 2 ≤ (v0.setCell ⟨w.heap.size, 8, none⟩ (.slice A0 m.q.length p0)).heap.size by simpa [World.setCell] using hZ0)
        have HS0 := Lib.hid (hF0.set (g := w.heap.size) (i := 8) (by omega) (.slice A0 m.q.length p0))
        obtain ⟨y1, hy1⟩ : ∃ y, y = v0.setCell ⟨w.heap.size, 8, none⟩ (.slice A0 m.q.length p0) := ⟨_, rfl⟩
        rw [← hy1] at HX HR HB HZ HS0
        have HY1 := Lib.hid hy1
        clear hy1 hX0 hR0 hZ0 hB0 hF0 hY0 hS0 hb0 hf0 
        go_upto_region 11 with (fail)
        rw [← HY1.out]
        clear HY1 c8 z0
        have c9 : y1.cell? ⟨w.heap.size, 9, none⟩ = some (.slice d.a1 m.an.length d.c1) := blk_cell HX.out 9
        go_wp2_with fail
        refine (first_any d.a1 d.c1 m.an j (by omega) (by omega) _ (HI.out.an.below' HB.out)).mono ?_
        rintro e v1 ⟨A1, p1, rfl, hS1, hb1, hf1⟩
        obtain ⟨l1, hl1q⟩ : ∃ x, x = (m.an.take j) := ⟨_, rfl⟩
        obtain ⟨j2, hj1q⟩ : ∃ x, x = (j - m.an.length) := ⟨_, rfl⟩
        rw [← hl1q] at hS1
        rw [← hl1q, ← hj1q]
        have hjb1 : j2 ≤ 18000 := by omega
        have HLs1 := Lib.hid (And.intro hl1q hj1q)
        clear hl1q hj1q
        have hX1 := (hb1.block _ (heap_lt HX.out)).trans HX.out
        have hR1 := (hb1.block _ (heap_lt HR.out)).trans HR.out
        have hZ1 := Nat.le_trans HZ.out hb1.size
        have hB1 := HB.out.trans (hb1.mono HB.out.size)
        have hF1 : SlF rf (w.heap.size + 2) v1 A1 p1 l1 := ⟨hS1, fun a ha => Nat.le_trans HZ.out (hf1 a ha)⟩
        have hG10 := HS0.out.call hb1
        clear c9
        have c9 : v1.cell? ⟨w.heap.size, 9, none⟩ = some (.slice d.a1 m.an.length d.c1) := blk_cell hX1 9
        have z1 := blk_frozen hX1 9
        have hY1 := blk_set hX1 9 (.slice A1 l1.length p1)
        have HX := Lib.hid (show (v1.setCell ⟨w.heap.size, 9, none⟩ (.slice A1 l1.length p1)).heap[w.heap.size]? = some (.cells (msV { m with tc := true, an := l1 } ⟨A0, p0, A1, p1, d.a2, d.c2, d.a3, d.c3⟩) 26 (0, 0)) from hY1)
        have HR := Lib.hid ((Below.heap_setCell v1 ⟨w.heap.size, 9, none⟩ (.slice A1 l1.length p1) (w.heap.size + 1) (by simp only; omega)).trans hR1)
        have HB := Lib.hid (hB1.setCell (p := ⟨w.heap.size, 9, none⟩) (Nat.le_refl _) (.slice A1 l1.length p1))
        have HZ := Lib.hid (show w.heap.size + 2 ≤ (v1.setCell ⟨w.heap.size, 9, none⟩ (.slice A1 l1.length p1)).heap.size by simpa [World.setCell] using hZ1)
        have HS1 := Lib.hid (hF1.set (g := w.heap.size) (i := 9) (by omega) (.slice A1 l1.length p1))
        have HS0 := Lib.hid (hG10.set (g := w.heap.size) (i := 9) (by omega) (.slice A1 l1.length p1))
        obtain ⟨y2, hy2⟩ : ∃ y, y = v1.setCell ⟨w.heap.size, 9, none⟩ (.slice A1 l1.length p1) := ⟨_, rfl⟩
        rw [← hy2] at HX HR HB HZ HS0 HS1
        have HY2 := Lib.hid hy2
        clear hy2 hX1 hR1 hZ1 hB1 hF1 hY1 hS1 hb1 hf1 hG10
        go_upto_region 12 with (fail)
        rw [← HY2.out]
        clear HY2 c9 z1
        have c10 : y2.cell? ⟨w.heap.size, 10, none⟩ = some (.slice d.a2 m.ns.length d.c2) := blk_cell HX.out 10
        go_wp2_with fail
        refine (first_any d.a2 d.c2 m.ns j2 (by omega) (by omega) _ (HI.out.ns.below' HB.out)).mono ?_
        rintro e v2 ⟨A2, p2, rfl, hS2, hb2, hf2⟩
        obtain ⟨l2, hl2q⟩ : ∃ x, x = (m.ns.take j2) := ⟨_, rfl⟩
        obtain ⟨j3, hj2q⟩ : ∃ x, x = (j2 - m.ns.length) := ⟨_, rfl⟩
        rw [← hl2q] at hS2
        rw [← hl2q, ← hj2q]
        have hjb2 : j3 ≤ 18000 := by omega
        have HLs2 := Lib.hid (And.intro hl2q hj2q)
        clear hl2q hj2q
        have hX2 := (hb2.block _ (heap_lt HX.out)).trans HX.out
        have hR2 := (hb2.block _ (heap_lt HR.out)).trans HR.out
        have hZ2 := Nat.le_trans HZ.out hb2.size
        have hB2 := HB.out.trans (hb2.mono HB.out.size)
        have hF2 : SlF rf (w.heap.size + 2) v2 A2 p2 l2 := ⟨hS2, fun a ha => Nat.le_trans HZ.out (hf2 a ha)⟩
        have hG20 := HS0.out.call hb2
        have hG21 := HS1.out.call hb2
        clear c10
        have c10 : v2.cell? ⟨w.heap.size, 10, none⟩ = some (.slice d.a2 m.ns.length d.c2) := blk_cell hX2 10
        have z2 := blk_frozen hX2 10
        have hY2 := blk_set hX2 10 (.slice A2 l2.length p2)
        have HX := Lib.hid (show (v2.setCell ⟨w.heap.size, 10, none⟩ (.slice A2 l2.length p2)).heap[w.heap.size]? = some (.cells (msV { m with tc := true, an := l1, ns := l2 } ⟨A0, p0, A1, p1, A2, p2, d.a3, d.c3⟩) 26 (0, 0)) from hY2)
        have HR := Lib.hid ((Below.heap_setCell v2 ⟨w.heap.size, 10, none⟩ (.slice A2 l2.length p2) (w.heap.size + 1) (by simp only; omega)).trans hR2)
        have HB := Lib.hid (hB2.setCell (p := ⟨w.heap.size, 10, none⟩) (Nat.le_refl _) (.slice A2 l2.length p2))
        have HZ := Lib.hid (show w.heap.size + 2 ≤ (v2.setCell ⟨w.heap.size, 10, none⟩ (.slice A2 l2.length p2)).heap.size by simpa [World.setCell] using hZ2)
        have HS2 := Lib.hid (hF2.set (g := w.heap.size) (i := 10) (by omega) (.slice A2 l2.length p2))
        have HS0 := Lib.hid (hG20.set (g := w.heap.size) (i := 10) (by omega) (.slice A2 l2.length p2))
        have HS1 := Lib.hid (hG21.set (g := w.heap.size) (i := 10) (by omega) (.slice A2 l2.length p2))
        obtain ⟨y3, hy3⟩ : ∃ y, y = v2.setCell ⟨w.heap.size, 10, none⟩ (.slice A2 l2.length p2) := ⟨_, rfl⟩
        rw [← hy3] at HX HR HB HZ HS0 HS1 HS2
        have HY3 := Lib.hid hy3
        clear hy3 hX2 hR2 hZ2 hB2 hF2 hY2 hS2 hb2 hf2 hG20 hG21
        go_upto_region 13 with (fail)
        rw [← HY3.out]
        clear HY3 c10 z2
        have c11 : y3.cell? ⟨w.heap.size, 11, none⟩ = some (.slice d.a3 m.ar.length d.c3) := blk_cell HX.out 11
        go_wp2_with fail
        refine (first_any d.a3 d.c3 m.ar j3 (by omega) (by omega) _ (HI.out.ar.below' HB.out)).mono ?_
        rintro e v3 ⟨A3, p3, rfl, hS3, hb3, hf3⟩
        obtain ⟨l3, hl3q⟩ : ∃ x, x = (m.ar.take j3) := ⟨_, rfl⟩
        obtain ⟨j4, hj3q⟩ : ∃ x, x = (j3 - m.ar.length) := ⟨_, rfl⟩
        rw [← hl3q] at hS3
        rw [← hl3q, ← hj3q]
        have hjb3 : j4 ≤ 18000 := by omega
        have HLs3 := Lib.hid (And.intro hl3q hj3q)
        clear hl3q hj3q
        have hX3 := (hb3.block _ (heap_lt HX.out)).trans HX.out
        have hR3 := (hb3.block _ (heap_lt HR.out)).trans HR.out
        have hZ3 := Nat.le_trans HZ.out hb3.size
        have hB3 := HB.out.trans (hb3.mono HB.out.size)
        have hF3 : SlF rf (w.heap.size + 2) v3 A3 p3 l3 := ⟨hS3, fun a ha => Nat.le_trans HZ.out (hf3 a ha)⟩
        have hG30 := HS0.out.call hb3
        have hG31 := HS1.out.call hb3
        have hG32 := HS2.out.call hb3
        clear c11
        have c11 : v3.cell? ⟨w.heap.size, 11, none⟩ = some (.slice d.a3 m.ar.length d.c3) := blk_cell hX3 11
        have z3 := blk_frozen hX3 11
        have hY3 := blk_set hX3 11 (.slice A3 l3.length p3)
        have HX := Lib.hid (show (v3.setCell ⟨w.heap.size, 11, none⟩ (.slice A3 l3.length p3)).heap[w.heap.size]? = some (.cells (msV { m with tc := true, an := l1, ns := l2, ar := l3 } ⟨A0, p0, A1, p1, A2, p2, A3, p3⟩) 26 (0, 0)) from hY3)
        have HR := Lib.hid ((Below.heap_setCell v3 ⟨w.heap.size, 11, none⟩ (.slice A3 l3.length p3) (w.heap.size + 1) (by simp only; omega)).trans hR3)
        have HB := Lib.hid (hB3.setCell (p := ⟨w.heap.size, 11, none⟩) (Nat.le_refl _) (.slice A3 l3.length p3))
        have HZ := Lib.hid (show w.heap.size + 2 ≤ (v3.setCell ⟨w.heap.size, 11, none⟩ (.slice A3 l3.length p3)).heap.size by simpa [World.setCell] using hZ3)
        have HS3 := Lib.hid (hF3.set (g := w.heap.size) (i := 11) (by omega) (.slice A3 l3.length p3))
        have HS0 := Lib.hid (hG30.set (g := w.heap.size) (i := 11) (by omega) (.slice A3 l3.length p3))
        have HS1 := Lib.hid (hG31.set (g := w.heap.size) (i := 11) (by omega) (.slice A3 l3.length p3))
        have HS2 := Lib.hid (hG32.set (g := w.heap.size) (i := 11) (by omega) (.slice A3 l3.length p3))
        obtain ⟨y4, hy4⟩ : ∃ y, y = v3.setCell ⟨w.heap.size, 11, none⟩ (.slice A3 l3.length p3) := ⟨_, rfl⟩
        rw [← hy4] at HX HR HB HZ HS0 HS1 HS2 HS3
        have HY4 := Lib.hid hy4
        clear hy4 hX3 hR3 hZ3 hB3 hF3 hY3 hS3 hb3 hf3 hG30 hG31 hG32
        go_upto_region 14 with (fail)
        rw [← HY4.out]
        clear HY4 c11 z3
        go_wp2_with (first | (refine wpList_load_row rfl 26 _ rfl w.heap.size rfl 26 _ _ _ HX.out Tryz.underlying26 rfl (infoM' _ _) ?_) | (refine wpList_store_row rfl 26 _ _ rfl (w.heap.size + 1) (msV { m with tc := true, an := l1, ns := l2, ar := l3 } ⟨A0, p0, A1, p1, A2, p2, A3, p3⟩) rfl rfl 26 (msV zMs zAd) HR.out infoM rfl (msV_all _ _) ?_))
        refine ret_m2 (g := w.heap.size + 1) rfl rfl rfl rfl (setRow_heap _ _ _ _ _ _ HR.out) rfl ?_
        have hC := HC.out
        rw [show lessM m j true = { m with tc := true, an := l1, ns := l2, ar := l3 } by unfold lessM; rw [← HLs1.out.2, ← HLs2.out.2, ← HLs1.out.1, ← HLs2.out.1, ← HLs3.out.1]] at hC
        exact ⟨_, 0, ⟨A0, p0, A1, p1, A2, p2, A3, p3⟩, rfl, hC, ⟨(HS0.out.row (by omega) _).sl, (HS1.out.row (by omega) _).sl, (HS2.out.row (by omega) _).sl, (HS3.out.row (by omega) _).sl⟩, setRow_below HB.out (Nat.le_succ _) _⟩
      | false =>
        rw [htc] at c3 HX HC HY0
        rw [Bool.false_or] at HX HC HY0
        clear htc
        go_upto_region 10 with (fail)
        rw [← HY0.out]
        clear HY0 c3 z3
        have c8 : y0.cell? ⟨w.heap.size, 8, none⟩ = some (.slice d.aq m.q.length d.cq) := blk_cell HX.out 8
        go_wp2_with fail
        refine (cloneQ_any d.aq d.cq m.q (by omega) _ (HI.out.q.below' HB.out)).mono ?_
        rintro e v0 ⟨A0, p0, rfl, hS0, hb0, hf0⟩
        have hX0 := (hb0.block _ (heap_lt HX.out)).trans HX.out
        have hR0 := (hb0.block _ (heap_lt HR.out)).trans HR.out
        have hZ0 := Nat.le_trans HZ.out hb0.size
        have hB0 := HB.out.trans (hb0.mono HB.out.size)
        have hF0 : SlF qf (w.heap.size + 2) v0 A0 p0 m.q := ⟨hS0, fun a ha => Nat.le_trans HZ.out (hf0 a ha)⟩
        clear c8
        have c8 : v0.cell? ⟨w.heap.size, 8, none⟩ = some (.slice d.aq m.q.length d.cq) := blk_cell hX0 8
        have z0 := blk_frozen hX0 8
        have hY0 := blk_set hX0 8 (.slice A0 m.q.length p0)
        have HX := Lib.hid (show (v0.setCell ⟨w.heap.size, 8, none⟩ (.slice A0 m.q.length p0)).heap[w.heap.size]? = some (.cells (msV { m with tc := D } ⟨A0, p0, d.a1, d.c1, d.a2, d.c2, d.a3, d.c3⟩) 26 (0, 0)) from hY0)
        have HR := Lib.hid ((Below.heap_setCell v0 ⟨w.heap.size, 8, none⟩ (.slice A0 m.q.length p0) (w.heap.size + 1) (by simp only; omega)).trans hR0)
        have HB := Lib.hid (hB0.setCell (p := ⟨w.heap.size, 8, none⟩) (Nat.le_refl _) (.slice A0 m.q.length p0))
        have HZ := Lib.hid (show w.heap.size + 2 ≤ (v0.setCell ⟨w.heap.size, 8, none⟩ (.slice A0 m.q.length p0)).heap.size by simpa [World.setCell] using hZ0)
        have HS0 := Lib.hid (hF0.set (g := w.heap.size) (i := 8) (by omega) (.slice A0 m.q.length p0))
        obtain ⟨y1, hy1⟩ : ∃ y, y = v0.setCell ⟨w.heap.size, 8, none⟩ (.slice A0 m.q.length p0) := ⟨_, rfl⟩
        rw [← hy1] at HX HR HB HZ HS0
        have HY1 := Lib.hid hy1
        clear hy1 hX0 hR0 hZ0 hB0 hF0 hY0 hS0 hb0 hf0 
        go_upto_region 11 with (fail)
        rw [← HY1.out]
        clear HY1 c8 z0
        have c9 : y1.cell? ⟨w.heap.size, 9, none⟩ = some (.slice d.a1 m.an.length d.c1) := blk_cell HX.out 9
        go_wp2_with fail
        refine (first_any d.a1 d.c1 m.an j (by omega) (by omega) _ (HI.out.an.below' HB.out)).mono ?_
        rintro e v1 ⟨A1, p1, rfl, hS1, hb1, hf1⟩
        obtain ⟨l1, hl1q⟩ : ∃ x, x = (m.an.take j) := ⟨_, rfl⟩
        obtain ⟨j2, hj1q⟩ : ∃ x, x = (j - m.an.length) := ⟨_, rfl⟩
        rw [← hl1q] at hS1
        rw [← hl1q, ← hj1q]
        have hjb1 : j2 ≤ 18000 := by omega
        have HLs1 := Lib.hid (And.intro hl1q hj1q)
        clear hl1q hj1q
        have hX1 := (hb1.block _ (heap_lt HX.out)).trans HX.out
        have hR1 := (hb1.block _ (heap_lt HR.out)).trans HR.out
        have hZ1 := Nat.le_trans HZ.out hb1.size
        have hB1 := HB.out.trans (hb1.mono HB.out.size)
        have hF1 : SlF rf (w.heap.size + 2) v1 A1 p1 l1 := ⟨hS1, fun a ha => Nat.le_trans HZ.out (hf1 a ha)⟩
        have hG10 := HS0.out.call hb1
        clear c9
        have c9 : v1.cell? ⟨w.heap.size, 9, none⟩ = some (.slice d.a1 m.an.length d.c1) := blk_cell hX1 9
        have z1 := blk_frozen hX1 9
        have hY1 := blk_set hX1 9 (.slice A1 l1.length p1)
        have HX := Lib.hid (show (v1.setCell ⟨w.heap.size, 9, none⟩ (.slice A1 l1.length p1)).heap[w.heap.size]? = some (.cells (msV { m with tc := D, an := l1 } ⟨A0, p0, A1, p1, d.a2, d.c2, d.a3, d.c3⟩) 26 (0, 0)) from hY1)
        have HR := Lib.hid ((Below.heap_setCell v1 ⟨w.heap.size, 9, none⟩ (.slice A1 l1.length p1) (w.heap.size + 1) (by simp only; omega)).trans hR1)
        have HB := Lib.hid (hB1.setCell (p := ⟨w.heap.size, 9, none⟩) (Nat.le_refl _) (.slice A1 l1.length p1))
        have HZ := Lib.hid (show w.heap.size + 2 ≤ (v1.setCell ⟨w.heap.size, 9, none⟩ (.slice A1 l1.length p1)).heap.size by simpa [World.setCell] using hZ1)
        have HS1 := Lib.hid (hF1.set (g := w.heap.size) (i := 9) (by omega) (.slice A1 l1.length p1))
        have HS0 := Lib.hid (hG10.set (g := w.heap.size) (i := 9) (by omega) (.slice A1 l1.length p1))
        obtain ⟨y2, hy2⟩ : ∃ y, y = v1.setCell ⟨w.heap.size, 9, none⟩ (.slice A1 l1.length p1) := ⟨_, rfl⟩
        rw [← hy2] at HX HR HB HZ HS0 HS1
        have HY2 := Lib.hid hy2
        clear hy2 hX1 hR1 hZ1 hB1 hF1 hY1 hS1 hb1 hf1 hG10
        go_upto_region 12 with (fail)
        rw [← HY2.out]
        clear HY2 c9 z1
        have c10 : y2.cell? ⟨w.heap.size, 10, none⟩ = some (.slice d.a2 m.ns.length d.c2) := blk_cell HX.out 10
        go_wp2_with fail
        refine (first_any d.a2 d.c2 m.ns j2 (by omega) (by omega) _ (HI.out.ns.below' HB.out)).mono ?_
        rintro e v2 ⟨A2, p2, rfl, hS2, hb2, hf2⟩
        obtain ⟨l2, hl2q⟩ : ∃ x, x = (m.ns.take j2) := ⟨_, rfl⟩
        obtain ⟨j3, hj2q⟩ : ∃ x, x = (j2 - m.ns.length) := ⟨_, rfl⟩
        rw [← hl2q] at hS2
        rw [← hl2q, ← hj2q]
        have hjb2 : j3 ≤ 18000 := by omega
        have HLs2 := Lib.hid (And.intro hl2q hj2q)
        clear hl2q hj2q
        have hX2 := (hb2.block _ (heap_lt HX.out)).trans HX.out
        have hR2 := (hb2.block _ (heap_lt HR.out)).trans HR.out
        have hZ2 := Nat.le_trans HZ.out hb2.size
        have hB2 := HB.out.trans (hb2.mono HB.out.size)
        have hF2 : SlF rf (w.heap.size + 2) v2 A2 p2 l2 := ⟨hS2, fun a ha => Nat.le_trans HZ.out (hf2 a ha)⟩
        have hG20 := HS0.out.call hb2
        have hG21 := HS1.out.call hb2
        clear c10
        have c10 : v2.cell? ⟨w.heap.size, 10, none⟩ = some (.slice d.a2 m.ns.length d.c2) := blk_cell hX2 10
        have z2 := blk_frozen hX2 10
        have hY2 := blk_set hX2 10 (.slice A2 l2.length p2)
        have HX := Lib.hid (show (v2.setCell ⟨w.heap.size, 10, none⟩ (.slice A2 l2.length p2)).heap[w.heap.size]? = some (.cells (msV { m with tc := D, an := l1, ns := l2 } ⟨A0, p0, A1, p1, A2, p2, d.a3, d.c3⟩) 26 (0, 0)) from hY2)
        have HR := Lib.hid ((Below.heap_setCell v2 ⟨w.heap.size, 10, none⟩ (.slice A2 l2.length p2) (w.heap.size + 1) (by simp only; omega)).trans hR2)
        have HB := Lib.hid (hB2.setCell (p := ⟨w.heap.size, 10, none⟩) (Nat.le_refl _) (.slice A2 l2.length p2))
        have HZ := Lib.hid (show w.heap.size + 2 ≤ (v2.setCell ⟨w.heap.size, 10, none⟩ (.slice A2 l2.length p2)).heap.size by simpa [World.setCell] using hZ2)
        have HS2 := Lib.hid (hF2.set (g := w.heap.size) (i := 10) (by omega) (.slice A2 l2.length p2))
        have HS0 := Lib.hid (hG20.set (g := w.heap.size) (i := 10) (by omega) (.slice A2 l2.length p2))
        have HS1 := Lib.hid (hG21.set (g := w.heap.size) (i := 10) (by omega) (.slice A2 l2.length p2))
        obtain ⟨y3, hy3⟩ : ∃ y, y = v2.setCell ⟨w.heap.size, 10, none⟩ (.slice A2 l2.length p2) := ⟨_, rfl⟩
        rw [← hy3] at HX HR HB HZ HS0 HS1 HS2
        have HY3 := Lib.hid hy3
        clear hy3 hX2 hR2 hZ2 hB2 hF2 hY2 hS2 hb2 hf2 hG20 hG21
        go_upto_region 13 with (fail)
        rw [← HY3.out]
        clear HY3 c10 z2
        have c11 : y3.cell? ⟨w.heap.size, 11, none⟩ = some (.slice d.a3 m.ar.length d.c3) := blk_cell HX.out 11
        go_wp2_with fail
        refine (first_any d.a3 d.c3 m.ar j3 (by omega) (by omega) _ (HI.out.ar.below' HB.out)).mono ?_
        rintro e v3 ⟨A3, p3, rfl, hS3, hb3, hf3⟩
        obtain ⟨l3, hl3q⟩ : ∃ x, x = (m.ar.take j3) := ⟨_, rfl⟩
        obtain ⟨j4, hj3q⟩ : ∃ x, x = (j3 - m.ar.length) := ⟨_, rfl⟩
        rw [← hl3q] at hS3
        rw [← hl3q, ← hj3q]
        have hjb3 : j4 ≤ 18000 := by omega
        have HLs3 := Lib.hid (And.intro hl3q hj3q)
        clear hl3q hj3q
        have hX3 := (hb3.block _ (heap_lt HX.out)).trans HX.out
        have hR3 := (hb3.block _ (heap_lt HR.out)).trans HR.out
        have hZ3 := Nat.le_trans HZ.out hb3.size
        have hB3 := HB.out.trans (hb3.mono HB.out.size)
        have hF3 : SlF rf (w.heap.size + 2) v3 A3 p3 l3 := ⟨hS3, fun a ha => Nat.le_trans HZ.out (hf3 a ha)⟩
        have hG30 := HS0.out.call hb3
        have hG31 := HS1.out.call hb3
        have hG32 := HS2.out.call hb3
        clear c11
        have c11 : v3.cell? ⟨w.heap.size, 11, none⟩ = some (.slice d.a3 m.ar.length d.c3) := blk_cell hX3 11
        have z3 := blk_frozen hX3 11
        have hY3 := blk_set hX3 11 (.slice A3 l3.length p3)
        have HX := Lib.hid (show (v3.setCell ⟨w.heap.size, 11, none⟩ (.slice A3 l3.length p3)).heap[w.heap.size]? = some (.cells (msV { m with tc := D, an := l1, ns := l2, ar := l3 } ⟨A0, p0, A1, p1, A2, p2, A3, p3⟩) 26 (0, 0)) from hY3)
        have HR := Lib.hid ((Below.heap_setCell v3 ⟨w.heap.size, 11, none⟩ (.slice A3 l3.length p3) (w.heap.size + 1) (by simp only; omega)).trans hR3)
        have HB := Lib.hid (hB3.setCell (p := ⟨w.heap.size, 11, none⟩) (Nat.le_refl _) (.slice A3 l3.length p3))
        have HZ := Lib.hid (show w.heap.size + 2 ≤ (v3.setCell ⟨w.heap.size, 11, none⟩ (.slice A3 l3.length p3)).heap.size by simpa [World.setCell] using hZ3)
        have HS3 := Lib.hid (hF3.set (g := w.heap.size) (i := 11) (by omega) (.slice A3 l3.length p3))
        have HS0 := Lib.hid (hG30.set (g := w.heap.size) (i := 11) (by omega) (.slice A3 l3.length p3))
        have HS1 := Lib.hid (hG31.set (g := w.heap.size) (i := 11) (by omega) (.slice A3 l3.length p3))
        have HS2 := Lib.hid (hG32.set (g := w.heap.size) (i := 11) (by omega) (.slice A3 l3.length p3))
        obtain ⟨y4, hy4⟩ : ∃ y, y = v3.setCell ⟨w.heap.size, 11, none⟩ (.slice A3 l3.length p3) := ⟨_, rfl⟩
        rw [← hy4] at HX HR HB HZ HS0 HS1 HS2 HS3
        have HY4 := Lib.hid hy4
        clear hy4 hX3 hR3 hZ3 hB3 hF3 hY3 hS3 hb3 hf3 hG30 hG31 hG32
        go_upto_region 14 with (fail)
        rw [← HY4.out]
        clear HY4 c11 z3
        go_wp2_with (first | (refine wpList_load_row rfl 26 _ rfl w.heap.size rfl 26 _ _ _ HX.out Tryz.underlying26 rfl (infoM' _ _) ?_) | (refine wpList_store_row rfl 26 _ _ rfl (w.heap.size + 1) (msV { m with tc := D, an := l1, ns := l2, ar := l3 } ⟨A0, p0, A1, p1, A2, p2, A3, p3⟩) rfl rfl 26 (msV zMs zAd) HR.out infoM rfl (msV_all _ _) ?_))
        refine ret_m2 (g := w.heap.size + 1) rfl rfl rfl rfl (setRow_heap _ _ _ _ _ _ HR.out) rfl ?_
        have hC := HC.out
        rw [show lessM m j D = { m with tc := D, an := l1, ns := l2, ar := l3 } by unfold lessM; rw [← HLs1.out.2, ← HLs2.out.2, ← HLs1.out.1, ← HLs2.out.1, ← HLs3.out.1]] at hC
        exact ⟨_, 0, ⟨A0, p0, A1, p1, A2, p2, A3, p3⟩, rfl, hC, ⟨(HS0.out.row (by omega) _).sl, (HS1.out.row (by omega) _).sl, (HS2.out.row (by omega) _).sl, (HS3.out.row (by omega) _).sl⟩, setRow_below HB.out (Nat.le_succ _) _⟩
end Go.Proofs.YtnakljbginbenaaGreatDoor
