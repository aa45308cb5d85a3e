/- The contracts of derrickref06.Reply, derrickref06.less and derrickref06.Cut. -/
import Derived.Test.YtnakljbginbenaaGreatDoorNrc
import Derived.Test.YtnakljbginbenaaGreatDoorMmq
import Derived.Test.YtnakljbginbenaaGreatDoorMmo
namespace Go.Proofs.YtnakljbginbenaaGreatDoor
open Go.RowKit
set_option linter.unusedVariables false

theorem fewM_fw {m : Ms} (h : fewM m = true) : Fw m := by
  unfold fewM at h
  simp only [Bool.and_eq_true, decide_eq_true_iff, List.all_eq_true] at h
  obtain ⟨h1, h2, h3, h4, h5, h6⟩ := h
  have e : ∀ r ∈ m.recs, r.n.size ≤ 300 ∧ r.d.size ≤ 300 := fun r hr => by
    have := h5 r hr
    unfold few1 at this
    simpa only [Bool.and_eq_true, decide_eq_true_iff] using this
  refine ⟨⟨h1, fun r hr => ?_⟩, ⟨h2, fun r hr => e r (by unfold Ms.recs; simp [hr])⟩, ⟨h3, fun r hr => e r (by unfold Ms.recs; simp [hr])⟩, ⟨h4, fun r hr => e r (by unfold Ms.recs; simp [hr])⟩⟩
  have := h6 r hr
  unfold few0 at this
  simpa only [decide_eq_true_iff] using this

set_option maxRecDepth 100000 in
set_option maxHeartbeats 1000000 in
theorem freply_any (m : Ms) (d : Ad) (r : Int) (w : World) (hI : Mg w m d) :
    Calls Tryz.prog 14 #[.agg (msV m d), .int .i64 r] w fun e w' => ∃ d', e = .returned (.agg (msV (repM m r) d')) ∧ Mg w' (repM m r) d' ∧ Below w.heap.size w w' := by
  have hb1 := (Below.refl w.heap.size w).alloc (Nat.le_refl _) (Obj.cells (msV m d) 26)
  have hx1 := World.alloc_heap_new w (Obj.cells (msV m d) 26)
  have hb2 := hb1.alloc hb1.size (Obj.cells (msV zMs zAd) 26)
  have hx2 := heap_alloc2_new w (Obj.cells (msV m d) 26) (Obj.cells (msV zMs zAd) 26)
  have hx3 := (heapOld (Obj.cells (msV zMs zAd) 26) (heap_lt hx1)).trans hx1
  have hsz : ((w.alloc (Obj.cells (msV m d) 26)).alloc (Obj.cells (msV zMs zAd) 26)).heap.size = w.heap.size + 2 := by simp
  obtain ⟨w2, hw2⟩ : ∃ w2, w2 = (w.alloc (Obj.cells (msV m d) 26)).alloc (Obj.cells (msV zMs zAd) 26) := ⟨_, rfl⟩
  rw [← hw2] at hb2 hx2 hx3 hsz
  have HW := Lib.hid hw2
  have HX := Lib.hid hx3
  have HR := Lib.hid hx2
  have HB := Lib.hid hb2
  have HSz := Lib.hid hsz
  clear hb1 hx1 hb2 hx2 hx3 hsz hw2
  have HI := Lib.hid hI
  clear hI
  have c0 : w2.cell? ⟨w.heap.size, 0, none⟩ = some (.int .u16 (m.id : Nat)) := blk_cell HX.out 0
  have c4 : w2.cell? ⟨w.heap.size, 4, none⟩ = some (.bool m.rd) := blk_cell HX.out 4
  have c6 : w2.cell? ⟨w.heap.size, 6, none⟩ = some (.int .i64 m.op) := blk_cell HX.out 6
  have c8 : w2.cell? ⟨w.heap.size, 8, none⟩ = some (.slice d.aq m.q.length d.cq) := blk_cell HX.out 8
  go_enter Tryz.func14, Tryz.ntmps14
  go_upto_region 1 with (fail)
  rw [show Obj.cells #[Value.int IntKind.u16 0, .bool false, .bool false, .bool false, .bool false, .bool false, .int .i64 0, .int .i64 0, .slice none 0 0, .slice none 0 0, .slice none 0 0, .slice none 0 0] 26 = Obj.cells (msV zMs zAd) 26 from rfl, ← HW.out]
  clear HW
  go_wp2_with (refine wpList_store_row rfl 26 _ _ rfl (w.heap.size + 1) (msV (repM m r) ⟨d.aq, d.cq, none, 0, none, 0, none, 0⟩) rfl rfl 26 (msV zMs zAd) HR.out infoM rfl (msV_all _ _) ?_)
  have hb9 := setRow_below HB.out (show w.heap.size ≤ w.heap.size + 1 by omega) (msV (repM m r) ⟨d.aq, d.cq, none, 0, none, 0, none, 0⟩)
  exact ret_m (g := w.heap.size + 1) rfl rfl rfl (setRow_heap _ _ _ _ _ _ HR.out) rfl ⟨_, rfl, ⟨HI.out.q.below' hb9, Sl.nil _ _, Sl.nil _ _, Sl.nil _ _⟩, hb9⟩

def bxR (w : World) (m : Ms) (d : Ad) : World := (w.alloc (Obj.cells (msV zMs zAd) 26)).setRow w.heap.size (msV m d)
/-- The boxes of less: the message, the result, the shorter message. -/
structure LsI (w : World) (m : Ms) (d : Ad) (cs : Array Value) (W : World) : Prop where
  box : W.heap[w.heap.size]? = some (.cells (msV m d) 26 (0, 0))
  res : W.heap[w.heap.size + 1]? = some (.cells (msV zMs zAd) 26 (0, 0))
  out : W.heap[w.heap.size + 2]? = some (.cells cs 26 (0, 0))
  bel : Below w.heap.size w W
theorem LsI.set {w : World} {m : Ms} {d : Ad} {cs : Array Value} {W : World} (h : LsI w m d cs W) (i : Nat) (u : Value) : LsI w m d (cs.setIfInBounds i u) (W.setCell ⟨w.heap.size + 2, i, none⟩ u) :=
  ⟨blk_other u h.box (by omega), blk_other u h.res (by omega), blk_set h.out i u, h.bel.setCell (p := ⟨w.heap.size + 2, i, none⟩) (show w.heap.size ≤ w.heap.size + 2 by omega) u⟩

set_option maxRecDepth 100000 in
set_option maxHeartbeats 2000000 in
theorem fless_any (m : Ms) (d : Ad) (j : Nat) (hj : j ≤ 100000) (hs : SmM m) (w : World) (hI : Mg w m d) :
    Calls Tryz.prog 46 #[.agg (msV m d), .int .i64 j] w fun e w' => e = .returned (.agg (msV (lessM m j true) d)) ∧ Mg w' (lessM m j true) d ∧ Below w.heap.size w w' := by
  have hb1 := (Below.refl w.heap.size w).alloc (Nat.le_refl _) (Obj.cells (msV m d) 26)
  have hx1 := World.alloc_heap_new w (Obj.cells (msV m d) 26)
  have hb2 := hb1.alloc hb1.size (Obj.cells (msV zMs zAd) 26)
  have hx2 := heap_alloc2_new w (Obj.cells (msV m d) 26) (Obj.cells (msV zMs zAd) 26)
  have hx3 := (heapOld (Obj.cells (msV zMs zAd) 26) (heap_lt hx1)).trans hx1
  have hsz : ((w.alloc (Obj.cells (msV m d) 26)).alloc (Obj.cells (msV zMs zAd) 26)).heap.size = w.heap.size + 2 := by simp
  obtain ⟨w2, hw2⟩ : ∃ w2, w2 = (w.alloc (Obj.cells (msV m d) 26)).alloc (Obj.cells (msV zMs zAd) 26) := ⟨_, rfl⟩
  rw [← hw2] at hb2 hx2 hx3 hsz
  have HW := Lib.hid hw2
  have HX := Lib.hid hx3
  have HR := Lib.hid hx2
  have HB := Lib.hid hb2
  have HSz := Lib.hid hsz
  clear hb1 hx1 hb2 hx2 hx3 hsz hw2
  have hl1 := hs.an.len
  have hl2 := hs.ns.len
  have hl3 := hs.ar.len
  have hc1 := hI.an.le
  have hc2 := hI.ns.le
  have hc3 := hI.ar.le
  obtain ⟨h1, hh1⟩ : ∃ h, (m.an.take j).length = h := ⟨_, rfl⟩
  obtain ⟨l1, hk1⟩ : ∃ l, j - m.an.length = l := ⟨_, rfl⟩
  obtain ⟨h2, hh2⟩ : ∃ h, (m.ns.take l1).length = h := ⟨_, rfl⟩
  obtain ⟨l2, hk2⟩ : ∃ l, l1 - m.ns.length = l := ⟨_, rfl⟩
  obtain ⟨h3, hh3⟩ : ∃ h, (m.ar.take l2).length = h := ⟨_, rfl⟩
  have q1 := hh1
  have q2 := hh2
  have q3 := hh3
  rw [List.length_take] at q1 q2 q3
  have n1 : min (j : Int) (m.an.length : Int) = (h1 : Int) := by omega
  have n2 : min (l1 : Int) (m.ns.length : Int) = (h2 : Int) := by omega
  have n3 : min (l2 : Int) (m.ar.length : Int) = (h3 : Int) := by omega
  have s1 : (j : Int) - (h1 : Int) = (l1 : Int) := by omega
  have s2 : (l1 : Int) - (h2 : Int) = (l2 : Int) := by omega
  have b1 : h1 ≤ d.c1 := by omega
  have b2 : h2 ≤ d.c2 := by omega
  have b3 : h3 ≤ d.c3 := by omega
  have hcs : ((((msV m d).setIfInBounds 3 (.bool true)).setIfInBounds 9 (.slice d.a1 h1 d.c1)).setIfInBounds 10 (.slice d.a2 h2 d.c2)).setIfInBounds 11 (.slice d.a3 h3 d.c3) = msV (lessM m j true) d := by
    rw [lessM_an]
    simp only
    rw [hk1, hk2, hh1, hh2, hh3]
    rfl
  have HCs := Lib.hid hcs
  have HSub := Lib.hid (And.intro s1 s2)
  have HMg := Lib.hid (show ∀ W, Below w.heap.size w W → Mg W (lessM m j true) d from fun W hW => ⟨hI.q.below' hW, (hI.an.take _).below' hW, (hI.ns.take _).below' hW, (hI.ar.take _).below' hW⟩)
  have hz := World.alloc_heap_new w2 (Obj.cells (msV zMs zAd) 26)
  have hy0 : LsI w m d (msV m d) (bxR w2 m d) := by
    have e := HSz.out
    unfold bxR
    rw [e] at hz ⊢
    have o1 := heap_lt HX.out
    have o2 := heap_lt HR.out
    refine ⟨?_, ?_, setRow_heap _ _ _ _ _ _ hz, setRow_below (HB.out.alloc HB.out.size _) (by omega) _⟩
    · rw [setRow_other _ _ _ _ (by omega)]; exact (heapOld _ o1).trans HX.out
    · rw [setRow_other _ _ _ _ (by omega)]; exact (heapOld _ o2).trans HR.out
  rw [HSz.out] at hz
  obtain ⟨y0, e0⟩ : ∃ y, y = bxR w2 m d := ⟨_, rfl⟩
  rw [← e0] at hy0
  have E0 := Lib.hid (show y0 = (w2.alloc (Obj.cells (msV zMs zAd) 26)).setRow (w.heap.size + 2) (msV m d) by rw [e0, ← HSz.out]; rfl)
  have HZ := Lib.hid hz
  have HY0 := Lib.hid hy0
  have hwz := HSz.out
  clear hh1 hk1 hh2 hk2 hh3 q1 q2 q3 s1 s2 hcs hI hs hz hy0 e0
  go_enter Tryz.func46, Tryz.ntmps46
  go_upto_region 1 with (fail)
  rw [show Obj.cells #[Value.int IntKind.u16 0, .bool false, .bool false, .bool false, .bool false, .bool false, .int .i64 0, .int .i64 0, .slice none 0 0, .slice none 0 0, .slice none 0 0, .slice none 0 0] 26 = Obj.cells (msV zMs zAd) 26 from rfl, ← HW.out]
  clear HW
  go_upto_region 2 with (first | (refine wpList_load_row rfl 26 _ rfl w.heap.size rfl 26 _ _ _ HX.out Tryz.underlying26 rfl (infoM' m d) ?_) | (rw [show Obj.cells #[Value.int IntKind.u16 0, .bool false, .bool false, .bool false, .bool false, .bool false, .int .i64 0, .int .i64 0, .slice none 0 0, .slice none 0 0, .slice none 0 0, .slice none 0 0] 26 = Obj.cells (msV zMs zAd) 26 from rfl]; refine wpList_store_row rfl 26 _ _ rfl (w.heap.size + 2) (msV m d) rfl rfl 26 (msV zMs zAd) HZ.out infoM rfl (msV_all _ _) ?_))
  rw [← E0.out]
  clear E0 HZ hwz HSz HX HR HB
  have g0 : y0.cell? ⟨w.heap.size + 2, 3, none⟩ = some (.bool m.tc) := blk_cell HY0.out.out 3
  have f0 := blk_frozen HY0.out.out 3
  have hn := HY0.out.set 3 (.bool true)
  obtain ⟨y1, e1⟩ : ∃ y, y = y0.setCell ⟨w.heap.size + 2, 3, none⟩ (.bool true) := ⟨_, rfl⟩
  rw [← e1] at hn
  have HY1 := Lib.hid hn
  have E1 := Lib.hid e1
  clear hn e1
  go_upto_region 3 with (fail)
  rw [← E1.out]
  clear E1 g0 f0
  have g0 : y1.cell? ⟨w.heap.size + 2, 9, none⟩ = some (.slice d.a1 m.an.length d.c1) := blk_cell HY1.out.out 9
  have f0 := blk_frozen HY1.out.out 9
  have a0 : y1.cell? ⟨w.heap.size, 9, none⟩ = some (.slice d.a1 m.an.length d.c1) := blk_cell HY1.out.box 9
  have hn := HY1.out.set 9 (.slice d.a1 h1 d.c1)
  obtain ⟨y2, e1⟩ : ∃ y, y = y1.setCell ⟨w.heap.size + 2, 9, none⟩ (.slice d.a1 h1 d.c1) := ⟨_, rfl⟩
  rw [← e1] at hn
  have HY2 := Lib.hid hn
  have E1 := Lib.hid e1
  clear hn e1
  go_upto_region 4 with (fail)
  rw [← E1.out]
  clear E1 g0 f0 a0
  have g0 : y2.cell? ⟨w.heap.size + 2, 10, none⟩ = some (.slice d.a2 m.ns.length d.c2) := blk_cell HY2.out.out 10
  have f0 := blk_frozen HY2.out.out 10
  have a0 : y2.cell? ⟨w.heap.size, 10, none⟩ = some (.slice d.a2 m.ns.length d.c2) := blk_cell HY2.out.box 10
  have p0 : y2.cell? ⟨w.heap.size + 2, 9, none⟩ = some (.slice d.a1 h1 d.c1) := blk_cell HY2.out.out 9
  obtain ⟨s1, s2⟩ := HSub.out
  have hn := HY2.out.set 10 (.slice d.a2 h2 d.c2)
  obtain ⟨y3, e1⟩ : ∃ y, y = y2.setCell ⟨w.heap.size + 2, 10, none⟩ (.slice d.a2 h2 d.c2) := ⟨_, rfl⟩
  rw [← e1] at hn
  have HY3 := Lib.hid hn
  have E1 := Lib.hid e1
  clear hn e1
  go_upto_region 6 with (fail)
  rw [← E1.out]
  clear E1 g0 f0 a0 p0 s1 s2
  have g0 : y3.cell? ⟨w.heap.size + 2, 11, none⟩ = some (.slice d.a3 m.ar.length d.c3) := blk_cell HY3.out.out 11
  have f0 := blk_frozen HY3.out.out 11
  have a0 : y3.cell? ⟨w.heap.size, 11, none⟩ = some (.slice d.a3 m.ar.length d.c3) := blk_cell HY3.out.box 11
  have p0 : y3.cell? ⟨w.heap.size + 2, 10, none⟩ = some (.slice d.a2 h2 d.c2) := blk_cell HY3.out.out 10
  obtain ⟨s1, s2⟩ := HSub.out
  have hn := HY3.out.set 11 (.slice d.a3 h3 d.c3)
  obtain ⟨y4, e1⟩ : ∃ y, y = y3.setCell ⟨w.heap.size + 2, 11, none⟩ (.slice d.a3 h3 d.c3) := ⟨_, rfl⟩
  rw [← e1] at hn
  have HY4 := Lib.hid hn
  have E1 := Lib.hid e1
  clear hn e1
  go_upto_region 8 with (fail)
  rw [← E1.out]
  clear E1 g0 f0 a0 p0 s1 s2
  have hO : y4.heap[w.heap.size + 2]? = some (.cells (msV (lessM m j true) d) 26 (0, 0)) := by rw [← HCs.out]; exact HY4.out.out
  have HO := Lib.hid hO
  have hr := HY4.out.res
  have HRr := Lib.hid hr
  clear hO hr
  go_wp2_with (first | (refine wpList_load_row rfl 26 _ rfl (w.heap.size + 2) rfl 26 _ _ _ HO.out Tryz.underlying26 rfl (infoM' _ _) ?_) | (refine wpList_store_row rfl 26 _ _ rfl (w.heap.size + 1) (msV (lessM m j true) d) rfl rfl 26 (msV zMs zAd) HRr.out infoM rfl (msV_all _ _) ?_))
  have hb9 := setRow_below HY4.out.bel (show w.heap.size ≤ w.heap.size + 1 by omega) (msV (lessM m j true) d)
  exact ret_m (g := w.heap.size + 1) rfl rfl rfl (setRow_heap _ _ _ _ _ _ HRr.out) rfl ⟨rfl, HMg.out _ hb9, hb9⟩

/-- What the document's Cut tells. -/
def CutR (m : Ms) (mo : Int) (N : Ms) (E : Int) : Prop :=
  (mayM m = false ∧ N = zMs ∧ E = 1) ∨ (mayM m = true ∧ ((encM m).1.length : Int) ≤ mo ∧ N = m ∧ E = 0) ∨
  (mayM m = true ∧ mo < ((encM m).1.length : Int) ∧ E = 0 ∧ ∃ j, j < m.recs.length ∧ ((encM (lessM m j true)).1.length : Int) ≤ mo ∧ (∀ i, j < i → i < m.recs.length → mo < ((encM (lessM m i true)).1.length : Int)) ∧ N = lessM m j true) ∨
  (mayM m = true ∧ mo < ((encM m).1.length : Int) ∧ (∀ i, i < m.recs.length → mo < ((encM (lessM m i true)).1.length : Int)) ∧ N = zMs ∧ E = 3)
theorem encM_take (m : Ms) : (encM m).1.length = (rsF (bgM m) (m.recs.take m.recs.length)).1.length := by rw [List.take_length]; rfl
theorem fitsAt_le {X : List UInt8 × Kn} {l : List Rc} {mo : Int} {j : Nat} (h : FitsAt X l mo j) (h0 : (X.1.length : Int) ≤ mo) : ((rsF X (l.take j)).1.length : Int) ≤ mo := by
  cases j with
  | zero => exact h0
  | succ i => exact h.2.1 i (Nat.lt_succ_self i)
theorem cuts_same {m : Ms} {most : Int} {N N' : Ms} {E E' : Int} (h : CutIs m most N E) (h' : CutR m (min most 65535) N' E') : N = N' ∧ E = E' := by
  unfold CutIs at h
  generalize min most 65535 = mo at *
  rcases h with ⟨hm, rfl, rfl⟩ | ⟨hm, hb, rfl, rfl⟩ | ⟨hm, hb, rfl, j, hF, rfl⟩
  · rcases h' with ⟨_, rfl, rfl⟩ | ⟨g, _⟩ | ⟨g, _⟩ | ⟨g, _⟩
    · exact ⟨rfl, rfl⟩
    all_goals rw [hm] at g; cases g
  all_goals
    have hM := mayM_iff.1 hm
    have hG := (bgM_app hM).2
    have mono := fun i k (h : i ≤ k) => rsF_mono (X := bgM m) (l := m.recs) hG hM.recs h
    have hle := encM_take m
  · have all : ∀ i, ((bgM m).1.length : Int) ≤ ((rsF (bgM m) (m.recs.take i)).1.length : Int) := fun i => by
      have h0 := mono 0 i (Nat.zero_le _)
      rw [List.take_zero] at h0
      have h1 : (bgM m).1.length ≤ (rsF (bgM m) (m.recs.take i)).1.length := h0
      omega
    rcases h' with ⟨g, _⟩ | ⟨_, g, _⟩ | ⟨_, _, _, i, hi, g, _⟩ | ⟨_, _, _, rfl, rfl⟩
    · rw [hm] at g; cases g
    · have := all m.recs.length; omega
    · rw [lessM_len] at g; have := all i; omega
    · exact ⟨rfl, rfl⟩
  · have hj := fitsAt_le hF hb
    rcases Nat.lt_or_ge j m.recs.length with hlt | hge
    · have hup := hF.2.2 hlt
      have e : (m.tc || decide (j < m.recs.length)) = true := by simp [hlt]
      rw [e]
      rcases h' with ⟨g, _⟩ | ⟨_, g, _⟩ | ⟨_, _, rfl, i, hi, g1, g2, rfl⟩ | ⟨_, _, g, _⟩
      · rw [hm] at g; cases g
      · have := mono (j + 1) m.recs.length hlt; omega
      · rw [lessM_len] at g1
        rcases Nat.lt_trichotomy i j with hij | rfl | hij
        · have g3 := g2 j hij hlt; rw [lessM_len] at g3; omega
        · exact ⟨rfl, rfl⟩
        · have := mono (j + 1) i hij; omega
      · have g3 := g j hlt; rw [lessM_len] at g3; omega
    · obtain rfl : j = m.recs.length := Nat.le_antisymm hF.1 hge
      have e : (m.tc || decide (m.recs.length < m.recs.length)) = m.tc := by simp
      rw [e, lessM_all m (Nat.le_refl _)]
      rcases h' with ⟨g, _⟩ | ⟨_, _, rfl, rfl⟩ | ⟨_, g, _⟩ | ⟨_, g, _⟩
      · rw [hm] at g; cases g
      · exact ⟨rfl, rfl⟩
      · omega
      · omega

set_option maxRecDepth 100000 in
set_option maxHeartbeats 4000000 in
theorem fcut_any (m : Ms) (d : Ad) (most : Int) (hok : m.Ok) (hs : SmM m) (hf : Fw m) (w : World) (hI : Mg w m d) :
    Calls Tryz.prog 20 #[.agg (msV m d), .int .i64 most] w fun e w' => ∃ N E d', e = .returned (.tuple #[.agg (msV N d'), .int .i64 E]) ∧ CutR m (min most 65535) N E ∧ Mg w' N d' ∧ Below w.heap.size w w' := by
  have hb1 := (Below.refl w.heap.size w).alloc (Nat.le_refl _) (Obj.cells (msV m d) 26)
  have hx1 := World.alloc_heap_new w (Obj.cells (msV m d) 26)
  have hb2 := hb1.alloc hb1.size (Obj.cells (msV zMs zAd) 26)
  have hx2 := heap_alloc2_new w (Obj.cells (msV m d) 26) (Obj.cells (msV zMs zAd) 26)
  have hx3 := (heapOld (Obj.cells (msV zMs zAd) 26) (heap_lt hx1)).trans hx1
  have hsz : ((w.alloc (Obj.cells (msV m d) 26)).alloc (Obj.cells (msV zMs zAd) 26)).heap.size = w.heap.size + 2 := by simp
  obtain ⟨w2, hw2⟩ : ∃ w2, w2 = (w.alloc (Obj.cells (msV m d) 26)).alloc (Obj.cells (msV zMs zAd) 26) := ⟨_, rfl⟩
  rw [← hw2] at hb2 hx2 hx3 hsz
  have HW := Lib.hid hw2
  have HX := Lib.hid hx3
  have HR := Lib.hid hx2
  have HB := Lib.hid hb2
  have HSz := Lib.hid hsz
  clear hb1 hx1 hb2 hx2 hx3 hsz hw2
  have HI := Lib.hid hI
  have HOk := Lib.hid hok
  have HSm := Lib.hid hs
  have HFw := Lib.hid hf
  obtain ⟨mo, hmo⟩ : ∃ mo, mo = min most 65535 := ⟨_, rfl⟩
  have hmo1 : min most 65535 = mo := hmo.symm
  have HMo := Lib.hid hmo
  clear hI hok hs hf hmo
  go_enter Tryz.func20, Tryz.ntmps20
  go_upto_region 1 with (fail)
  rw [show Obj.cells #[Value.int IntKind.u16 0, .bool false, .bool false, .bool false, .bool false, .bool false, .int .i64 0, .int .i64 0, .slice none 0 0, .slice none 0 0, .slice none 0 0, .slice none 0 0] 26 = Obj.cells (msV zMs zAd) 26 from rfl, ← HW.out]
  clear HW
  go_wp2_with (refine wpList_load_row rfl 26 _ rfl w.heap.size rfl 26 _ _ _ HX.out Tryz.underlying26 rfl (infoM' m d) ?_)
  refine (fmaym_any m d HSm.out _ (HI.out.below HB.out)).mono ?_
  rintro e w3 ⟨rfl, hb3⟩
  have HX3 := Lib.hid ((hb3.block _ (heap_lt HX.out)).trans HX.out)
  have HR3 := Lib.hid ((hb3.block _ (heap_lt HR.out)).trans HR.out)
  have HB3 := Lib.hid (HB.out.trans (hb3.mono HB.out.size))
  clear hb3 HX HR HB HSz
  cases hmm : mayM m with
  | false =>
    have HC := Lib.hid (show CutR m (min most 65535) zMs 1 from .inl ⟨hmm, rfl, rfl⟩)
    clear hmm
    go_wp2_with (refine wpList_store_row rfl 26 _ _ rfl (w.heap.size + 1) (msV zMs zAd) rfl rfl 26 (msV zMs zAd) HR3.out infoM rfl (msV_all _ _) ?_)
    refine ret_m2 (g := w.heap.size + 1) rfl rfl rfl rfl (setRow_heap _ _ _ _ _ _ HR3.out) rfl ?_
    exact ⟨zMs, 1, zAd, rfl, HC.out, zMg _, setRow_below HB3.out (Nat.le_succ _) _⟩
  | true =>
    have HM := Lib.hid (mayM_iff.1 hmm)
    have HMB := Lib.hid hmm
    clear hmm
    go_wp2_with (refine wpList_load_row rfl 26 _ rfl w.heap.size rfl 26 _ _ _ HX3.out Tryz.underlying26 rfl (infoM' m d) ?_)
    refine (fbytes_any m d HM.out HOk.out HFw.out _ (HI.out.below HB3.out)).mono ?_
    rintro e w4 ⟨rfl, hb4⟩
    have HX4 := Lib.hid ((hb4.block _ (heap_lt HX3.out)).trans HX3.out)
    have HR4 := Lib.hid ((hb4.block _ (heap_lt HR3.out)).trans HR3.out)
    have HB4 := Lib.hid (HB3.out.trans (hb4.mono HB3.out.size))
    obtain ⟨S, hS⟩ : ∃ S, S = (⟨(encM m).1.toArray⟩ : ByteArray) := ⟨_, rfl⟩
    have hSl : S.size = (encM m).1.length := by rw [hS, mk_size]
    rw [← hS]
    have HSl := Lib.hid hSl
    clear hb4 hS hSl HX3 HR3 HB3
    by_cases hle : (S.size : Int) ≤ mo
    · have d1 : decide ((S.size : Int) ≤ mo) = true := by simpa using hle
      have HC := Lib.hid (show CutR m (min most 65535) m 0 from .inr (.inl ⟨HMB.out, by rw [hmo1, ← HSl.out]; exact hle, rfl, rfl⟩))
      clear hle
      go_wp2_with (first | (refine wpList_load_row rfl 26 _ rfl w.heap.size rfl 26 _ _ _ HX4.out Tryz.underlying26 rfl (infoM' m d) ?_) | (refine wpList_store_row rfl 26 _ _ rfl (w.heap.size + 1) (msV m d) rfl rfl 26 (msV zMs zAd) HR4.out infoM rfl (msV_all _ _) ?_))
      refine ret_m2 (g := w.heap.size + 1) rfl rfl rfl rfl (setRow_heap _ _ _ _ _ _ HR4.out) rfl ?_
      have hb9 := setRow_below HB4.out (Nat.le_succ w.heap.size) (msV m d)
      exact ⟨m, 0, d, rfl, HC.out, HI.out.below hb9, hb9⟩
    · have d1 : decide ((S.size : Int) ≤ mo) = false := by simpa using hle
      have HLt := Lib.hid (show mo < ((encM m).1.length : Int) by have := HSl.out; omega)
      have c9 : w4.cell? ⟨w.heap.size, 9, none⟩ = some (.slice d.a1 m.an.length d.c1) := blk_cell HX4.out 9
      have c10 : w4.cell? ⟨w.heap.size, 10, none⟩ = some (.slice d.a2 m.ns.length d.c2) := blk_cell HX4.out 10
      have c11 : w4.cell? ⟨w.heap.size, 11, none⟩ = some (.slice d.a3 m.ar.length d.c3) := blk_cell HX4.out 11
      have hl1 := HFw.out.an.1
      have hl2 := HFw.out.ns.1
      have hl3 := HFw.out.ar.1
      have hrl : m.recs.length = m.an.length + m.ns.length + m.ar.length := by unfold Ms.recs; rw [List.length_append, List.length_append]; omega
      have hn : (m.an.length : Int) + (m.ns.length : Int) + (m.ar.length : Int) - 1 = (m.recs.length : Int) - 1 := by omega
      have hr60 : m.recs.length ≤ 60 := by omega
      have HN := Lib.hid hn
      have HRl := Lib.hid hrl
      clear hle hn hrl
      go_wp2_with fail
      go_loopw [6] (fun t wr => ∃ k : Int, -1 ≤ k ∧ k < m.recs.length ∧ t = .int .i64 k ∧ (∀ i : Nat, k < i → i < m.recs.length → mo < ((encM (lessM m i true)).1.length : Int)) ∧ wr.heap[w.heap.size]? = some (.cells (msV m d) 26 (0, 0)) ∧ wr.heap[w.heap.size + 1]? = some (.cells (msV zMs zAd) 26 (0, 0)) ∧ Below w.heap.size w wr) (fun t _ => (intOf t + 1).toNat)
      case atStart => exact ⟨(m.recs.length : Int) - 1, by omega, by omega, by rw [← HN.out], (fun i h1 h2 => by omega), HX4.out, HR4.out, HB4.out⟩
      case round =>
        clear c9 c10 c11 HX4 HR4 HB4 d1
        obtain ⟨k, hk1, hk2, rfl, hall, hx, hr, hbel⟩ := hrel
        have HXr := Lib.hid hx
        have HRr := Lib.hid hr
        have HBr := Lib.hid hbel
        have HAl := Lib.hid hall
        clear hx hr hbel hall
        by_cases h0 : 0 ≤ k
        · obtain ⟨j, rfl⟩ : ∃ j : Nat, k = j := ⟨k.toNat, by omega⟩
          have d0 : decide ((j : Int) ≥ 0) = true := by simp
          have d0' : decide (0 ≤ (j : Int)) = true := by simp
          go_wp2_with (refine wpList_load_row rfl 26 _ rfl w.heap.size rfl 26 _ _ _ HXr.out Tryz.underlying26 rfl (infoM' m d) ?_)
          refine (fless_any m d j (by omega) HSm.out _ (HI.out.below HBr.out)).mono ?_
          rintro e w5 ⟨rfl, hg5, hb5⟩
          have HX5 := Lib.hid ((hb5.block _ (heap_lt HXr.out)).trans HXr.out)
          have HR5 := Lib.hid ((hb5.block _ (heap_lt HRr.out)).trans HRr.out)
          have HB5 := Lib.hid (HBr.out.trans (hb5.mono HBr.out.size))
          have HG5 := Lib.hid hg5
          clear hb5 hg5 HXr HRr HBr
          go_wp2_with fail
          refine (fbytes_any (lessM m j true) d (lessM_may HM.out j true) (lessM_ok HOk.out j true) (HFw.out.less j true) _ HG5.out).mono ?_
          rintro e w6 ⟨rfl, hb6⟩
          have HX6 := Lib.hid ((hb6.block _ (heap_lt HX5.out)).trans HX5.out)
          have HR6 := Lib.hid ((hb6.block _ (heap_lt HR5.out)).trans HR5.out)
          have HB6 := Lib.hid (HB5.out.trans (hb6.mono HB5.out.size))
          obtain ⟨S2, hS2⟩ : ∃ S2, S2 = (⟨(encM (lessM m j true)).1.toArray⟩ : ByteArray) := ⟨_, rfl⟩
          have hSl2 : S2.size = (encM (lessM m j true)).1.length := by rw [hS2, mk_size]
          rw [← hS2]
          have HSl2 := Lib.hid hSl2
          clear hb6 hS2 hSl2 HX5 HR5 HB5 HG5
          by_cases hfit : (S2.size : Int) ≤ mo
          · have d2 : decide ((S2.size : Int) ≤ mo) = true := by simpa using hfit
            have HC := Lib.hid (show CutR m (min most 65535) (lessM m j true) 0 from .inr (.inr (.inl ⟨HMB.out, by rw [hmo1]; exact HLt.out, rfl, j, by omega, by rw [hmo1, ← HSl2.out]; exact hfit, (fun i hi hi2 => by rw [hmo1]; exact HAl.out i (by omega) hi2), rfl⟩)))
            clear hfit
            go_wp2_with (refine wpList_load_row rfl 26 _ rfl w.heap.size rfl 26 _ _ _ HX6.out Tryz.underlying26 rfl (infoM' m d) ?_)
            refine (fless_any m d j (by omega) HSm.out _ (HI.out.below HB6.out)).mono ?_
            rintro e w7 ⟨rfl, hg7, hb7⟩
            have HR7 := Lib.hid ((hb7.block _ (heap_lt HR6.out)).trans HR6.out)
            have HB7 := Lib.hid (HB6.out.trans (hb7.mono HB6.out.size))
            clear hb7 hg7
            go_wp2_with (refine wpList_store_row rfl 26 _ _ rfl (w.heap.size + 1) (msV (lessM m j true) d) rfl rfl 26 (msV zMs zAd) HR7.out infoM rfl (msV_all _ _) ?_)
            refine ret_m2 (g := w.heap.size + 1) rfl rfl rfl rfl (setRow_heap _ _ _ _ _ _ HR7.out) rfl ?_
            have hb9 := setRow_below HB7.out (Nat.le_succ w.heap.size) (msV (lessM m j true) d)
            exact ⟨lessM m j true, 0, d, rfl, HC.out, ⟨HI.out.q.below' hb9, (HI.out.an.take _).below' hb9, (HI.out.ns.take _).below' hb9, (HI.out.ar.take _).below' hb9⟩, hb9⟩
          · have d2 : decide ((S2.size : Int) ≤ mo) = false := by simpa using hfit
            have HNx := Lib.hid (show ∀ i : Nat, (j : Int) - 1 < i → i < m.recs.length → mo < ((encM (lessM m i true)).1.length : Int) from fun i h1 h2 => by
              rcases Nat.lt_or_ge j i with h | h
              · exact HAl.out i (by omega) h2
              · obtain rfl : i = j := by omega
                have := HSl2.out
                omega)
            clear hfit
            go_wp2_with fail
            go_roundw
            case rel => exact ⟨(j : Int) - 1, by omega, by omega, rfl, HNx.out, HX6.out, HR6.out, HB6.out⟩
            case measure => first | (simp [intOf]; omega) | simp [intOf]
        · have hkm : k = -1 := by omega
          have d0 : decide (k ≥ 0) = false := by simp; omega
          have d0' : decide (0 ≤ k) = false := by simp; omega
          have HC := Lib.hid (show CutR m (min most 65535) zMs 3 from .inr (.inr (.inr ⟨HMB.out, by rw [hmo1]; exact HLt.out, (fun i hi => by rw [hmo1]; exact HAl.out i (by omega) hi), rfl, rfl⟩)))
          clear hkm h0 hk1 hk2
          go_wp2_with (refine wpList_store_row rfl 26 _ _ rfl (w.heap.size + 1) (msV zMs zAd) rfl rfl 26 (msV zMs zAd) HRr.out infoM rfl (msV_all _ _) ?_)
          refine ret_m2 (g := w.heap.size + 1) rfl rfl rfl rfl (setRow_heap _ _ _ _ _ _ HRr.out) rfl ?_
          exact ⟨zMs, 3, zAd, rfl, HC.out, zMg _, setRow_below HBr.out (Nat.le_succ _) _⟩
end Go.Proofs.YtnakljbginbenaaGreatDoor
