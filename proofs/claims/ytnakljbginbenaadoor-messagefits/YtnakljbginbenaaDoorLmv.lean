/- The walk of derricklaw06.MessageVery: what is taken may be, and put again it is taken again as the same, if that isn't too long. -/
import Derived.Test.YtnakljbginbenaaDoorMmp
import Derived.Test.YtnakljbginbenaaDoorMmn
namespace Go.Proofs.YtnakljbginbenaaDoor
open Go.RowKit
set_option linter.unusedVariables false

/-- A message in a box of its own. -/
def bxM (w : World) (m : Ms) (d : Ad) : World := (w.alloc (Obj.cells (msV zMs zAd) 26)).setRow w.heap.size (msV m d)
theorem bx_zero (w : World) : (w.alloc (Obj.cells (msV zMs zAd) 26)).heap[w.heap.size]? = some (.cells (msV zMs zAd) 26 (0, 0)) := World.alloc_heap_new w _
theorem bx_at (w : World) (m : Ms) (d : Ad) : (bxM w m d).heap[w.heap.size]? = some (.cells (msV m d) 26 (0, 0)) := setRow_heap _ _ _ _ _ _ (bx_zero w)
theorem bx_below (w : World) (m : Ms) (d : Ad) : Below w.heap.size w (bxM w m d) := setRow_below ((Below.refl w.heap.size w).alloc (Nat.le_refl _) _) (Nat.le_refl _) _
theorem tm_yes {s : ByteArray} (h : okT s = true) : tmM s = msT s ∧ tmE s = 0 := ⟨if_pos h, if_pos h⟩
theorem tm_no {s : ByteArray} (h : okT s = false) : tmM s = zMs ∧ tmE s = 2 := by unfold tmM tmE; rw [h]; exact ⟨rfl, rfl⟩
theorem may_sm {l : List Rc} (hl : l.length ≤ 6000) (h : ∀ r ∈ l, r.Ok ∧ mayR r = true) : Sm l := ⟨hl, fun r hr => by
  obtain ⟨h1, h2⟩ := h r hr
  unfold mayR at h2
  rw [Bool.and_eq_true] at h2
  have h3 := (may_name h2.1).size
  have h4 := h2.2
  unfold mayD at h4
  rw [Bool.and_eq_true, decide_eq_true_iff] at h4
  exact ⟨by omega, h4.1, h1⟩⟩
theorem Tk.sm {s : ByteArray} (t : Tk s) (hs : s.size ≤ 1500) : SmM (msT s) := by
  obtain ⟨h1, h2, h3, h4⟩ := t.may
  have h5 : (msT s).recs.length = (msT s).an.length + ((msT s).ns.length + (msT s).ar.length) := by unfold Ms.recs; rw [List.length_append, List.length_append]
  refine ⟨⟨by omega, fun r hr => ?_⟩, may_sm (by omega) (fun r hr => ⟨h2.an r hr, h1.an.2 r hr⟩), may_sm (by omega) (fun r hr => ⟨h2.ns r hr, h1.ns.2 r hr⟩), may_sm (by omega) (fun r hr => ⟨h2.ar r hr, h1.ar.2 r hr⟩)⟩
  obtain ⟨k1, k2⟩ := h2.q r hr
  have k3 := (may_name (h1.q.2 r hr)).size
  refine ⟨by omega, ?_, k1⟩
  rw [k2]
  show (⟨#[]⟩ : ByteArray).size ≤ _
  decide
theorem SmM.big {m : Ms} (h : SmM m) : m.q.length ≤ 9223372036854775807 ∧ m.an.length ≤ 9223372036854775807 ∧ m.ns.length ≤ 9223372036854775807 ∧ m.ar.length ≤ 9223372036854775807 := by
  have h1 := h.q.len; have h2 := h.an.len; have h3 := h.ns.len; have h4 := h.ar.len
  omega

set_option maxRecDepth 100000 in
set_option maxHeartbeats 4000000 in
theorem very_walk6 (s : ByteArray) (hs0 : s.size ≤ 140737488355328) (w : World) (hL : Lay w) :
    Calls Tryd.prog 4 #[.string s] w fun e w' => e = .returned (.bool true) ∧ Below w.heap.size w w' := by
  have HL := Lib.hid hL
  have H0 := Lib.hid (lay_lt hL)
  clear hL
  go_enter Tryd.func4, Tryd.ntmps4
  go_wp2_with fail
  refine (mshown_any _ HL.out).mono ?_
  rintro e w1 ⟨rfl, hb1⟩
  have HB1 := Lib.hid hb1
  clear hb1
  by_cases hs : s.size ≤ 1500
  rotate_left
  · have d1 : decide ((s.size : Int) > 1500) = true := by simp; omega
    clear hs
    go_wp2_with fail
    go_ret
    exact ⟨rfl, HB1.out⟩
  have d1 : decide ((s.size : Int) > 1500) = false := by simp; omega
  go_wp2_with fail
  refine (takem_any s (by omega) _ (HL.out.below H0.out HB1.out)).mono ?_
  rintro e w2 ⟨d, rfl, hg2, hb2⟩
  have hB2 := HB1.out.trans (hb2.mono HB1.out.size)
  cases hk : okT s with
  | false =>
    obtain ⟨e1, e2⟩ := tm_no hk
    rw [e1] at hg2
    rw [e1, e2]
    have HX2 := Lib.hid (bx_zero w2)
    obtain ⟨w3, hw3⟩ : ∃ w3, w3 = bxM w2 zMs d := ⟨_, rfl⟩
    have hv := bx_below w2 zMs d
    have hx := bx_at w2 zMs d
    rw [← hw3] at hv hx
    have m0 : w3.cell? ⟨w2.heap.size, 0, none⟩ = some (.int .u16 0) := blk_cell (hx) 0
    have m1 : w3.cell? ⟨w2.heap.size, 1, none⟩ = some (.bool false) := blk_cell (hx) 1
    have m2 : w3.cell? ⟨w2.heap.size, 2, none⟩ = some (.bool false) := blk_cell (hx) 2
    have m3 : w3.cell? ⟨w2.heap.size, 3, none⟩ = some (.bool false) := blk_cell (hx) 3
    have m4 : w3.cell? ⟨w2.heap.size, 4, none⟩ = some (.bool false) := blk_cell (hx) 4
    have m5 : w3.cell? ⟨w2.heap.size, 5, none⟩ = some (.bool false) := blk_cell (hx) 5
    have m6 : w3.cell? ⟨w2.heap.size, 6, none⟩ = some (.int .i64 0) := blk_cell (hx) 6
    have m7 : w3.cell? ⟨w2.heap.size, 7, none⟩ = some (.int .i64 0) := blk_cell (hx) 7
    have m8 : w3.cell? ⟨w2.heap.size, 8, none⟩ = some (.slice d.aq 0 d.cq) := blk_cell (hx) 8
    have m9 : w3.cell? ⟨w2.heap.size, 9, none⟩ = some (.slice d.a1 0 d.c1) := blk_cell (hx) 9
    have m10 : w3.cell? ⟨w2.heap.size, 10, none⟩ = some (.slice d.a2 0 d.c2) := blk_cell (hx) 10
    have m11 : w3.cell? ⟨w2.heap.size, 11, none⟩ = some (.slice d.a3 0 d.c3) := blk_cell (hx) 11
    have HG3 := Lib.hid (hg2.below hv)
    have HB3 := Lib.hid (hB2.trans (hv.mono hB2.size))
    have HW3 := Lib.hid (show w3 = (w2.alloc (Obj.cells (msV zMs zAd) 26)).setRow w2.heap.size (msV zMs d) from hw3)
    clear hk e1 e2 hg2 hb2 hB2 hw3 hv hx
    go_wp2_with (refine wpList_store_row rfl 26 _ _ rfl w2.heap.size (msV zMs d) rfl rfl 26 (msV zMs zAd) HX2.out infoM rfl (msV_all _ _) ?_; rw [show Obj.cells #[Value.int IntKind.u16 0, .bool false, .bool false, .bool false, .bool false, .bool false, .int .i64 0, .int .i64 0, .slice none 0 0, .slice none 0 0, .slice none 0 0, .slice none 0 0] 26 = Obj.cells (msV zMs zAd) 26 from rfl, ← HW3.out])
    refine (samem_yes zMs d zAd (by decide) (by decide) (by decide) (by decide) _ HG3.out (zMg _)).mono ?_
    rintro e w4 ⟨rfl, hb4⟩
    have HB4 := Lib.hid (HB3.out.trans (hb4.mono HB3.out.size))
    clear hb4
    go_wp2_with fail
    go_ret
    exact ⟨rfl, HB4.out⟩
  | true =>
    obtain ⟨e1, e2⟩ := tm_yes hk
    rw [e1] at hg2
    rw [e1, e2]
    have ht := tk_of hk
    obtain ⟨t1, t2, t3, t4⟩ := ht.may
    have HSm := Lib.hid (ht.sm hs)
    have HOk := Lib.hid t2
    have HM := Lib.hid t1
    clear hk e1 e2 ht t1 t2 t3 t4
    generalize msT s = m at *
    have HX2 := Lib.hid (bx_zero w2)
    obtain ⟨w3, hw3⟩ : ∃ w3, w3 = bxM w2 m d := ⟨_, rfl⟩
    have hv := bx_below w2 m d
    have hx := bx_at w2 m d
    rw [← hw3] at hv hx
    have HX3 := Lib.hid hx
    have HG3 := Lib.hid (hg2.below hv)
    have HB3 := Lib.hid (hB2.trans (hv.mono hB2.size))
    have HW3 := Lib.hid (show w3 = (w2.alloc (Obj.cells (msV zMs zAd) 26)).setRow w2.heap.size (msV m d) from hw3)
    clear hg2 hb2 hB2 hw3 hv hx
    go_upto_region 5 with (refine wpList_store_row rfl 26 _ _ rfl w2.heap.size (msV m d) rfl rfl 26 (msV zMs zAd) HX2.out infoM rfl (msV_all _ _) ?_; rw [show Obj.cells #[Value.int IntKind.u16 0, .bool false, .bool false, .bool false, .bool false, .bool false, .int .i64 0, .int .i64 0, .slice none 0 0, .slice none 0 0, .slice none 0 0, .slice none 0 0] 26 = Obj.cells (msV zMs zAd) 26 from rfl, ← HW3.out])
    clear HW3 HX2
    go_wp2_with (refine wpList_load_row rfl 26 _ rfl w2.heap.size rfl 26 _ _ _ HX3.out Tryd.underlying26 rfl (infoM' m d) ?_)
    refine (putm_any m d HOk.out HSm.out _ HG3.out (HL.out.below H0.out HB3.out)).mono ?_
    rintro e w4 ⟨rfl, hb4⟩
    have HB4 := Lib.hid (HB3.out.trans (hb4.mono HB3.out.size))
    have HX4 := Lib.hid ((hb4.block _ (heap_lt HX3.out)).trans HX3.out)
    have HG4 := Lib.hid (HG3.out.below hb4)
    clear hb4 HX3 HG3 HB3
    by_cases hlen : (encM m).1.length ≤ 65535
    · obtain ⟨p1, p2⟩ := pm_yes (mayM_iff.2 HM.out) hlen
      obtain ⟨o1, o2⟩ := enc_ok HM.out HOk.out
      obtain ⟨q1, q2⟩ := tm_yes o1
      rw [o2] at q1
      rw [p1, p2]
      have hsz : (⟨(encM m).1.toArray⟩ : ByteArray).size ≤ 65535 := by rw [mk_size]; exact hlen
      have HK := Lib.hid (fun w' hL' => takem_any ⟨(encM m).1.toArray⟩ (by omega) w' hL')
      rw [q1, q2] at HK
      clear p1 p2 o1 o2 q1 q2 hlen
      generalize (⟨(encM m).1.toArray⟩ : ByteArray) = S at *
      go_wp2_with fail
      refine (HK.out _ (HL.out.below H0.out HB4.out)).mono ?_
      rintro e w5 ⟨d5, rfl, hg5, hb5⟩
      have hB5 := HB4.out.trans (hb5.mono HB4.out.size)
      have HX5 := Lib.hid (bx_zero w5)
      obtain ⟨w6, hw6⟩ : ∃ w6, w6 = bxM w5 m d5 := ⟨_, rfl⟩
      have hv := bx_below w5 m d5
      have hx := bx_at w5 m d5
      rw [← hw6] at hv hx
      have h46 := hb5.trans (hv.mono hb5.size)
      have hy := (h46.block _ (heap_lt HX4.out)).trans HX4.out
      have a0 : w6.cell? ⟨w2.heap.size, 0, none⟩ = some (.int .u16 (m.id : Nat)) := blk_cell (hy) 0
      have a1 : w6.cell? ⟨w2.heap.size, 1, none⟩ = some (.bool m.qr) := blk_cell (hy) 1
      have a2 : w6.cell? ⟨w2.heap.size, 2, none⟩ = some (.bool m.aa) := blk_cell (hy) 2
      have a3 : w6.cell? ⟨w2.heap.size, 3, none⟩ = some (.bool m.tc) := blk_cell (hy) 3
      have a4 : w6.cell? ⟨w2.heap.size, 4, none⟩ = some (.bool m.rd) := blk_cell (hy) 4
      have a5 : w6.cell? ⟨w2.heap.size, 5, none⟩ = some (.bool m.ra) := blk_cell (hy) 5
      have a6 : w6.cell? ⟨w2.heap.size, 6, none⟩ = some (.int .i64 m.op) := blk_cell (hy) 6
      have a7 : w6.cell? ⟨w2.heap.size, 7, none⟩ = some (.int .i64 m.rc) := blk_cell (hy) 7
      have a8 : w6.cell? ⟨w2.heap.size, 8, none⟩ = some (.slice d.aq m.q.length d.cq) := blk_cell (hy) 8
      have a9 : w6.cell? ⟨w2.heap.size, 9, none⟩ = some (.slice d.a1 m.an.length d.c1) := blk_cell (hy) 9
      have a10 : w6.cell? ⟨w2.heap.size, 10, none⟩ = some (.slice d.a2 m.ns.length d.c2) := blk_cell (hy) 10
      have a11 : w6.cell? ⟨w2.heap.size, 11, none⟩ = some (.slice d.a3 m.ar.length d.c3) := blk_cell (hy) 11
      have HX6 := Lib.hid hx
      have HY6 := Lib.hid hy
      have HG6 := Lib.hid (hg5.below hv)
      have HH6 := Lib.hid (HG4.out.below h46)
      have HB6 := Lib.hid (hB5.trans (hv.mono hB5.size))
      have HW6 := Lib.hid (show w6 = (w5.alloc (Obj.cells (msV zMs zAd) 26)).setRow w5.heap.size (msV m d5) from hw6)
      have HMy := Lib.hid (fun w' hI' hL' => maym_any m d HSm.out w' hI' hL')
      rw [mayM_iff.2 HM.out] at HMy
      clear hg5 hb5 hB5 hw6 hv hx h46 hy HX4 HG4
      go_wp2_with (refine wpList_store_row rfl 26 _ _ rfl w5.heap.size (msV m d5) rfl rfl 26 (msV zMs zAd) HX5.out infoM rfl (msV_all _ _) ?_; rw [show Obj.cells #[Value.int IntKind.u16 0, .bool false, .bool false, .bool false, .bool false, .bool false, .int .i64 0, .int .i64 0, .slice none 0 0, .slice none 0 0, .slice none 0 0, .slice none 0 0] 26 = Obj.cells (msV zMs zAd) 26 from rfl, ← HW6.out])
      refine (HMy.out _ HH6.out (HL.out.below H0.out HB6.out)).mono ?_
      rintro e w7 ⟨rfl, hb7⟩
      have hy7 := (hb7.block _ (heap_lt HY6.out)).trans HY6.out
      have hx7 := (hb7.block _ (heap_lt HX6.out)).trans HX6.out
      clear a0 a1 a2 a3 a4 a5 a6 a7 a8 a9 a10 a11
      have a0 : w7.cell? ⟨w2.heap.size, 0, none⟩ = some (.int .u16 (m.id : Nat)) := blk_cell (hy7) 0
      have a1 : w7.cell? ⟨w2.heap.size, 1, none⟩ = some (.bool m.qr) := blk_cell (hy7) 1
      have a2 : w7.cell? ⟨w2.heap.size, 2, none⟩ = some (.bool m.aa) := blk_cell (hy7) 2
      have a3 : w7.cell? ⟨w2.heap.size, 3, none⟩ = some (.bool m.tc) := blk_cell (hy7) 3
      have a4 : w7.cell? ⟨w2.heap.size, 4, none⟩ = some (.bool m.rd) := blk_cell (hy7) 4
      have a5 : w7.cell? ⟨w2.heap.size, 5, none⟩ = some (.bool m.ra) := blk_cell (hy7) 5
      have a6 : w7.cell? ⟨w2.heap.size, 6, none⟩ = some (.int .i64 m.op) := blk_cell (hy7) 6
      have a7 : w7.cell? ⟨w2.heap.size, 7, none⟩ = some (.int .i64 m.rc) := blk_cell (hy7) 7
      have a8 : w7.cell? ⟨w2.heap.size, 8, none⟩ = some (.slice d.aq m.q.length d.cq) := blk_cell (hy7) 8
      have a9 : w7.cell? ⟨w2.heap.size, 9, none⟩ = some (.slice d.a1 m.an.length d.c1) := blk_cell (hy7) 9
      have a10 : w7.cell? ⟨w2.heap.size, 10, none⟩ = some (.slice d.a2 m.ns.length d.c2) := blk_cell (hy7) 10
      have a11 : w7.cell? ⟨w2.heap.size, 11, none⟩ = some (.slice d.a3 m.ar.length d.c3) := blk_cell (hy7) 11
      have b0 : w7.cell? ⟨w5.heap.size, 0, none⟩ = some (.int .u16 (m.id : Nat)) := blk_cell (hx7) 0
      have b1 : w7.cell? ⟨w5.heap.size, 1, none⟩ = some (.bool m.qr) := blk_cell (hx7) 1
      have b2 : w7.cell? ⟨w5.heap.size, 2, none⟩ = some (.bool m.aa) := blk_cell (hx7) 2
      have b3 : w7.cell? ⟨w5.heap.size, 3, none⟩ = some (.bool m.tc) := blk_cell (hx7) 3
      have b4 : w7.cell? ⟨w5.heap.size, 4, none⟩ = some (.bool m.rd) := blk_cell (hx7) 4
      have b5 : w7.cell? ⟨w5.heap.size, 5, none⟩ = some (.bool m.ra) := blk_cell (hx7) 5
      have b6 : w7.cell? ⟨w5.heap.size, 6, none⟩ = some (.int .i64 m.op) := blk_cell (hx7) 6
      have b7 : w7.cell? ⟨w5.heap.size, 7, none⟩ = some (.int .i64 m.rc) := blk_cell (hx7) 7
      have b8 : w7.cell? ⟨w5.heap.size, 8, none⟩ = some (.slice d5.aq m.q.length d5.cq) := blk_cell (hx7) 8
      have b9 : w7.cell? ⟨w5.heap.size, 9, none⟩ = some (.slice d5.a1 m.an.length d5.c1) := blk_cell (hx7) 9
      have b10 : w7.cell? ⟨w5.heap.size, 10, none⟩ = some (.slice d5.a2 m.ns.length d5.c2) := blk_cell (hx7) 10
      have b11 : w7.cell? ⟨w5.heap.size, 11, none⟩ = some (.slice d5.a3 m.ar.length d5.c3) := blk_cell (hx7) 11
      have HB7 := Lib.hid (HB6.out.trans (hb7.mono HB6.out.size))
      have HG7 := Lib.hid (HG6.out.below hb7)
      have HH7 := Lib.hid (HH6.out.below hb7)
      clear hb7 hy7 hx7
      go_wp2_with fail
      refine (samem_yes m d5 d HSm.out.big.1 HSm.out.big.2.1 HSm.out.big.2.2.1 HSm.out.big.2.2.2 _ HG7.out HH7.out).mono ?_
      rintro e w8 ⟨rfl, hb8⟩
      have HB8 := Lib.hid (HB7.out.trans (hb8.mono HB7.out.size))
      clear hb8
      go_wp2_with fail
      go_ret
      exact ⟨rfl, HB8.out⟩
    · obtain ⟨p1, p2⟩ := pm_long (mayM_iff.2 HM.out) (by omega)
      rw [p1, p2]
      clear p1 p2 hlen
      go_wp2_with fail
      refine (takem_any ⟨#[]⟩ (by decide) _ (HL.out.below H0.out HB4.out)).mono ?_
      rintro e w5 ⟨d5, rfl, hg5, hb5⟩
      generalize tmM ⟨#[]⟩ = m5 at *
      generalize tmE ⟨#[]⟩ = E5 at *
      have hB5 := HB4.out.trans (hb5.mono HB4.out.size)
      have HX5 := Lib.hid (bx_zero w5)
      obtain ⟨w6, hw6⟩ : ∃ w6, w6 = bxM w5 m5 d5 := ⟨_, rfl⟩
      have hv := bx_below w5 m5 d5
      rw [← hw6] at hv
      have h46 := hb5.trans (hv.mono hb5.size)
      have hy := (h46.block _ (heap_lt HX4.out)).trans HX4.out
      have a0 : w6.cell? ⟨w2.heap.size, 0, none⟩ = some (.int .u16 (m.id : Nat)) := blk_cell (hy) 0
      have a1 : w6.cell? ⟨w2.heap.size, 1, none⟩ = some (.bool m.qr) := blk_cell (hy) 1
      have a2 : w6.cell? ⟨w2.heap.size, 2, none⟩ = some (.bool m.aa) := blk_cell (hy) 2
      have a3 : w6.cell? ⟨w2.heap.size, 3, none⟩ = some (.bool m.tc) := blk_cell (hy) 3
      have a4 : w6.cell? ⟨w2.heap.size, 4, none⟩ = some (.bool m.rd) := blk_cell (hy) 4
      have a5 : w6.cell? ⟨w2.heap.size, 5, none⟩ = some (.bool m.ra) := blk_cell (hy) 5
      have a6 : w6.cell? ⟨w2.heap.size, 6, none⟩ = some (.int .i64 m.op) := blk_cell (hy) 6
      have a7 : w6.cell? ⟨w2.heap.size, 7, none⟩ = some (.int .i64 m.rc) := blk_cell (hy) 7
      have a8 : w6.cell? ⟨w2.heap.size, 8, none⟩ = some (.slice d.aq m.q.length d.cq) := blk_cell (hy) 8
      have a9 : w6.cell? ⟨w2.heap.size, 9, none⟩ = some (.slice d.a1 m.an.length d.c1) := blk_cell (hy) 9
      have a10 : w6.cell? ⟨w2.heap.size, 10, none⟩ = some (.slice d.a2 m.ns.length d.c2) := blk_cell (hy) 10
      have a11 : w6.cell? ⟨w2.heap.size, 11, none⟩ = some (.slice d.a3 m.ar.length d.c3) := blk_cell (hy) 11
      have HH6 := Lib.hid (HG4.out.below h46)
      have HB6 := Lib.hid (hB5.trans (hv.mono hB5.size))
      have HW6 := Lib.hid (show w6 = (w5.alloc (Obj.cells (msV zMs zAd) 26)).setRow w5.heap.size (msV m5 d5) from hw6)
      have HMy := Lib.hid (fun w' hI' hL' => maym_any m d HSm.out w' hI' hL')
      rw [mayM_iff.2 HM.out] at HMy
      clear hg5 hb5 hB5 hw6 hv h46 hy HX4 HG4
      go_wp2_with (refine wpList_store_row rfl 26 _ _ rfl w5.heap.size (msV m5 d5) rfl rfl 26 (msV zMs zAd) HX5.out infoM rfl (msV_all _ _) ?_; rw [show Obj.cells #[Value.int IntKind.u16 0, .bool false, .bool false, .bool false, .bool false, .bool false, .int .i64 0, .int .i64 0, .slice none 0 0, .slice none 0 0, .slice none 0 0, .slice none 0 0] 26 = Obj.cells (msV zMs zAd) 26 from rfl, ← HW6.out])
      refine (HMy.out _ HH6.out (HL.out.below H0.out HB6.out)).mono ?_
      rintro e w7 ⟨rfl, hb7⟩
      have HB7 := Lib.hid (HB6.out.trans (hb7.mono HB6.out.size))
      clear hb7
      go_wp2_with fail
      go_ret
      exact ⟨rfl, HB7.out⟩
end Go.Proofs.YtnakljbginbenaaDoor
