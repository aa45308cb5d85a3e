/- The walk of derricklaw06.MessageBack: what may be, and isn't too long, is taken as it was put; with a byte more, or less, it isn't; its header is told, too. -/
import Derived.Test.YtnakljbginbenaaDoorLmv
import Derived.Test.YtnakljbginbenaaDoorMmo
namespace Go.Proofs.YtnakljbginbenaaDoor
open Go.RowKit
set_option linter.unusedVariables false

/-- With a byte more, or less. -/
theorem back_more {m : Ms} (h : MayM m) (hok : m.Ok) (b : UInt8) : okT (⟨(encM m).1.toArray⟩ ++ ⟨#[b]⟩) = false := enc_more h hok (Y := [b]) (by simp) (by rw [ByteArray.data_append, Array.toList_append])
theorem back_less {m : Ms} (h : MayM m) (hok : m.Ok) {n : Nat} (hn : n + 1 = (encM m).1.length) : okT ((⟨(encM m).1.toArray⟩ : ByteArray).extract 0 n) = false := by
  refine enc_less h hok (X := (encM m).1.drop n) (fun h0 => ?_) ?_
  · have := congrArg List.length h0
    rw [List.length_drop] at this
    simp at this
    omega
  · rw [extract_list]
    simp
def hdO (m : Ms) : Ms := { m with q := [], an := [], ns := [], ar := [] }
theorem back_head {m : Ms} (h : MayM m) (hok : m.Ok) : hmT ⟨(encM m).1.toArray⟩ = (hdO m) ∧ hmE ⟨(encM m).1.toArray⟩ = 0 ∧ 12 ≤ (encM m).1.length := by
  obtain ⟨h1, _, h3, _⟩ := enc_taken h hok (s := ⟨(encM m).1.toArray⟩) (Y := []) (by simp)
  exact ⟨(if_pos h1).trans h3, if_pos h1, by rw [mk_size] at h1; exact h1⟩

theorem conv1 (a : UInt8) (W : World) : (convert 34 9 (.slice (some ⟨W.heap.size, 0, none⟩) 1 1)).run Tryd.prog (W.alloc (.cells #[.int .u8 (a.toNat : Int)] 5)) =
    .ok (.string ⟨#[a]⟩) (W.alloc (.cells #[.int .u8 (a.toNat : Int)] 5)) := by
  have h := run_convert_bytes_back (P := Tryd.prog) (W.alloc (.cells #[.int .u8 (a.toNat : Int)] 5)) 34 9 5 ⟨W.heap.size, 0, none⟩ 1 [a] Tryd.underlying34 Tryd.underlying5 Tryd.underlying9 (by
    intro j hj
    have hj' : j = 0 := by simp at hj; omega
    subst hj'
    simp [Addr.add])
  exact h
set_option maxRecDepth 100000 in
set_option maxHeartbeats 4000000 in
theorem back_walk6 (m : Ms) (d : Ad) (k : Nat) (hok : m.Ok) (hk : k < 256) (w : World) (hI : Mg w m d) (hL : Lay w) :
    Calls Tryd.prog 3 #[.agg (msV m d), .int .u8 (k : Nat)] w fun e w' => e = .returned (.bool true) ∧ Below w.heap.size w w' := by
  have hbox := World.alloc_heap_new w (Obj.cells (msV m d) 26)
  have hal := (Below.refl w.heap.size w).alloc (Nat.le_refl _) (Obj.cells (msV m d) 26)
  obtain ⟨w1, hw1⟩ : ∃ w1, w1 = w.alloc (Obj.cells (msV m d) 26) := ⟨_, rfl⟩
  rw [← hw1] at hbox hal
  have hblk : ∀ W, Below w1.heap.size w1 W → W.heap[w.heap.size]? = some (.cells (msV m d) 26 (0, 0)) := fun W hW => (hW.block _ (heap_lt hbox)).trans hbox
  have HW := Lib.hid hw1
  have HX := Lib.hid hblk
  have HAl := Lib.hid hal
  have HI := Lib.hid (hI.below hal)
  have HL := Lib.hid (hL.below (lay_lt hL) hal)
  have H0 := Lib.hid (lay_lt (hL.below (lay_lt hL) hal))
  have HOk := Lib.hid hok
  clear hbox hal hw1 hI hL hok hblk
  go_enter Tryd.func3, Tryd.ntmps3
  go_upto_region 1 with (fail)
  rw [← HW.out]
  clear HW
  go_wp2_with fail
  refine (mshown_any _ HL.out).mono ?_
  rintro e w2 ⟨rfl, hb2⟩
  have HB2 := Lib.hid hb2
  have HX2 := Lib.hid (HX.out _ hb2)
  clear hb2
  go_wp2_with (refine wpList_load_row rfl 26 _ rfl w.heap.size rfl 26 _ _ _ HX2.out Tryd.underlying26 rfl (infoM' m d) ?_)
  refine (fewm_any m d _ (HI.out.below HB2.out)).mono ?_
  rintro e w3 ⟨rfl, hb3⟩
  have HB3 := Lib.hid (HB2.out.trans (hb3.mono HB2.out.size))
  have HX3 := Lib.hid (HX.out _ HB3.out)
  clear hb3 HX2 HB2
  cases hf : fewM m with
  | false =>
    clear hf
    go_wp2_with fail
    go_ret
    exact ⟨rfl, HAl.out.trans (HB3.out.mono HAl.out.size)⟩
  | true =>
    have HSm := Lib.hid (fewM_sm hf HOk.out)
    clear hf
    go_wp2_with (refine wpList_load_row rfl 26 _ rfl w.heap.size rfl 26 _ _ _ HX3.out Tryd.underlying26 rfl (infoM' m d) ?_)
    refine (putm_any m d HOk.out HSm.out _ (HI.out.below HB3.out) (HL.out.below H0.out HB3.out)).mono ?_
    rintro e w4 ⟨rfl, hb4⟩
    have HB4 := Lib.hid (HB3.out.trans (hb4.mono HB3.out.size))
    clear hb4 HX3 HB3
    cases hmm : mayM m with
    | false =>
      obtain ⟨p1, p2⟩ := pm_no hmm
      rw [p1, p2]
      have HMy := Lib.hid (fun w' hI' hL' => maym_any m d HSm.out w' hI' hL')
      rw [hmm] at HMy
      have hy := HX.out _ HB4.out
      have a0 : w4.cell? ⟨w.heap.size, 0, none⟩ = some (.int .u16 (m.id : Nat)) := blk_cell (hy) 0
      have a1 : w4.cell? ⟨w.heap.size, 1, none⟩ = some (.bool m.qr) := blk_cell (hy) 1
      have a2 : w4.cell? ⟨w.heap.size, 2, none⟩ = some (.bool m.aa) := blk_cell (hy) 2
      have a3 : w4.cell? ⟨w.heap.size, 3, none⟩ = some (.bool m.tc) := blk_cell (hy) 3
      have a4 : w4.cell? ⟨w.heap.size, 4, none⟩ = some (.bool m.rd) := blk_cell (hy) 4
      have a5 : w4.cell? ⟨w.heap.size, 5, none⟩ = some (.bool m.ra) := blk_cell (hy) 5
      have a6 : w4.cell? ⟨w.heap.size, 6, none⟩ = some (.int .i64 m.op) := blk_cell (hy) 6
      have a7 : w4.cell? ⟨w.heap.size, 7, none⟩ = some (.int .i64 m.rc) := blk_cell (hy) 7
      have a8 : w4.cell? ⟨w.heap.size, 8, none⟩ = some (.slice d.aq m.q.length d.cq) := blk_cell (hy) 8
      have a9 : w4.cell? ⟨w.heap.size, 9, none⟩ = some (.slice d.a1 m.an.length d.c1) := blk_cell (hy) 9
      have a10 : w4.cell? ⟨w.heap.size, 10, none⟩ = some (.slice d.a2 m.ns.length d.c2) := blk_cell (hy) 10
      have a11 : w4.cell? ⟨w.heap.size, 11, none⟩ = some (.slice d.a3 m.ar.length d.c3) := blk_cell (hy) 11
      clear hmm p1 p2 hy
      go_wp2_with fail
      refine (HMy.out _ (HI.out.below HB4.out) (HL.out.below H0.out HB4.out)).mono ?_
      rintro e w5 ⟨rfl, hb5⟩
      have HB5 := Lib.hid (HB4.out.trans (hb5.mono HB4.out.size))
      clear hb5
      go_wp2_with fail
      go_ret
      exact ⟨rfl, HAl.out.trans (HB5.out.mono HAl.out.size)⟩
    | true =>
      by_cases hlen : (encM m).1.length ≤ 65535
      rotate_left
      · obtain ⟨p1, p2⟩ := pm_long hmm (by omega)
        rw [p1, p2]
        clear hmm p1 p2 hlen
        go_wp2_with fail
        go_ret
        exact ⟨rfl, HAl.out.trans (HB4.out.mono HAl.out.size)⟩
      obtain ⟨p1, p2⟩ := pm_yes hmm hlen
      have hM := mayM_iff.1 hmm
      obtain ⟨o1, o2⟩ := enc_ok hM HOk.out
      obtain ⟨q1, q2⟩ := tm_yes o1
      rw [o2] at q1
      obtain ⟨u1, u2, u3⟩ := back_head hM HOk.out
      obtain ⟨v1, v2⟩ := tm_no (back_more hM HOk.out (UInt8.ofNat k))
      obtain ⟨n, hn⟩ : ∃ n, n + 1 = (encM m).1.length := ⟨(encM m).1.length - 1, by omega⟩
      obtain ⟨x1, x2⟩ := tm_no (back_less hM HOk.out hn)
      have hsz : (⟨(encM m).1.toArray⟩ : ByteArray).size = n + 1 := by rw [mk_size, hn]
      rw [p1, p2]
      have HK := Lib.hid (fun w' hL' => takem_any ⟨(encM m).1.toArray⟩ (by omega) w' hL')
      have HKm := Lib.hid (fun w' hL' => takem_any (⟨(encM m).1.toArray⟩ ++ ⟨#[UInt8.ofNat k]⟩) (by rw [ByteArray.size_append, hsz]; show n + 1 + 1 ≤ _; omega) w' hL')
      have HKl := Lib.hid (fun w' hL' => takem_any ((⟨(encM m).1.toArray⟩ : ByteArray).extract 0 n) (by rw [ByteArray.size_extract]; omega) w' hL')
      have HKh := Lib.hid (fun w' => header_any ⟨(encM m).1.toArray⟩ (by omega) w')
      rw [q1, q2] at HK
      rw [v1, v2] at HKm
      rw [x1, x2] at HKl
      rw [u1, u2] at HKh
      have hn12 : 12 ≤ n + 1 := by omega
      have hn65 : n + 1 ≤ 65535 := by omega
      have d12 : decide (((n + 1 : Nat) : Int) < 12) = false := by simp; omega
      clear hmm p1 p2 o1 o2 q1 q2 u1 u2 u3 v1 v2 x1 x2 hM hlen hn
      generalize (⟨(encM m).1.toArray⟩ : ByteArray) = S at *
      go_wp2_with fail
      refine (HK.out _ (HL.out.below H0.out HB4.out)).mono ?_
      rintro e w5 ⟨d5, rfl, hg5, hb5⟩
      have hB5 := HB4.out.trans (hb5.mono HB4.out.size)
      have HZ5 := Lib.hid (bx_zero w5)
      obtain ⟨w6, hw6⟩ : ∃ y, y = bxM w5 m d5 := ⟨_, rfl⟩
      have hv := bx_below w5 m d5
      have hx := bx_at w5 m d5
      rw [← hw6] at hv hx
      have HX6 := Lib.hid hx
      have HG6 := Lib.hid (hg5.below hv)
      have HB6 := Lib.hid (hB5.trans (hv.mono hB5.size))
      have HW6 := Lib.hid (show w6 = (w5.alloc (Obj.cells (msV zMs zAd) 26)).setRow w5.heap.size (msV m d5) from hw6)
      clear hg5 hb5 hB5 hw6 hv hx HB4 HK
      go_upto_region 10 with (refine wpList_store_row rfl 26 _ _ rfl w5.heap.size (msV m d5) rfl rfl 26 (msV zMs zAd) HZ5.out infoM rfl (msV_all _ _) ?_; rw [show Obj.cells #[Value.int IntKind.u16 0, .bool false, .bool false, .bool false, .bool false, .bool false, .int .i64 0, .int .i64 0, .slice none 0 0, .slice none 0 0, .slice none 0 0, .slice none 0 0] 26 = Obj.cells (msV zMs zAd) 26 from rfl, ← HW6.out])
      clear HW6 HZ5
      have hcv := conv1 (UInt8.ofNat k) w6
      have hku : (((UInt8.ofNat k).toNat : Nat) : Int) = (k : Int) := by rw [UInt8.toNat_ofNat', Nat.mod_eq_of_lt (by omega)]
      rw [hku] at hcv
      have h7 := (Below.refl w6.heap.size w6).alloc (Nat.le_refl _) (Obj.cells #[.int .u8 (k : Int)] 5)
      have HB7 := Lib.hid (HB6.out.trans (h7.mono HB6.out.size))
      have HG7 := Lib.hid (HG6.out.below h7)
      have HX7 := Lib.hid ((h7.block _ (heap_lt HX6.out)).trans HX6.out)
      clear h7 hku HB6 HG6 HX6
      go_wp2_with fail
      refine (HKm.out _ (HL.out.below H0.out HB7.out)).mono ?_
      rintro e w8 ⟨d8, rfl, hg8, hb8⟩
      clear hcv
      have hB8 := HB7.out.trans (hb8.mono HB7.out.size)
      have HZ8 := Lib.hid (bx_zero w8)
      obtain ⟨w9, hw9⟩ : ∃ y, y = bxM w8 zMs d8 := ⟨_, rfl⟩
      have hv := bx_below w8 zMs d8
      have hx := bx_at w8 zMs d8
      rw [← hw9] at hv hx
      have h89 := hb8.trans (hv.mono hb8.size)
      have HX9 := Lib.hid ((h89.block _ (heap_lt HX7.out)).trans HX7.out)
      have HG9 := Lib.hid (HG7.out.below h89)
      have HB9 := Lib.hid (hB8.trans (hv.mono hB8.size))
      have HW9 := Lib.hid (show w9 = (w8.alloc (Obj.cells (msV zMs zAd) 26)).setRow w8.heap.size (msV zMs d8) from hw9)
      clear hg8 hb8 hB8 hw9 hv hx h89 HX7 HG7 HB7 HKm
      go_upto_region 11 with (refine wpList_store_row rfl 26 _ _ rfl w8.heap.size (msV zMs d8) rfl rfl 26 (msV zMs zAd) HZ8.out infoM rfl (msV_all _ _) ?_; rw [show Obj.cells #[Value.int IntKind.u16 0, .bool false, .bool false, .bool false, .bool false, .bool false, .int .i64 0, .int .i64 0, .slice none 0 0, .slice none 0 0, .slice none 0 0, .slice none 0 0] 26 = Obj.cells (msV zMs zAd) 26 from rfl, ← HW9.out])
      clear HW9 HZ8
      go_wp2_with fail
      refine (HKl.out _ (HL.out.below H0.out HB9.out)).mono ?_
      rintro e w10 ⟨d10, rfl, hg10, hb10⟩
      have hB10 := HB9.out.trans (hb10.mono HB9.out.size)
      have HZ10 := Lib.hid (bx_zero w10)
      obtain ⟨w11, hw11⟩ : ∃ y, y = bxM w10 zMs d10 := ⟨_, rfl⟩
      have hv := bx_below w10 zMs d10
      have hx := bx_at w10 zMs d10
      rw [← hw11] at hv hx
      have h911 := hb10.trans (hv.mono hb10.size)
      have HX11 := Lib.hid ((h911.block _ (heap_lt HX9.out)).trans HX9.out)
      have HG11 := Lib.hid (HG9.out.below h911)
      have HB11 := Lib.hid (hB10.trans (hv.mono hB10.size))
      have HW11 := Lib.hid (show w11 = (w10.alloc (Obj.cells (msV zMs zAd) 26)).setRow w10.heap.size (msV zMs d10) from hw11)
      clear hg10 hb10 hB10 hw11 hv hx h911 HX9 HG9 HB9 HKl
      go_upto_region 12 with (refine wpList_store_row rfl 26 _ _ rfl w10.heap.size (msV zMs d10) rfl rfl 26 (msV zMs zAd) HZ10.out infoM rfl (msV_all _ _) ?_; rw [show Obj.cells #[Value.int IntKind.u16 0, .bool false, .bool false, .bool false, .bool false, .bool false, .int .i64 0, .int .i64 0, .slice none 0 0, .slice none 0 0, .slice none 0 0, .slice none 0 0] 26 = Obj.cells (msV zMs zAd) 26 from rfl, ← HW11.out])
      clear HW11 HZ10
      go_wp2_with fail
      refine (HKh.out _).mono ?_
      rintro e w12 ⟨rfl, hb12⟩
      have hB12 := HB11.out.trans (hb12.mono HB11.out.size)
      have HZ12 := Lib.hid (bx_zero w12)
      obtain ⟨w13, hw13⟩ : ∃ y, y = bxM w12 (hdO m) zAd := ⟨_, rfl⟩
      have hv := bx_below w12 (hdO m) zAd
      have hx := bx_at w12 (hdO m) zAd
      rw [← hw13] at hv hx
      have h1113 := hb12.trans (hv.mono hb12.size)
      have hB13 := hB12.trans (hv.mono hB12.size)
      have hx13 := (h1113.block _ (heap_lt HX11.out)).trans HX11.out
      have hym := HX.out _ hB13
      have a0 : w13.cell? ⟨w5.heap.size, 0, none⟩ = some (.int .u16 (m.id : Nat)) := blk_cell (hx13) 0
      have a1 : w13.cell? ⟨w5.heap.size, 1, none⟩ = some (.bool m.qr) := blk_cell (hx13) 1
      have a2 : w13.cell? ⟨w5.heap.size, 2, none⟩ = some (.bool m.aa) := blk_cell (hx13) 2
      have a3 : w13.cell? ⟨w5.heap.size, 3, none⟩ = some (.bool m.tc) := blk_cell (hx13) 3
      have a4 : w13.cell? ⟨w5.heap.size, 4, none⟩ = some (.bool m.rd) := blk_cell (hx13) 4
      have a5 : w13.cell? ⟨w5.heap.size, 5, none⟩ = some (.bool m.ra) := blk_cell (hx13) 5
      have a6 : w13.cell? ⟨w5.heap.size, 6, none⟩ = some (.int .i64 m.op) := blk_cell (hx13) 6
      have a7 : w13.cell? ⟨w5.heap.size, 7, none⟩ = some (.int .i64 m.rc) := blk_cell (hx13) 7
      have a8 : w13.cell? ⟨w5.heap.size, 8, none⟩ = some (.slice d5.aq m.q.length d5.cq) := blk_cell (hx13) 8
      have a9 : w13.cell? ⟨w5.heap.size, 9, none⟩ = some (.slice d5.a1 m.an.length d5.c1) := blk_cell (hx13) 9
      have a10 : w13.cell? ⟨w5.heap.size, 10, none⟩ = some (.slice d5.a2 m.ns.length d5.c2) := blk_cell (hx13) 10
      have a11 : w13.cell? ⟨w5.heap.size, 11, none⟩ = some (.slice d5.a3 m.ar.length d5.c3) := blk_cell (hx13) 11
      have b0 : w13.cell? ⟨w.heap.size, 0, none⟩ = some (.int .u16 (m.id : Nat)) := blk_cell (hym) 0
      have b1 : w13.cell? ⟨w.heap.size, 1, none⟩ = some (.bool m.qr) := blk_cell (hym) 1
      have b2 : w13.cell? ⟨w.heap.size, 2, none⟩ = some (.bool m.aa) := blk_cell (hym) 2
      have b3 : w13.cell? ⟨w.heap.size, 3, none⟩ = some (.bool m.tc) := blk_cell (hym) 3
      have b4 : w13.cell? ⟨w.heap.size, 4, none⟩ = some (.bool m.rd) := blk_cell (hym) 4
      have b5 : w13.cell? ⟨w.heap.size, 5, none⟩ = some (.bool m.ra) := blk_cell (hym) 5
      have b6 : w13.cell? ⟨w.heap.size, 6, none⟩ = some (.int .i64 m.op) := blk_cell (hym) 6
      have b7 : w13.cell? ⟨w.heap.size, 7, none⟩ = some (.int .i64 m.rc) := blk_cell (hym) 7
      have b8 : w13.cell? ⟨w.heap.size, 8, none⟩ = some (.slice d.aq m.q.length d.cq) := blk_cell (hym) 8
      have b9 : w13.cell? ⟨w.heap.size, 9, none⟩ = some (.slice d.a1 m.an.length d.c1) := blk_cell (hym) 9
      have b10 : w13.cell? ⟨w.heap.size, 10, none⟩ = some (.slice d.a2 m.ns.length d.c2) := blk_cell (hym) 10
      have b11 : w13.cell? ⟨w.heap.size, 11, none⟩ = some (.slice d.a3 m.ar.length d.c3) := blk_cell (hym) 11
      have HX13 := Lib.hid hx
      have HY13 := Lib.hid hym
      have HG13 := Lib.hid (HG11.out.below h1113)
      have HH13 := Lib.hid (HI.out.below hB13)
      have HB13 := Lib.hid hB13
      have HW13 := Lib.hid (show w13 = (w12.alloc (Obj.cells (msV zMs zAd) 26)).setRow w12.heap.size (msV (hdO m) zAd) from hw13)
      clear hb12 hB12 hw13 hv hx h1113 hB13 hx13 hym HX11 HG11 HB11 HKh
      go_wp2_with (refine wpList_store_row rfl 26 _ _ rfl w12.heap.size (msV (hdO m) zAd) rfl rfl 26 (msV zMs zAd) HZ12.out infoM rfl (msV_all _ _) ?_; rw [show Obj.cells #[Value.int IntKind.u16 0, .bool false, .bool false, .bool false, .bool false, .bool false, .int .i64 0, .int .i64 0, .slice none 0 0, .slice none 0 0, .slice none 0 0, .slice none 0 0] 26 = Obj.cells (msV zMs zAd) 26 from rfl, ← HW13.out])
      refine (samem_yes m d5 d HSm.out.big.1 HSm.out.big.2.1 HSm.out.big.2.2.1 HSm.out.big.2.2.2 _ HG13.out HH13.out).mono ?_
      rintro e w14 ⟨rfl, hb14⟩
      have hx14 := (hb14.block _ (heap_lt HX13.out)).trans HX13.out
      have hym := (hb14.block _ (heap_lt HY13.out)).trans HY13.out
      clear a0 a1 a2 a3 a4 a5 a6 a7 a8 a9 a10 a11 b0 b1 b2 b3 b4 b5 b6 b7 b8 b9 b10 b11
      have a0 : w14.cell? ⟨w12.heap.size, 0, none⟩ = some (.int .u16 (m.id : Nat)) := blk_cell (hx14) 0
      have a1 : w14.cell? ⟨w12.heap.size, 1, none⟩ = some (.bool m.qr) := blk_cell (hx14) 1
      have a6 : w14.cell? ⟨w12.heap.size, 6, none⟩ = some (.int .i64 m.op) := blk_cell (hx14) 6
      have a8 : w14.cell? ⟨w12.heap.size, 8, none⟩ = some (.slice none 0 0) := blk_cell hx14 8
      have b0 : w14.cell? ⟨w.heap.size, 0, none⟩ = some (.int .u16 (m.id : Nat)) := blk_cell (hym) 0
      have b1 : w14.cell? ⟨w.heap.size, 1, none⟩ = some (.bool m.qr) := blk_cell (hym) 1
      have b6 : w14.cell? ⟨w.heap.size, 6, none⟩ = some (.int .i64 m.op) := blk_cell (hym) 6
      have HB14 := Lib.hid (HB13.out.trans (hb14.mono HB13.out.size))
      clear hb14 hx14 hym
      go_wp2_with fail
      go_ret
      exact ⟨rfl, HAl.out.trans (HB14.out.mono HAl.out.size)⟩
end Go.Proofs.YtnakljbginbenaaDoor
