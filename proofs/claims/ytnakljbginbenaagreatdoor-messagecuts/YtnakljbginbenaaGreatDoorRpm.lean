/- The contract of the document's answer for record data: derrickref04.Put, of MX data. -/
import Derived.Test.YtnakljbginbenaaGreatDoorRps
namespace Go.Proofs.YtnakljbginbenaaGreatDoor
open Go.RowKit
set_option linter.unusedVariables false

theorem KnOk.more {S : List UInt8} {L : Kn} (h : KnOk S L) (X : List UInt8) : KnOk (S ++ X) L := ⟨h.1, by have := h.2; rw [List.length_append]; omega⟩

set_option maxRecDepth 100000 in
set_option maxHeartbeats 8000000 in
theorem refput_M (B : Nat) (x d : ByteArray) (v : Value) (L : Kn) (w : World) (hP : Plc B v L w) (hK : KnOk x.data.toList L) (hx : x.size ≤ 900000) (hB : B ≤ w.heap.size) (hd : d.size ≤ 1000) (hm : mayD 15 d = true) :
    Calls Tryz.prog 109 #[.agg #[.string x, v], .int .u16 15, .string d] w fun e w' => RpPost B x L 15 d w e w' := by
  obtain ⟨A, cap, rfl⟩ := hP.form
  have h15 : 2 < d.size ∧ mayB (d.extract 2 d.size) = true := by
    have h := hm
    unfold mayD at h
    rw [Bool.and_eq_true, if_neg (by decide), if_neg (by decide), if_neg (by decide), if_pos rfl, Bool.and_eq_true, decide_eq_true_iff, decide_eq_true_iff] at h
    exact h.2
  have hrp : rp x.data.toList L 15 d = stp (x ++ d.extract 0 2).data.toList L (d.extract 2 d.size) := by
    unfold rp putD stp
    rw [if_pos hm, if_neg (by decide), if_pos rfl, if_pos h15.2]
    rw [← ext_list]
    simp
  have HR := Lib.hid (And.intro hrp (show rpE 15 d = 0 by unfold rpE; rw [if_pos hm]))
  have HM := Lib.hid hm
  have HP := Lib.hid hP
  have HBx := Lib.hid (Bx.new w x (.slice A L.length cap))
  have hk2 : KnOk (x ++ d.extract 0 2).data.toList L := by
    have := hK.more (d.extract 0 2).data.toList
    simpa using this
  have hz2 : (d.extract 0 2).size = 2 := by rw [ByteArray.size_extract]; omega
  have hzn : (d.extract 2 d.size).size ≤ 1000 := by rw [ByteArray.size_extract]; omega
  have HK := Lib.hid (And.intro hk2 (And.intro hz2 hzn))
  have q1 : (2 : Int) ≤ (d.size : Int) := by omega
  have q2 : 2 ≤ d.size := by omega
  clear hP hm hrp hK hk2 hz2 hzn h15
  go_enter Tryz.func109, Tryz.ntmps109
  go_wp2_with fail
  refine (refmay_any 15 d (by omega) (by decide) _).mono ?_
  rintro e w1 ⟨rfl, hb1⟩
  rw [HM.out]
  have hB1 := HBx.out.below hb1
  have hP1 := (HP.out.below (HBx.out.bel)).below hb1
  have hs1 : B ≤ w1.heap.size := by have := hB1.bel.size; omega
  have c0 := blk_cell hB1.box 0
  have c1 := blk_cell hB1.box 1
  have d0 := fun o => blk_cell (hB1.al o).box 0
  have d1 := fun o => blk_cell (hB1.al o).box 1
  have hadd : ∀ W, Below w1.heap.size w1 W → Calls Tryz.prog 86 #[.agg #[.string x, .slice A L.length cap], .string (d.extract 0 2)] W fun e w' => e = .returned (.agg #[.string (x ++ d.extract 0 2), .slice A L.length cap]) ∧ Below W.heap.size W w' ∧ Below w1.heap.size w1 w' := fun W hW =>
    (radd_any x (d.extract 0 2) _ A L.length cap rfl (by have := HK.out.2.1; omega) W).mono fun e w' h => ⟨h.1, h.2, hW.trans (h.2.mono hW.size)⟩
  have hname : ∀ W, Below w1.heap.size w1 W → Calls Tryz.prog 85 #[.agg #[.string (x ++ d.extract 0 2), .slice A L.length cap], .string (d.extract 2 d.size)] W fun e w' => ∃ A' m' c', e = .returned (.tuple #[.agg #[.string ⟨(rp x.data.toList L 15 d).1.toArray⟩, .slice A' m' c'], .int .i64 (stE (d.extract 2 d.size))]) ∧ Plc B (.slice A' m' c') (rp x.data.toList L 15 d).2 w' ∧ Below W.heap.size W w' ∧ Below w1.heap.size w1 w' := fun W hW => by
    have h := rname_any B (x ++ d.extract 0 2) (d.extract 2 d.size) _ L W (hP1.below hW) HK.out.1 (by rw [ByteArray.size_append]; have := HK.out.2.1; omega) (by have := HK.out.2.2; omega) (by have := hW.size; omega)
    rw [← HR.out.1] at h
    exact h.mono fun e w' ⟨A', m', c', h1, h2, h3⟩ => ⟨A', m', c', h1, h2, h3, hW.trans (h3.mono hW.size)⟩
  have hal : ∀ o, Below w1.heap.size w1 (w1.alloc o) := fun o => (Below.refl _ w1).alloc (Nat.le_refl _) o
  have HBd := Lib.hid (And.intro (show Below w1.heap.size w1 w1.drew from (Below.refl _ w1).drew) (show ∀ o, Below w1.heap.size w1 (w1.alloc o).drew from fun o => (hal o).drew))
  obtain ⟨RP, hRP⟩ : ∃ RP, rp x.data.toList L 15 d = RP := ⟨_, rfl⟩
  rw [hRP] at hname
  have HRP := Lib.hid hRP
  clear hRP
  generalize stE (d.extract 2 d.size) = E0 at *
  have HAdd := Lib.hid hadd
  have HName := Lib.hid hname
  have HB1 := Lib.hid hB1
  clear hadd hname hB1 hP1 hb1 hal
  go_upto_region 10 with (fail)
  go_cut [10, 11] (fun t q wx => q = .int .i64 E0 ∧ Ny B w x (.slice A L.length cap) ⟨RP.1.toArray⟩ RP.2 t wx)
  case first =>
    generalize (⟨RP.1.toArray⟩ : ByteArray) = Y at *
    generalize RP.2 = L2 at *
    go_region_with (first
      | (go_at_call 86; refine (HAdd.out _ HBd.out.1).mono ?_; rintro e w7 ⟨rfl, hb7, hb7'⟩; have HB7 := Lib.hid hb7'; clear hb7 hb7')
      | (go_at_call 86; refine (HAdd.out _ (HBd.out.2 _)).mono ?_; rintro e w7 ⟨rfl, hb7, hb7'⟩; have HZ7 := Lib.hid ((hb7.block w1.heap.size (by simp)).trans (heap_alloc_new w1 _)); have HB7 := Lib.hid hb7'; clear hb7 hb7')
      | (go_at_call 85; refine (HName.out _ HB7.out).mono ?_; rintro e w8 ⟨A', m', c', rfl, hP8, hb8, hb8'⟩; have HZ8 := Lib.hid ((hb8.block w1.heap.size (heap_lt HZ7.out)).trans HZ7.out); have z0 := blk_cell HZ8.out 0; have z1 := blk_cell HZ8.out 1; have f0 := blk_frozen HZ8.out 0; have f1 := blk_frozen HZ8.out 1; have HB8 := Lib.hid hb8'; have HP8 := Lib.hid hP8; clear hP8 hb8 hb8')
      | (go_at_call 85; refine (HName.out _ HB7.out).mono ?_; rintro e w8 ⟨A', m', c', rfl, hP8, hb8, hb8'⟩; have HB8 := Lib.hid hb8'; have HP8 := Lib.hid hP8; clear hP8 hb8 hb8')
      | (go_at_call 85; refine (HName.out _ (HB7.out.alloc HB7.out.size _)).mono ?_; rintro e w8 ⟨A', m', c', rfl, hP8, hb8, hb8'⟩; have HY8 := Lib.hid ((hb8.block w7.heap.size (by simp)).trans (heap_alloc_new w7 _)); have z0 := blk_cell HY8.out 0; have z1 := blk_cell HY8.out 1; have f0 := blk_frozen HY8.out 0; have f1 := blk_frozen HY8.out 1; have HB8 := Lib.hid hb8'; have HP8 := Lib.hid hP8; clear hP8 hb8 hb8'))
    all_goals
      go_wp2_with fail
      go_meet
      case rel =>
        first
        | exact ⟨rfl, nyA (HB1.out.below HB8.out) HP8.out⟩
        | exact ⟨rfl, nyB (HB1.out.below HB8.out) HP8.out HB1.out.big HZ8.out⟩
        | exact ⟨rfl, nyB (HB1.out.below HB8.out) HP8.out (Nat.le_trans HB1.out.big HB7.out.size) HY8.out⟩
  case rest =>
    obtain ⟨rfl, y, A', m', c', rfl, hy, hBx, hpl⟩ := hcut
    have e0 := blk_cell hy 0
    have e1 := blk_cell hy 1
    have z0 := blk_cell hBx.res 0
    have z1 := blk_cell hBx.res 1
    have f0 := blk_frozen hBx.res 0
    have f1 := blk_frozen hBx.res 1
    have HB9 := Lib.hid hBx
    have HP9 := Lib.hid hpl
    clear hBx hpl hy c0 c1 d0 d1 HAdd HName HBd HB1
    obtain ⟨Y, hY⟩ : ∃ Y : ByteArray, (⟨RP.1.toArray⟩ : ByteArray) = Y := ⟨_, rfl⟩
    rw [hY] at e0
    have HY := Lib.hid hY
    clear hY
    go_wp2_with fail
    obtain ⟨t1, t2, t3⟩ := Bx.done (y := Y) HB9.out HP9.out
    refine ret_pack2 rfl rfl rfl rfl t1 ⟨A', m', c', ?_, ?_, t3⟩
    · rw [HRP.out, HY.out, HR.out.2]; rfl
    · rw [HRP.out]; exact t2
end Go.Proofs.YtnakljbginbenaaGreatDoor
