/- The contract of the document's answer for record data: derrickref04.Put, of data without drawn orders. -/
import Derived.Test.YtnakljbginbenaaGreatDoorRpr
namespace Go.Proofs.YtnakljbginbenaaGreatDoor
open Go.RowKit
set_option linter.unusedVariables false

theorem Bx.al {w wx : World} {x : ByteArray} {v : Value} (h : Bx w x v wx) (o : Obj) : Bx w x v (wx.alloc o) := h.below ((Below.refl _ wx).alloc (Nat.le_refl _) o)
theorem Plc.al {B : Nat} {v : Value} {L : Kn} {w : World} (h : Plc B v L w) (o : Obj) : Plc B v L (w.alloc o) := h.below ((Below.refl _ w).alloc (Nat.le_refl _) o)

set_option maxRecDepth 100000 in
set_option maxHeartbeats 1000000 in
theorem refput_N (B : Nat) (x d : ByteArray) (v : Value) (L : Kn) (k : Nat) (w : World) (hP : Plc B v L w) (hK : KnOk x.data.toList L) (hx : x.size ≤ 1000000) (hB : B ≤ w.heap.size) (hd : d.size ≤ 4194304) (hN : k = 2 ∨ k = 5 ∨ k = 12) (hm : mayD k d = true) :
    Calls Tryz.prog 109 #[.agg #[.string x, v], .int .u16 (k : Nat), .string d] w fun e w' => RpPost B x L k d w e w' := by
  obtain ⟨A, cap, rfl⟩ := hP.form
  have hNk : isN k = true := by unfold isN; simpa using hN
  have hmb : mayB d = true := by
    have h := hm
    unfold mayD at h
    rw [Bool.and_eq_true, if_neg (by omega), if_neg (by omega), if_pos hNk] at h
    exact h.2
  have hrp : rp x.data.toList L k d = stp x.data.toList L d := by unfold rp putD stp; rw [if_pos hm, if_pos hNk, if_pos hmb]
  have HR := Lib.hid (And.intro hrp (show rpE k d = 0 by unfold rpE; rw [if_pos hm]))
  have HM := Lib.hid (And.intro hm (show k < 65536 by omega))
  have HP := Lib.hid hP
  have HBx := Lib.hid (Bx.new w x (.slice A L.length cap))
  have HK := Lib.hid hK
  clear hP hm hmb hrp hNk hK
  rcases hN with hk | hk | hk
  all_goals
    subst hk
    go_enter Tryz.func109, Tryz.ntmps109
    go_wp2_with fail
    refine (refmay_any _ d hd HM.out.2 _).mono ?_
    rintro e w1 ⟨rfl, hb1⟩
    rw [HM.out.1]
    have hB1 := HBx.out.below hb1
    have c0 := blk_cell hB1.box 0
    have c1 := blk_cell hB1.box 1
    have HP1 := Lib.hid ((HP.out.below (HBx.out.bel)).below hb1)
    have HB1 := Lib.hid hB1
    have HS1 := Lib.hid (show B ≤ w1.heap.size by have := hB1.bel.size; omega)
    clear hB1 hb1
    go_wp2_with fail
    refine (rname_any B x d _ L _ HP1.out HK.out hx hd HS1.out).mono ?_
    rintro e w2 ⟨A', m', cap', rfl, hP2, hb2⟩
    have hB2 := HB1.out.below hb2
    have z0 := fun o => blk_cell (hB2.al o).res 0
    have z1 := fun o => blk_cell (hB2.al o).res 1
    have f0 := fun o => blk_frozen (hB2.al o).res 0
    have f1 := fun o => blk_frozen (hB2.al o).res 1
    have HB2 := Lib.hid hB2
    have HP2 := Lib.hid hP2
    clear hB2 hP2 hb2 c0 c1
    obtain ⟨Y, hY⟩ : ∃ Y : ByteArray, (⟨(stp x.data.toList L d).1.toArray⟩ : ByteArray) = Y := ⟨_, rfl⟩
    rw [hY]
    have HY := Lib.hid hY
    clear hY
    generalize stE d = E0
    go_wp2_with fail
    obtain ⟨t1, t2, t3⟩ := Bx.done (y := Y) (HB2.out.al (.cells #[.string Y, .slice A' m' cap'] 94)) (HP2.out.al _)
    refine ret_pack2 rfl rfl rfl rfl t1 ⟨A', m', cap', ?_, ?_, t3⟩
    · rw [HR.out.1, HY.out, HR.out.2]; rfl
    · rw [HR.out.1]; exact t2

set_option maxRecDepth 100000 in
set_option maxHeartbeats 1000000 in
theorem refput_O (B : Nat) (x d : ByteArray) (v : Value) (L : Kn) (k : Nat) (w : World) (hP : Plc B v L w) (hx : x.size ≤ 1000000) (hd : d.size ≤ 4194304) (hk : k < 65536) (hN : ¬ (k = 2 ∨ k = 5 ∨ k = 12)) (h15 : k ≠ 15) (h6 : k ≠ 6) (hm : mayD k d = true) :
    Calls Tryz.prog 109 #[.agg #[.string x, v], .int .u16 (k : Nat), .string d] w fun e w' => RpPost B x L k d w e w' := by
  obtain ⟨A, cap, rfl⟩ := hP.form
  have hNk : ¬ isN k = true := by unfold isN; simpa using hN
  have hrp : rp x.data.toList L k d = (x.data.toList ++ d.data.toList, L) := by unfold rp putD; rw [if_pos hm, if_neg hNk, if_neg h15, if_neg h6]
  have HR := Lib.hid (And.intro hrp (show rpE k d = 0 by unfold rpE; rw [if_pos hm]))
  have HM := Lib.hid hm
  have HP := Lib.hid hP
  have HBx := Lib.hid (Bx.new w x (.slice A L.length cap))
  have b3 : ((k : Int) == 2) = false := by simp; omega
  have b4 : ((k : Int) == 5) = false := by simp; omega
  have b5 : ((k : Int) == 12) = false := by simp; omega
  have b6 : ((k : Int) == 15) = false := by simp; omega
  have b7 : ((k : Int) == 6) = false := by simp; omega
  clear hP hm hrp hNk hN h15 h6
  go_enter Tryz.func109, Tryz.ntmps109
  go_wp2_with fail
  refine (refmay_any _ d hd hk _).mono ?_
  rintro e w1 ⟨rfl, hb1⟩
  rw [HM.out]
  have hB1 := HBx.out.below hb1
  have c0 := blk_cell hB1.box 0
  have c1 := blk_cell hB1.box 1
  have HP1 := Lib.hid ((HP.out.below (HBx.out.bel)).below hb1)
  have HB1 := Lib.hid hB1
  clear hB1 hb1
  go_wp2_with fail
  refine (radd_any x d _ A L.length cap rfl (by omega) _).mono ?_
  rintro e w2 ⟨rfl, hb2⟩
  have hB2 := HB1.out.below hb2
  have z0 := blk_cell hB2.res 0
  have z1 := blk_cell hB2.res 1
  have f0 := blk_frozen hB2.res 0
  have f1 := blk_frozen hB2.res 1
  have HB2 := Lib.hid hB2
  have HP2 := Lib.hid (HP1.out.below hb2)
  clear hB2 hb2 c0 c1
  go_wp2_with fail
  obtain ⟨t1, t2, t3⟩ := Bx.done (y := x ++ d) HB2.out HP2.out
  refine ret_pack2 rfl rfl rfl rfl t1 ⟨A, L.length, cap, ?_, ?_, t3⟩
  · rw [HR.out.1, HR.out.2]
    have : (⟨(x.data.toList ++ d.data.toList).toArray⟩ : ByteArray) = x ++ d := by apply ba_ext; simp
    rw [this]; rfl
  · rw [HR.out.1]; exact t2
end Go.Proofs.YtnakljbginbenaaGreatDoor
