/- The contract of the document's answer for record data: derrickref04.Put. -/
import Derived.Test.YtnakljbginbenaaGreatDoorWtw
import Derived.Test.YtnakljbginbenaaGreatDoorRfa
namespace Go.Proofs.YtnakljbginbenaaGreatDoor
open Go.RowKit
set_option linter.unusedVariables false

/-- The argument's box, and the result's. -/
structure Bx (w : World) (x : ByteArray) (v : Value) (wx : World) : Prop where
  box : wx.heap[w.heap.size]? = some (.cells #[.string x, v] 94 (0, 0))
  res : wx.heap[w.heap.size + 1]? = some (.cells #[.string ⟨#[]⟩, .slice none 0 0] 94 (0, 0))
  bel : Below w.heap.size w wx
theorem Bx.below {w wx wy : World} {x : ByteArray} {v : Value} (h : Bx w x v wx) (hb : Below wx.heap.size wx wy) : Bx w x v wy :=
  ⟨(hb.block _ (heap_lt h.box)).trans h.box, (hb.block _ (heap_lt h.res)).trans h.res, h.bel.trans (hb.mono h.bel.size)⟩
theorem Bx.new (w : World) (x : ByteArray) (v : Value) : Bx w x v ((w.alloc (.cells #[.string x, v] 94)).alloc (.cells #[.string ⟨#[]⟩, .slice none 0 0] 94)) := by
  have h1 : (w.alloc (.cells #[.string x, v] 94)).heap[w.heap.size]? = some (.cells #[.string x, v] 94 (0, 0)) := heap_alloc_new w _
  have hb1 : Below w.heap.size w (w.alloc (.cells #[.string x, v] 94)) := (Below.refl _ w).alloc (Nat.le_refl _) _
  have hb2 : Below (w.alloc (.cells #[.string x, v] 94)).heap.size (w.alloc (.cells #[.string x, v] 94)) ((w.alloc (.cells #[.string x, v] 94)).alloc (.cells #[.string ⟨#[]⟩, .slice none 0 0] 94)) := (Below.refl _ _).alloc (Nat.le_refl _) _
  refine ⟨(hb2.block _ (heap_lt h1)).trans h1, ?_, hb1.trans (hb2.mono hb1.size)⟩
  exact heap_alloc2_new w _ _
theorem Bx.big {w wx : World} {x : ByteArray} {v : Value} (h : Bx w x v wx) : w.heap.size + 2 ≤ wx.heap.size := by have := heap_lt h.res; omega
/-- What is returned. -/
theorem Bx.done {B : Nat} {w w3 : World} {x y : ByteArray} {v0 v : Value} {L : Kn} (h : Bx w x v0 w3) (hP : Plc B v L w3) :
    ((w3.setCell ⟨w.heap.size + 1, 0, none⟩ (.string y)).setCell ⟨w.heap.size + 1, 1, none⟩ v).heap[w.heap.size + 1]? = some (.cells #[.string y, v] 94 (0, 0)) ∧
      Plc B v L ((w3.setCell ⟨w.heap.size + 1, 0, none⟩ (.string y)).setCell ⟨w.heap.size + 1, 1, none⟩ v) ∧ Below w.heap.size w ((w3.setCell ⟨w.heap.size + 1, 0, none⟩ (.string y)).setCell ⟨w.heap.size + 1, 1, none⟩ v) := by
  have s1 := blk_set h.res 0 (.string y)
  have s2 := blk_set s1 1 v
  have g1 := grown_set w3 ⟨w.heap.size + 1, 0, none⟩ (.string y)
  have g2 := grown_set (w3.setCell ⟨w.heap.size + 1, 0, none⟩ (.string y)) ⟨w.heap.size + 1, 1, none⟩ v
  exact ⟨s2, (hP.other h.res (by decide) g1).other s1 (by decide) g2, (h.bel.setCell (p := ⟨w.heap.size + 1, 0, none⟩) (show w.heap.size ≤ w.heap.size + 1 by omega) _).setCell (p := ⟨w.heap.size + 1, 1, none⟩) (show w.heap.size ≤ w.heap.size + 1 by omega) _⟩
/-- A pack that a call handed back, in a box of its own. -/
def Ny (B : Nat) (w : World) (x : ByteArray) (v : Value) (y2 : ByteArray) (L2 : Kn) (t : Value) (wx : World) : Prop :=
  ∃ (y : Nat) (A' : Option Addr) (m' c' : Nat), t = .pointer (some ⟨y, 0, none⟩) ∧ wx.heap[y]? = some (.cells #[.string y2, .slice A' m' c'] 94 (0, 0)) ∧ Bx w x v wx ∧ Plc B (.slice A' m' c') L2 wx
theorem nyA {B : Nat} {w w7 : World} {x y2 : ByteArray} {v : Value} {L2 : Kn} {A' : Option Addr} {m' c' : Nat} (hx : Bx w x v w7) (hP : Plc B (.slice A' m' c') L2 w7) :
    Ny B w x v y2 L2 (.pointer (some ⟨w7.heap.size, 0, none⟩)) (w7.alloc (.cells #[.string y2, .slice A' m' c'] 94)) := by
  have ha : Below w7.heap.size w7 (w7.alloc (.cells #[.string y2, .slice A' m' c'] 94)) := (Below.refl _ w7).alloc (Nat.le_refl _) _
  exact ⟨w7.heap.size, A', m', c', rfl, heap_alloc_new w7 _, hx.below ha, hP.below ha⟩
theorem nyB {B : Nat} {w w7 : World} {x y2 : ByteArray} {v : Value} {L2 : Kn} {A' : Option Addr} {m' c' y : Nat} (hx : Bx w x v w7) (hP : Plc B (.slice A' m' c') L2 w7) (hy : w.heap.size + 2 ≤ y)
    (hz : w7.heap[y]? = some (.cells #[.string ⟨#[]⟩, .slice none 0 0] 94 (0, 0))) :
    Ny B w x v y2 L2 (.pointer (some ⟨y, 0, none⟩)) ((w7.setCell ⟨y, 0, none⟩ (.string y2)).setCell ⟨y, 1, none⟩ (.slice A' m' c')) := by
  have s1 := blk_set hz 0 (.string y2)
  have s2 := blk_set s1 1 (.slice A' m' c')
  have g1 := grown_set w7 ⟨y, 0, none⟩ (.string y2)
  have g2 := grown_set (w7.setCell ⟨y, 0, none⟩ (.string y2)) ⟨y, 1, none⟩ (.slice A' m' c')
  have hkeep : ∀ k, k < w.heap.size + 2 → ((w7.setCell ⟨y, 0, none⟩ (.string y2)).setCell ⟨y, 1, none⟩ (.slice A' m' c')).heap[k]? = w7.heap[k]? := fun k hk => by
    have hl := hx.big
    rw [g2.block k (by rw [World.size_setCell]; omega) (fun e => by have := Option.some.inj e; simp only at this; omega), g1.block k (by omega) (fun e => by have := Option.some.inj e; simp only at this; omega)]
  refine ⟨y, A', m', c', rfl, s2, ⟨(hkeep _ (by omega)).trans hx.box, (hkeep _ (by omega)).trans hx.res, ?_⟩, (hP.other hz (by decide) g1).other s1 (by decide) g2⟩
  exact (hx.bel.setCell (p := ⟨y, 0, none⟩) (show w.heap.size ≤ y by omega) _).setCell (p := ⟨y, 1, none⟩) (show w.heap.size ≤ y by omega) _
/-- What Put of the document makes of a pack. -/
def rp (S : List UInt8) (L : Kn) (k : Nat) (d : ByteArray) : List UInt8 × Kn := if mayD k d = true then putD S L k d else (S, L)
def rpE (k : Nat) (d : ByteArray) : Int := if mayD k d = true then 0 else 1
def RpPost (B : Nat) (x : ByteArray) (L : Kn) (k : Nat) (d : ByteArray) (w : World) (e : Ending) (w' : World) : Prop :=
  ∃ A' m' cap', e = .returned (.tuple #[.agg #[.string ⟨(rp x.data.toList L k d).1.toArray⟩, .slice A' m' cap'], .int .i64 (rpE k d)]) ∧ Plc B (.slice A' m' cap') (rp x.data.toList L k d).2 w' ∧ Below w.heap.size w w'

set_option maxRecDepth 100000 in
set_option maxHeartbeats 1000000 in
theorem refput_no (B : Nat) (x d : ByteArray) (v : Value) (L : Kn) (k : Nat) (w : World) (hP : Plc B v L w) (hd : d.size ≤ 4194304) (hk : k < 65536) (hm : mayD k d = false) :
    Calls Tryz.prog 109 #[.agg #[.string x, v], .int .u16 (k : Nat), .string d] w fun e w' => RpPost B x L k d w e w' := by
  obtain ⟨A, cap, rfl⟩ := hP.form
  have HR := Lib.hid (show rp x.data.toList L k d = (x.data.toList, L) ∧ rpE k d = 1 by unfold rp rpE; rw [hm]; exact ⟨rfl, rfl⟩)
  have HM := Lib.hid hm
  have HP := Lib.hid hP
  have HB := Lib.hid (Bx.new w x (.slice A L.length cap))
  clear hP hm
  go_enter Tryz.func109, Tryz.ntmps109
  go_wp2_with fail
  refine (refmay_any k d hd hk _).mono ?_
  rintro e w1 ⟨rfl, hb1⟩
  rw [HM.out]
  have hB1 := HB.out.below hb1
  have c0 := blk_cell hB1.box 0
  have c1 := blk_cell hB1.box 1
  have z0 := blk_cell hB1.res 0
  have z1 := blk_cell hB1.res 1
  have f0 := blk_frozen hB1.res 0
  have f1 := blk_frozen hB1.res 1
  have HP1 := Lib.hid ((HP.out.below (HB.out.bel)).below hb1)
  have HB1 := Lib.hid hB1
  clear hB1 hb1
  go_wp2_with fail
  obtain ⟨t1, t2, t3⟩ := Bx.done (y := x) HB1.out HP1.out
  refine ret_pack2 rfl rfl rfl rfl t1 ⟨A, L.length, cap, ?_, ?_, t3⟩
  · rw [HR.out.1, HR.out.2, ba_mk]; rfl
  · rw [HR.out.1]; exact t2
end Go.Proofs.YtnakljbginbenaaGreatDoor
