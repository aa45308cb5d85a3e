/- The contract of derricklaw10.do (written by tools/gen_som.py). -/
import Derived.Test.YtpoienhmnaeaiaaSol
namespace Go.Proofs.Ytpoienhmnaeaiaa
open Go.RowKit
set_option linter.unusedVariables false

/-- The boxes of the parameters and of the result. -/
structure Bx3 (q : Nat) (w : World) (d : Dv) (N : Ms) (k i : Int) (x : ByteArray) : Prop where
  dx : Blk w q 30 #[.slice (some ⟨d.gx, 0, none⟩) N.c.length d.cx, .slice (some ⟨d.gu, 0, none⟩) N.c.length d.cu, .slice (some ⟨d.gt, 0, none⟩) N.c.length d.ct, .int .i64 (N.h : Nat)]
  de : Blk w (q + 1) 35 #[.int .i64 k, .int .i64 i, .string x]
  dr : Blk w (q + 2) 30 zD
section
variable {q g b : Nat} {w w' : World} {d : Dv} {N : Ms} {k i : Int} {x : ByteArray}
theorem Bx3.below (h : Bx3 q w d N k i x) (hb : Below w.heap.size w w') : Bx3 q w' d N k i x := ⟨h.dx.eq (hb.block _ h.dx.lt), h.de.eq (hb.block _ h.de.lt), h.dr.eq (hb.block _ h.dr.lt)⟩
theorem Bx3.fp (h : Bx3 q w d N k i x) (hf : Fp g b w w') (hq : g < q) : Bx3 q w' d N k i x := ⟨h.dx.eq (hf.high _ hq h.dx.lt), h.de.eq (hf.high _ (by omega) h.de.lt), h.dr.eq (hf.high _ (by omega) h.dr.lt)⟩
end
theorem bx3_of (w : World) (d : Dv) (N : Ms) (k i : Int) (x : ByteArray) : Bx3 w.heap.size (((w.alloc (Obj.cells #[.slice (some ⟨d.gx, 0, none⟩) N.c.length d.cx, .slice (some ⟨d.gu, 0, none⟩) N.c.length d.cu, .slice (some ⟨d.gt, 0, none⟩) N.c.length d.ct, .int .i64 (N.h : Nat)] 30)).alloc (Obj.cells #[.int .i64 k, .int .i64 i, .string x] 35)).alloc (Obj.cells #[Value.slice none 0 0, .slice none 0 0, .slice none 0 0, .int .i64 0] 30)) d N k i x ∧ Below w.heap.size w (((w.alloc (Obj.cells #[.slice (some ⟨d.gx, 0, none⟩) N.c.length d.cx, .slice (some ⟨d.gu, 0, none⟩) N.c.length d.cu, .slice (some ⟨d.gt, 0, none⟩) N.c.length d.ct, .int .i64 (N.h : Nat)] 30)).alloc (Obj.cells #[.int .i64 k, .int .i64 i, .string x] 35)).alloc (Obj.cells #[Value.slice none 0 0, .slice none 0 0, .slice none 0 0, .int .i64 0] 30)) := by
  have b1 := Blk.new w 30 #[.slice (some ⟨d.gx, 0, none⟩) N.c.length d.cx, .slice (some ⟨d.gu, 0, none⟩) N.c.length d.cu, .slice (some ⟨d.gt, 0, none⟩) N.c.length d.ct, .int .i64 (N.h : Nat)]
  have e1 : (w.alloc (Obj.cells #[.slice (some ⟨d.gx, 0, none⟩) N.c.length d.cx, .slice (some ⟨d.gu, 0, none⟩) N.c.length d.cu, .slice (some ⟨d.gt, 0, none⟩) N.c.length d.ct, .int .i64 (N.h : Nat)] 30)).heap.size = w.heap.size + 1 := by simp
  have l1 := (Below.refl w.heap.size w).alloc (Nat.le_refl _) (Obj.cells #[.slice (some ⟨d.gx, 0, none⟩) N.c.length d.cx, .slice (some ⟨d.gu, 0, none⟩) N.c.length d.cu, .slice (some ⟨d.gt, 0, none⟩) N.c.length d.ct, .int .i64 (N.h : Nat)] 30)
  generalize w.alloc (Obj.cells #[.slice (some ⟨d.gx, 0, none⟩) N.c.length d.cx, .slice (some ⟨d.gu, 0, none⟩) N.c.length d.cu, .slice (some ⟨d.gt, 0, none⟩) N.c.length d.ct, .int .i64 (N.h : Nat)] 30) = w1 at *
  have b2 := Blk.new w1 35 #[.int .i64 k, .int .i64 i, .string x]
  have e2 : (w1.alloc (Obj.cells #[.int .i64 k, .int .i64 i, .string x] 35)).heap.size = w.heap.size + 2 := by simp [e1]
  have l2 := (Below.refl w1.heap.size w1).alloc (Nat.le_refl _) (Obj.cells #[.int .i64 k, .int .i64 i, .string x] 35)
  generalize w1.alloc (Obj.cells #[.int .i64 k, .int .i64 i, .string x] 35) = w2 at *
  have b3 := Blk.new w2 30 zD
  have l3 := (Below.refl w2.heap.size w2).alloc (Nat.le_refl _) (Obj.cells zD 30)
  have m1 := b1.eq (l2.block _ b1.lt)
  have m2 := m1.eq (l3.block _ m1.lt)
  have m3 := b2.eq (l3.block _ b2.lt)
  rw [e1] at m3
  rw [e2] at b3
  exact ⟨⟨m2, m3, b3⟩, (l1.trans (l2.mono l1.size)).trans (l3.mono (l1.trans (l2.mono l1.size)).size)⟩
theorem Sp.setRow {w : World} {g b q : Nat} {M : Ms} (h : Sp w g b M) (hq : g < q) (cs : Array Value) : Sp (w.setRow q cs) g b M :=
  ⟨h.gb, h.bg.eq (setRow_other _ _ _ _ (by omega)), h.bb.eq (setRow_other _ _ _ _ (by have := h.gb; omega)), h.ok⟩
theorem Fp.setRow {w w' : World} {g b q : Nat} (h : Fp g b w w') (hq : w.heap.size ≤ q) (hb : b ≤ q) (cs : Array Value) : Fp g b w (w'.setRow q cs) :=
  ⟨setRow_below h.below hb cs, fun k h1 h2 => (setRow_other _ _ _ _ (by omega)).trans (h.high k h1 h2)⟩
/-- What a deed leaves. -/
def DoR (B g b : Nat) (w : World) (M N : Ms) (M0 N0 : Ms) (e : Ending) (w' : World) : Prop :=
  ∃ (d' : Dv) (r : Bool), e = .returned (.tuple #[dV d' N, .bool r]) ∧ Sp w' g b M ∧ Dw B w' d' N.c ∧ Fp g b w w' ∧ (M0 = N0 → r = true)
/-- All is told: the program's slots and the document's, and the result's box behind it. -/
theorem do_end {B g b q : Nat} {w w3 w4 w5 : World} {M N' : Ms} {d d' : Dv} {k i : Int} {x : ByteArray} {c : List Ce} (hs : Sp w4 g b M) (hB : g < B) (hq : B ≤ q) (hl : Below q w w3) (hqw : q = w.heap.size) (hf : Fp g b w3 w4) (h3 : Bx3 q w3 d N' k i x) (hb5 : Below w4.heap.size w4 w5) (hD : Dw B w5 d' c) (hbg : b < g) (cs : Array Value) :
    Blk w5 (q + 2) 30 zD ∧ Sp (w5.setRow (q + 2) cs) g b M ∧ Dw B (w5.setRow (q + 2) cs) d' c ∧ Fp g b w (w5.setRow (q + 2) cs) := by
  have h5 := ((h3.fp hf (by omega)).below hb5).dr
  subst hqw
  refine ⟨h5, (hs.keep hb5).setRow (by omega) cs, hD.setRow h5, ?_⟩
  have hw4 : b ≤ w4.heap.size := Nat.le_of_lt hs.bb.lt
  exact (((Fp.of hl (by omega)).trans hf).trans (Fp.of hb5 hw4)).setRow (by omega) (by omega) cs

set_option maxRecDepth 100000 in
set_option maxHeartbeats 2000000 in
theorem do_put (B : Nat) (i : Int) (x : ByteArray) {w : World} {g b : Nat} {M : Ms} (hs : Sp w g b M) (d : Dv) (N : Ms) (hN : N.Ok) (hD : Dw B w d N.c) (hg : g < B) (hB : B ≤ w.heap.size) : Calls Try.prog 13 #[.pointer (some ⟨g, 0, none⟩), dV d N, .agg #[.int .i64 0, .int .i64 i, .string x]] w fun e w' => DoR B g b w ((putM M x).1) ((putM N x).1) M N e w' := by
  rw [dV_eq]
  obtain ⟨h3, hl⟩ := bx3_of w d N 0 i x
  have hpc := fun (W : World) (hS : Sp W g b M) => put_any x hS
  have hdc := fun (W : World) (hDW : Dw B W d N.c) (hBW : B ≤ W.heap.size) => rput_any B x d N hN W hDW hBW
  obtain ⟨pM, hpM⟩ : ∃ p, putM M x = p := ⟨_, rfl⟩
  obtain ⟨qN, hqN⟩ : ∃ p, putM N x = p := ⟨_, rfl⟩
  have HMN := Lib.hid (show M = N → pM = qN from fun h => by rw [← hpM, ← hqN, h])
  rw [hpM] at hpc
  rw [hqN] at hdc
  rw [hpM, hqN]
  clear hpM hqN
  obtain ⟨pS, pi, pe⟩ := pM
  obtain ⟨qS, qi, qe⟩ := qN
  simp only at hpc hdc HMN ⊢
  simp only [dV_eq] at hdc
  have HPC := Lib.hid hpc
  have HDC := Lib.hid hdc
  have HB3 := Lib.hid (And.intro h3 hl)
  have HS3 := Lib.hid (hs.keep hl)
  have HD3 := Lib.hid (hD.below hl)
  have HBB := Lib.hid hB
  have HG := Lib.hid (And.intro hg hs.gb)
  clear h3 hl hs hD hN hB hg hpc hdc
  by_cases hq : pi = qi
  · subst hq
    unfold DoR
    go_enter Try.func13, Try.ntmps13
    go_upto_region 1 with (fail)
    generalize (((w.alloc (Obj.cells #[.slice (some ⟨d.gx, 0, none⟩) N.c.length d.cx, .slice (some ⟨d.gu, 0, none⟩) N.c.length d.cu, .slice (some ⟨d.gt, 0, none⟩) N.c.length d.ct, .int .i64 (N.h : Nat)] 30)).alloc (Obj.cells #[.int .i64 0, .int .i64 i, .string x] 35)).alloc (Obj.cells #[Value.slice none 0 0, .slice none 0 0, .slice none 0 0, .int .i64 0] 30)) = w3 at *
    have k0 := HB3.out.1.de.cell 0
    have k1 := HB3.out.1.de.cell 1
    have k2 := HB3.out.1.de.cell 2
    simp only [List.getElem?_toArray, List.getElem?_cons_zero, List.getElem?_cons_succ] at k0 k1 k2
    go_wp2_with (first
      | (refine wpList_load_row rfl 30 _ rfl w.heap.size rfl 30 _ _ _ HX4.out Try.underlying30 rfl infoD ?_)
      | (refine wpList_store_row rfl 30 _ _ rfl (w.heap.size + 2) _ rfl rfl 30 _ HR5.out.1 infoD rfl (all4 _ _ _ _ _ _ _ _) ?_)
      | (go_at_call 25; with_reducible (refine HDC4.out.mono ?_); rintro e w5 ⟨d5, rfl, hd5, hb5⟩; have HR5 := Lib.hid (do_end HS4.out.1 HG.out.1 HBB.out HB3.out.2 rfl HS4.out.2 HB3.out.1 (w5 := w5.alloc (Obj.cells #[.slice (some ⟨d5.gx, 0, none⟩) qS.c.length d5.cx, .slice (some ⟨d5.gu, 0, none⟩) qS.c.length d5.cu, .slice (some ⟨d5.gt, 0, none⟩) qS.c.length d5.ct, .int .i64 (qS.h : Nat)] 30)) (hb5.alloc hb5.size (Obj.cells #[.slice (some ⟨d5.gx, 0, none⟩) qS.c.length d5.cx, .slice (some ⟨d5.gu, 0, none⟩) qS.c.length d5.cu, .slice (some ⟨d5.gt, 0, none⟩) qS.c.length d5.ct, .int .i64 (qS.h : Nat)] 30)) (hd5.below ((Below.refl w5.heap.size w5).alloc (Nat.le_refl _) (Obj.cells #[.slice (some ⟨d5.gx, 0, none⟩) qS.c.length d5.cx, .slice (some ⟨d5.gu, 0, none⟩) qS.c.length d5.cu, .slice (some ⟨d5.gt, 0, none⟩) qS.c.length d5.ct, .int .i64 (qS.h : Nat)] 30))) HG.out.2 #[.slice (some ⟨d5.gx, 0, none⟩) qS.c.length d5.cx, .slice (some ⟨d5.gu, 0, none⟩) qS.c.length d5.cu, .slice (some ⟨d5.gt, 0, none⟩) qS.c.length d5.ct, .int .i64 (qS.h : Nat)]); clear hd5 hb5)
      | (go_at_call 21; with_reducible (refine (HPC.out w3 HS3.out).mono ?_); rintro e w4 ⟨rfl, hs4, hf4⟩; have h4 := HB3.out.1.fp hf4 (Nat.lt_of_lt_of_le HG.out.1 HBB.out); have HX4 := Lib.hid h4.dx; have HD4 := Lib.hid (HD3.out.fp hf4 HG.out.1); have HDC4 := Lib.hid (HDC.out w4 HD4.out (Nat.le_trans HBB.out (Nat.le_trans HB3.out.2.size hf4.below.size))); have c0 := h4.de.cell 0; have c1 := h4.de.cell 1; have c2 := h4.de.cell 2; simp only [List.getElem?_toArray, List.getElem?_cons_zero, List.getElem?_cons_succ] at c0 c1 c2; have HS4 := Lib.hid (And.intro hs4 hf4); clear h4 hs4 hf4))
    refine ret_d2 rfl rfl rfl rfl (setRow_heap _ _ _ _ _ _ HR5.out.1) ⟨d5, decide (pe = qe), ?_, HR5.out.2.1, HR5.out.2.2.1, HR5.out.2.2.2, fun h => by have := HMN.out h; simp at this; simp [this.2]⟩
    rfl
  · have hq2 : decide (pi = qi) = false := by simpa using hq
    unfold DoR
    go_enter Try.func13, Try.ntmps13
    go_upto_region 1 with (fail)
    generalize (((w.alloc (Obj.cells #[.slice (some ⟨d.gx, 0, none⟩) N.c.length d.cx, .slice (some ⟨d.gu, 0, none⟩) N.c.length d.cu, .slice (some ⟨d.gt, 0, none⟩) N.c.length d.ct, .int .i64 (N.h : Nat)] 30)).alloc (Obj.cells #[.int .i64 0, .int .i64 i, .string x] 35)).alloc (Obj.cells #[Value.slice none 0 0, .slice none 0 0, .slice none 0 0, .int .i64 0] 30)) = w3 at *
    have k0 := HB3.out.1.de.cell 0
    have k1 := HB3.out.1.de.cell 1
    have k2 := HB3.out.1.de.cell 2
    simp only [List.getElem?_toArray, List.getElem?_cons_zero, List.getElem?_cons_succ] at k0 k1 k2
    go_wp2_with (first
      | (refine wpList_load_row rfl 30 _ rfl w.heap.size rfl 30 _ _ _ HX4.out Try.underlying30 rfl infoD ?_)
      | (refine wpList_store_row rfl 30 _ _ rfl (w.heap.size + 2) _ rfl rfl 30 _ HR5.out.1 infoD rfl (all4 _ _ _ _ _ _ _ _) ?_)
      | (go_at_call 25; with_reducible (refine HDC4.out.mono ?_); rintro e w5 ⟨d5, rfl, hd5, hb5⟩; have HR5 := Lib.hid (do_end HS4.out.1 HG.out.1 HBB.out HB3.out.2 rfl HS4.out.2 HB3.out.1 (w5 := w5.alloc (Obj.cells #[.slice (some ⟨d5.gx, 0, none⟩) qS.c.length d5.cx, .slice (some ⟨d5.gu, 0, none⟩) qS.c.length d5.cu, .slice (some ⟨d5.gt, 0, none⟩) qS.c.length d5.ct, .int .i64 (qS.h : Nat)] 30)) (hb5.alloc hb5.size (Obj.cells #[.slice (some ⟨d5.gx, 0, none⟩) qS.c.length d5.cx, .slice (some ⟨d5.gu, 0, none⟩) qS.c.length d5.cu, .slice (some ⟨d5.gt, 0, none⟩) qS.c.length d5.ct, .int .i64 (qS.h : Nat)] 30)) (hd5.below ((Below.refl w5.heap.size w5).alloc (Nat.le_refl _) (Obj.cells #[.slice (some ⟨d5.gx, 0, none⟩) qS.c.length d5.cx, .slice (some ⟨d5.gu, 0, none⟩) qS.c.length d5.cu, .slice (some ⟨d5.gt, 0, none⟩) qS.c.length d5.ct, .int .i64 (qS.h : Nat)] 30))) HG.out.2 #[.slice (some ⟨d5.gx, 0, none⟩) qS.c.length d5.cx, .slice (some ⟨d5.gu, 0, none⟩) qS.c.length d5.cu, .slice (some ⟨d5.gt, 0, none⟩) qS.c.length d5.ct, .int .i64 (qS.h : Nat)]); clear hd5 hb5)
      | (go_at_call 21; with_reducible (refine (HPC.out w3 HS3.out).mono ?_); rintro e w4 ⟨rfl, hs4, hf4⟩; have h4 := HB3.out.1.fp hf4 (Nat.lt_of_lt_of_le HG.out.1 HBB.out); have HX4 := Lib.hid h4.dx; have HD4 := Lib.hid (HD3.out.fp hf4 HG.out.1); have HDC4 := Lib.hid (HDC.out w4 HD4.out (Nat.le_trans HBB.out (Nat.le_trans HB3.out.2.size hf4.below.size))); have c0 := h4.de.cell 0; have c1 := h4.de.cell 1; have c2 := h4.de.cell 2; simp only [List.getElem?_toArray, List.getElem?_cons_zero, List.getElem?_cons_succ] at c0 c1 c2; have HS4 := Lib.hid (And.intro hs4 hf4); clear h4 hs4 hf4))
    refine ret_d2 rfl rfl rfl rfl (setRow_heap _ _ _ _ _ _ HR5.out.1) ⟨d5, false, ?_, HR5.out.2.1, HR5.out.2.2.1, HR5.out.2.2.2, fun h => absurd (by have := HMN.out h; simp at this; exact this.2.1) hq⟩
    rfl

theorem get3 (i : Int) {w : World} {g b : Nat} {M : Ms} (h : Sp w g b M) : Calls Try.prog 22 #[.pointer (some ⟨g, 0, none⟩), .int .i64 i] w fun e w' => e = .returned (.tuple #[.string (getM M i).1, .bool (getM M i).2]) ∧ Sp w' g b M ∧ Fp g b w w' :=
  (get_any i h).mono fun e w' h2 => ⟨h2.1, h.keep h2.2, Fp.of h2.2 (Nat.le_of_lt h.bb.lt)⟩

set_option maxRecDepth 100000 in
set_option maxHeartbeats 2000000 in
theorem do_get (B : Nat) (i : Int) (x : ByteArray) {w : World} {g b : Nat} {M : Ms} (hs : Sp w g b M) (d : Dv) (N : Ms) (hN : N.Ok) (hD : Dw B w d N.c) (hg : g < B) (hB : B ≤ w.heap.size) : Calls Try.prog 13 #[.pointer (some ⟨g, 0, none⟩), dV d N, .agg #[.int .i64 1, .int .i64 i, .string x]] w fun e w' => DoR B g b w (M) (N) M N e w' := by
  rw [dV_eq]
  obtain ⟨h3, hl⟩ := bx3_of w d N 1 i x
  have hpc := fun (W : World) (hS : Sp W g b M) => get3 i hS
  have hdc := fun (W : World) (hDW : Dw B W d N.c) (hBW : B ≤ W.heap.size) => rget_any B i d N hN W hDW
  obtain ⟨pM, hpM⟩ : ∃ p, getM M i = p := ⟨_, rfl⟩
  obtain ⟨qN, hqN⟩ : ∃ p, getM N i = p := ⟨_, rfl⟩
  have HMN := Lib.hid (show M = N → pM = qN from fun h => by rw [← hpM, ← hqN, h])
  rw [hpM] at hpc
  rw [hqN] at hdc
  clear hpM hqN
  obtain ⟨pi, pe⟩ := pM
  obtain ⟨qi, qe⟩ := qN
  simp only at hpc hdc HMN
  rw [dV_eq] at hdc
  have HPC := Lib.hid hpc
  have HDC := Lib.hid hdc
  have HB3 := Lib.hid (And.intro h3 hl)
  have HS3 := Lib.hid (hs.keep hl)
  have HD3 := Lib.hid (hD.below hl)
  have HBB := Lib.hid hB
  have HG := Lib.hid (And.intro hg hs.gb)
  clear h3 hl hs hD hN hB hg hpc hdc
  by_cases hq : pi = qi
  · subst hq
    unfold DoR
    go_enter Try.func13, Try.ntmps13
    go_upto_region 1 with (fail)
    generalize (((w.alloc (Obj.cells #[.slice (some ⟨d.gx, 0, none⟩) N.c.length d.cx, .slice (some ⟨d.gu, 0, none⟩) N.c.length d.cu, .slice (some ⟨d.gt, 0, none⟩) N.c.length d.ct, .int .i64 (N.h : Nat)] 30)).alloc (Obj.cells #[.int .i64 1, .int .i64 i, .string x] 35)).alloc (Obj.cells #[Value.slice none 0 0, .slice none 0 0, .slice none 0 0, .int .i64 0] 30)) = w3 at *
    have k0 := HB3.out.1.de.cell 0
    have k1 := HB3.out.1.de.cell 1
    have k2 := HB3.out.1.de.cell 2
    simp only [List.getElem?_toArray, List.getElem?_cons_zero, List.getElem?_cons_succ] at k0 k1 k2
    go_wp2_with (first
      | (refine wpList_load_row rfl 30 _ rfl w.heap.size rfl 30 _ _ _ HX5.out Try.underlying30 rfl infoD ?_)
      | (refine wpList_load_row rfl 30 _ rfl w.heap.size rfl 30 _ _ _ HX4.out Try.underlying30 rfl infoD ?_)
      | (refine wpList_store_row rfl 30 _ _ rfl (w.heap.size + 2) _ rfl rfl 30 _ HR5.out.1 infoD rfl (all4 _ _ _ _ _ _ _ _) ?_)
      | (go_at_call 26; with_reducible (refine HDC4.out.mono ?_); rintro e w5 ⟨rfl, hb5⟩; have HR5 := Lib.hid (do_end HS4.out.1 HG.out.1 HBB.out HB3.out.2 rfl HS4.out.2 HB3.out.1 (w5 := w5) hb5 ((HD4.out).below hb5) HG.out.2 #[.slice (some ⟨d.gx, 0, none⟩) N.c.length d.cx, .slice (some ⟨d.gu, 0, none⟩) N.c.length d.cu, .slice (some ⟨d.gt, 0, none⟩) N.c.length d.ct, .int .i64 (N.h : Nat)]); have HX5 := Lib.hid (HX4.out.eq (hb5.block _ HX4.out.lt)); clear hb5)
      | (go_at_call 22; with_reducible (refine (HPC.out w3 HS3.out).mono ?_); rintro e w4 ⟨rfl, hs4, hf4⟩; have h4 := HB3.out.1.fp hf4 (Nat.lt_of_lt_of_le HG.out.1 HBB.out); have HX4 := Lib.hid h4.dx; have HD4 := Lib.hid (HD3.out.fp hf4 HG.out.1); have HDC4 := Lib.hid (HDC.out w4 HD4.out (Nat.le_trans HBB.out (Nat.le_trans HB3.out.2.size hf4.below.size))); have c0 := h4.de.cell 0; have c1 := h4.de.cell 1; have c2 := h4.de.cell 2; simp only [List.getElem?_toArray, List.getElem?_cons_zero, List.getElem?_cons_succ] at c0 c1 c2; have HS4 := Lib.hid (And.intro hs4 hf4); clear h4 hs4 hf4))
    refine ret_d2 rfl rfl rfl rfl (setRow_heap _ _ _ _ _ _ HR5.out.1) ⟨d, (pe == qe), ?_, HR5.out.2.1, HR5.out.2.2.1, HR5.out.2.2.2, fun h => by have := HMN.out h; simp at this; simp [this]⟩
    rfl
  · have hq2 : (pi.toList == qi.toList) = false := by simpa [ByteArray.toList_eq, ByteArray.ext_iff] using hq
    unfold DoR
    go_enter Try.func13, Try.ntmps13
    go_upto_region 1 with (fail)
    generalize (((w.alloc (Obj.cells #[.slice (some ⟨d.gx, 0, none⟩) N.c.length d.cx, .slice (some ⟨d.gu, 0, none⟩) N.c.length d.cu, .slice (some ⟨d.gt, 0, none⟩) N.c.length d.ct, .int .i64 (N.h : Nat)] 30)).alloc (Obj.cells #[.int .i64 1, .int .i64 i, .string x] 35)).alloc (Obj.cells #[Value.slice none 0 0, .slice none 0 0, .slice none 0 0, .int .i64 0] 30)) = w3 at *
    have k0 := HB3.out.1.de.cell 0
    have k1 := HB3.out.1.de.cell 1
    have k2 := HB3.out.1.de.cell 2
    simp only [List.getElem?_toArray, List.getElem?_cons_zero, List.getElem?_cons_succ] at k0 k1 k2
    go_wp2_with (first
      | (refine wpList_load_row rfl 30 _ rfl w.heap.size rfl 30 _ _ _ HX5.out Try.underlying30 rfl infoD ?_)
      | (refine wpList_load_row rfl 30 _ rfl w.heap.size rfl 30 _ _ _ HX4.out Try.underlying30 rfl infoD ?_)
      | (refine wpList_store_row rfl 30 _ _ rfl (w.heap.size + 2) _ rfl rfl 30 _ HR5.out.1 infoD rfl (all4 _ _ _ _ _ _ _ _) ?_)
      | (go_at_call 26; with_reducible (refine HDC4.out.mono ?_); rintro e w5 ⟨rfl, hb5⟩; have HR5 := Lib.hid (do_end HS4.out.1 HG.out.1 HBB.out HB3.out.2 rfl HS4.out.2 HB3.out.1 (w5 := w5) hb5 ((HD4.out).below hb5) HG.out.2 #[.slice (some ⟨d.gx, 0, none⟩) N.c.length d.cx, .slice (some ⟨d.gu, 0, none⟩) N.c.length d.cu, .slice (some ⟨d.gt, 0, none⟩) N.c.length d.ct, .int .i64 (N.h : Nat)]); have HX5 := Lib.hid (HX4.out.eq (hb5.block _ HX4.out.lt)); clear hb5)
      | (go_at_call 22; with_reducible (refine (HPC.out w3 HS3.out).mono ?_); rintro e w4 ⟨rfl, hs4, hf4⟩; have h4 := HB3.out.1.fp hf4 (Nat.lt_of_lt_of_le HG.out.1 HBB.out); have HX4 := Lib.hid h4.dx; have HD4 := Lib.hid (HD3.out.fp hf4 HG.out.1); have HDC4 := Lib.hid (HDC.out w4 HD4.out (Nat.le_trans HBB.out (Nat.le_trans HB3.out.2.size hf4.below.size))); have c0 := h4.de.cell 0; have c1 := h4.de.cell 1; have c2 := h4.de.cell 2; simp only [List.getElem?_toArray, List.getElem?_cons_zero, List.getElem?_cons_succ] at c0 c1 c2; have HS4 := Lib.hid (And.intro hs4 hf4); clear h4 hs4 hf4))
    refine ret_d2 rfl rfl rfl rfl (setRow_heap _ _ _ _ _ _ HR5.out.1) ⟨d, false, ?_, HR5.out.2.1, HR5.out.2.2.1, HR5.out.2.2.2, fun h => absurd (by have := HMN.out h; simp at this; exact this.1) hq⟩
    rfl

set_option maxRecDepth 100000 in
set_option maxHeartbeats 2000000 in
theorem do_touch (B : Nat) (i : Int) (x : ByteArray) {w : World} {g b : Nat} {M : Ms} (hs : Sp w g b M) (d : Dv) (N : Ms) (hN : N.Ok) (hD : Dw B w d N.c) (hg : g < B) (hB : B ≤ w.heap.size) : Calls Try.prog 13 #[.pointer (some ⟨g, 0, none⟩), dV d N, .agg #[.int .i64 2, .int .i64 i, .string x]] w fun e w' => DoR B g b w (touM M i) (touM N i) M N e w' := by
  rw [dV_eq]
  obtain ⟨h3, hl⟩ := bx3_of w d N 2 i x
  have hpc := fun (W : World) (hS : Sp W g b M) => touch_any i hS
  have hdc := fun (W : World) (hDW : Dw B W d N.c) (hBW : B ≤ W.heap.size) => rtouch_any B i d N hN W hDW hBW
  obtain ⟨pe, hpe⟩ : ∃ p, hasM M i = p := ⟨_, rfl⟩
  obtain ⟨qe, hqe⟩ : ∃ p, hasM N i = p := ⟨_, rfl⟩
  obtain ⟨pS, hpS⟩ : ∃ p, touM M i = p := ⟨_, rfl⟩
  obtain ⟨qS, hqS⟩ : ∃ p, touM N i = p := ⟨_, rfl⟩
  have HMN := Lib.hid (show M = N → pe = qe from fun h => by rw [← hpe, ← hqe, h])
  rw [hpe, hpS] at hpc
  rw [hqe, hqS] at hdc
  rw [hpS, hqS]
  clear hpe hqe hpS hqS
  simp only [dV_eq] at hdc
  have HPC := Lib.hid hpc
  have HDC := Lib.hid hdc
  have HB3 := Lib.hid (And.intro h3 hl)
  have HS3 := Lib.hid (hs.keep hl)
  have HD3 := Lib.hid (hD.below hl)
  have HBB := Lib.hid hB
  have HG := Lib.hid (And.intro hg hs.gb)
  clear h3 hl hs hD hN hB hg hpc hdc
  · unfold DoR
    go_enter Try.func13, Try.ntmps13
    go_upto_region 1 with (fail)
    generalize (((w.alloc (Obj.cells #[.slice (some ⟨d.gx, 0, none⟩) N.c.length d.cx, .slice (some ⟨d.gu, 0, none⟩) N.c.length d.cu, .slice (some ⟨d.gt, 0, none⟩) N.c.length d.ct, .int .i64 (N.h : Nat)] 30)).alloc (Obj.cells #[.int .i64 2, .int .i64 i, .string x] 35)).alloc (Obj.cells #[Value.slice none 0 0, .slice none 0 0, .slice none 0 0, .int .i64 0] 30)) = w3 at *
    have k0 := HB3.out.1.de.cell 0
    have k1 := HB3.out.1.de.cell 1
    have k2 := HB3.out.1.de.cell 2
    simp only [List.getElem?_toArray, List.getElem?_cons_zero, List.getElem?_cons_succ] at k0 k1 k2
    go_wp2_with (first
      | (refine wpList_load_row rfl 30 _ rfl w.heap.size rfl 30 _ _ _ HX4.out Try.underlying30 rfl infoD ?_)
      | (refine wpList_store_row rfl 30 _ _ rfl (w.heap.size + 2) _ rfl rfl 30 _ HR5.out.1 infoD rfl (all4 _ _ _ _ _ _ _ _) ?_)
      | (go_at_call 27; with_reducible (refine HDC4.out.mono ?_); rintro e w5 ⟨d5, rfl, hd5, hb5⟩; have HR5 := Lib.hid (do_end HS4.out.1 HG.out.1 HBB.out HB3.out.2 rfl HS4.out.2 HB3.out.1 (w5 := w5.alloc (Obj.cells #[.slice (some ⟨d5.gx, 0, none⟩) qS.c.length d5.cx, .slice (some ⟨d5.gu, 0, none⟩) qS.c.length d5.cu, .slice (some ⟨d5.gt, 0, none⟩) qS.c.length d5.ct, .int .i64 (qS.h : Nat)] 30)) (hb5.alloc hb5.size (Obj.cells #[.slice (some ⟨d5.gx, 0, none⟩) qS.c.length d5.cx, .slice (some ⟨d5.gu, 0, none⟩) qS.c.length d5.cu, .slice (some ⟨d5.gt, 0, none⟩) qS.c.length d5.ct, .int .i64 (qS.h : Nat)] 30)) (hd5.below ((Below.refl w5.heap.size w5).alloc (Nat.le_refl _) (Obj.cells #[.slice (some ⟨d5.gx, 0, none⟩) qS.c.length d5.cx, .slice (some ⟨d5.gu, 0, none⟩) qS.c.length d5.cu, .slice (some ⟨d5.gt, 0, none⟩) qS.c.length d5.ct, .int .i64 (qS.h : Nat)] 30))) HG.out.2 #[.slice (some ⟨d5.gx, 0, none⟩) qS.c.length d5.cx, .slice (some ⟨d5.gu, 0, none⟩) qS.c.length d5.cu, .slice (some ⟨d5.gt, 0, none⟩) qS.c.length d5.ct, .int .i64 (qS.h : Nat)]); clear hd5 hb5)
      | (go_at_call 20; with_reducible (refine (HPC.out w3 HS3.out).mono ?_); rintro e w4 ⟨rfl, hs4, hf4⟩; have h4 := HB3.out.1.fp hf4 (Nat.lt_of_lt_of_le HG.out.1 HBB.out); have HX4 := Lib.hid h4.dx; have HD4 := Lib.hid (HD3.out.fp hf4 HG.out.1); have HDC4 := Lib.hid (HDC.out w4 HD4.out (Nat.le_trans HBB.out (Nat.le_trans HB3.out.2.size hf4.below.size))); have c0 := h4.de.cell 0; have c1 := h4.de.cell 1; have c2 := h4.de.cell 2; simp only [List.getElem?_toArray, List.getElem?_cons_zero, List.getElem?_cons_succ] at c0 c1 c2; have HS4 := Lib.hid (And.intro hs4 hf4); clear h4 hs4 hf4))
    refine ret_d2 rfl rfl rfl rfl (setRow_heap _ _ _ _ _ _ HR5.out.1) ⟨d5, (pe == qe), ?_, HR5.out.2.1, HR5.out.2.2.1, HR5.out.2.2.2, fun h => by rw [HMN.out h]; simp⟩
    rfl

set_option maxRecDepth 100000 in
set_option maxHeartbeats 2000000 in
theorem do_free (B : Nat) (i : Int) (x : ByteArray) {w : World} {g b : Nat} {M : Ms} (hs : Sp w g b M) (d : Dv) (N : Ms) (hN : N.Ok) (hD : Dw B w d N.c) (hg : g < B) (hB : B ≤ w.heap.size) : Calls Try.prog 13 #[.pointer (some ⟨g, 0, none⟩), dV d N, .agg #[.int .i64 3, .int .i64 i, .string x]] w fun e w' => DoR B g b w (freM M i) (freM N i) M N e w' := by
  rw [dV_eq]
  obtain ⟨h3, hl⟩ := bx3_of w d N 3 i x
  have hpc := fun (W : World) (hS : Sp W g b M) => free_any i hS
  have hdc := fun (W : World) (hDW : Dw B W d N.c) (hBW : B ≤ W.heap.size) => rfree_any B i d N hN W hDW hBW
  obtain ⟨pe, hpe⟩ : ∃ p, hasM M i = p := ⟨_, rfl⟩
  obtain ⟨qe, hqe⟩ : ∃ p, hasM N i = p := ⟨_, rfl⟩
  obtain ⟨pS, hpS⟩ : ∃ p, freM M i = p := ⟨_, rfl⟩
  obtain ⟨qS, hqS⟩ : ∃ p, freM N i = p := ⟨_, rfl⟩
  have HMN := Lib.hid (show M = N → pe = qe from fun h => by rw [← hpe, ← hqe, h])
  rw [hpe, hpS] at hpc
  rw [hqe, hqS] at hdc
  rw [hpS, hqS]
  clear hpe hqe hpS hqS
  simp only [dV_eq] at hdc
  have HPC := Lib.hid hpc
  have HDC := Lib.hid hdc
  have HB3 := Lib.hid (And.intro h3 hl)
  have HS3 := Lib.hid (hs.keep hl)
  have HD3 := Lib.hid (hD.below hl)
  have HBB := Lib.hid hB
  have HG := Lib.hid (And.intro hg hs.gb)
  clear h3 hl hs hD hN hB hg hpc hdc
  · unfold DoR
    go_enter Try.func13, Try.ntmps13
    go_upto_region 1 with (fail)
    generalize (((w.alloc (Obj.cells #[.slice (some ⟨d.gx, 0, none⟩) N.c.length d.cx, .slice (some ⟨d.gu, 0, none⟩) N.c.length d.cu, .slice (some ⟨d.gt, 0, none⟩) N.c.length d.ct, .int .i64 (N.h : Nat)] 30)).alloc (Obj.cells #[.int .i64 3, .int .i64 i, .string x] 35)).alloc (Obj.cells #[Value.slice none 0 0, .slice none 0 0, .slice none 0 0, .int .i64 0] 30)) = w3 at *
    have k0 := HB3.out.1.de.cell 0
    have k1 := HB3.out.1.de.cell 1
    have k2 := HB3.out.1.de.cell 2
    simp only [List.getElem?_toArray, List.getElem?_cons_zero, List.getElem?_cons_succ] at k0 k1 k2
    go_wp2_with (first
      | (refine wpList_load_row rfl 30 _ rfl w.heap.size rfl 30 _ _ _ HX4.out Try.underlying30 rfl infoD ?_)
      | (refine wpList_store_row rfl 30 _ _ rfl (w.heap.size + 2) _ rfl rfl 30 _ HR5.out.1 infoD rfl (all4 _ _ _ _ _ _ _ _) ?_)
      | (go_at_call 28; with_reducible (refine HDC4.out.mono ?_); rintro e w5 ⟨d5, rfl, hd5, hb5⟩; have HR5 := Lib.hid (do_end HS4.out.1 HG.out.1 HBB.out HB3.out.2 rfl HS4.out.2 HB3.out.1 (w5 := w5.alloc (Obj.cells #[.slice (some ⟨d5.gx, 0, none⟩) qS.c.length d5.cx, .slice (some ⟨d5.gu, 0, none⟩) qS.c.length d5.cu, .slice (some ⟨d5.gt, 0, none⟩) qS.c.length d5.ct, .int .i64 (qS.h : Nat)] 30)) (hb5.alloc hb5.size (Obj.cells #[.slice (some ⟨d5.gx, 0, none⟩) qS.c.length d5.cx, .slice (some ⟨d5.gu, 0, none⟩) qS.c.length d5.cu, .slice (some ⟨d5.gt, 0, none⟩) qS.c.length d5.ct, .int .i64 (qS.h : Nat)] 30)) (hd5.below ((Below.refl w5.heap.size w5).alloc (Nat.le_refl _) (Obj.cells #[.slice (some ⟨d5.gx, 0, none⟩) qS.c.length d5.cx, .slice (some ⟨d5.gu, 0, none⟩) qS.c.length d5.cu, .slice (some ⟨d5.gt, 0, none⟩) qS.c.length d5.ct, .int .i64 (qS.h : Nat)] 30))) HG.out.2 #[.slice (some ⟨d5.gx, 0, none⟩) qS.c.length d5.cx, .slice (some ⟨d5.gu, 0, none⟩) qS.c.length d5.cu, .slice (some ⟨d5.gt, 0, none⟩) qS.c.length d5.ct, .int .i64 (qS.h : Nat)]); clear hd5 hb5)
      | (go_at_call 23; with_reducible (refine (HPC.out w3 HS3.out).mono ?_); rintro e w4 ⟨rfl, hs4, hf4⟩; have h4 := HB3.out.1.fp hf4 (Nat.lt_of_lt_of_le HG.out.1 HBB.out); have HX4 := Lib.hid h4.dx; have HD4 := Lib.hid (HD3.out.fp hf4 HG.out.1); have HDC4 := Lib.hid (HDC.out w4 HD4.out (Nat.le_trans HBB.out (Nat.le_trans HB3.out.2.size hf4.below.size))); have c0 := h4.de.cell 0; have c1 := h4.de.cell 1; have c2 := h4.de.cell 2; simp only [List.getElem?_toArray, List.getElem?_cons_zero, List.getElem?_cons_succ] at c0 c1 c2; have HS4 := Lib.hid (And.intro hs4 hf4); clear h4 hs4 hf4))
    refine ret_d2 rfl rfl rfl rfl (setRow_heap _ _ _ _ _ _ HR5.out.1) ⟨d5, (pe == qe), ?_, HR5.out.2.1, HR5.out.2.2.1, HR5.out.2.2.2, fun h => by rw [HMN.out h]; simp⟩
    rfl

set_option maxRecDepth 100000 in
set_option maxHeartbeats 2000000 in
theorem do_set (B : Nat) (i : Int) (x : ByteArray) {w : World} {g b : Nat} {M : Ms} (hs : Sp w g b M) (d : Dv) (N : Ms) (hN : N.Ok) (hD : Dw B w d N.c) (hg : g < B) (hB : B ≤ w.heap.size) : Calls Try.prog 13 #[.pointer (some ⟨g, 0, none⟩), dV d N, .agg #[.int .i64 4, .int .i64 i, .string x]] w fun e w' => DoR B g b w (setM M i x) (setM N i x) M N e w' := by
  rw [dV_eq]
  obtain ⟨h3, hl⟩ := bx3_of w d N 4 i x
  have hpc := fun (W : World) (hS : Sp W g b M) => set_any i x hS
  have hdc := fun (W : World) (hDW : Dw B W d N.c) (hBW : B ≤ W.heap.size) => rset_any B i x d N hN W hDW hBW
  obtain ⟨pe, hpe⟩ : ∃ p, hasM M i = p := ⟨_, rfl⟩
  obtain ⟨qe, hqe⟩ : ∃ p, hasM N i = p := ⟨_, rfl⟩
  obtain ⟨pS, hpS⟩ : ∃ p, setM M i x = p := ⟨_, rfl⟩
  obtain ⟨qS, hqS⟩ : ∃ p, setM N i x = p := ⟨_, rfl⟩
  have HMN := Lib.hid (show M = N → pe = qe from fun h => by rw [← hpe, ← hqe, h])
  rw [hpe, hpS] at hpc
  rw [hqe, hqS] at hdc
  rw [hpS, hqS]
  clear hpe hqe hpS hqS
  simp only [dV_eq] at hdc
  have HPC := Lib.hid hpc
  have HDC := Lib.hid hdc
  have HB3 := Lib.hid (And.intro h3 hl)
  have HS3 := Lib.hid (hs.keep hl)
  have HD3 := Lib.hid (hD.below hl)
  have HBB := Lib.hid hB
  have HG := Lib.hid (And.intro hg hs.gb)
  clear h3 hl hs hD hN hB hg hpc hdc
  · unfold DoR
    go_enter Try.func13, Try.ntmps13
    go_upto_region 1 with (fail)
    generalize (((w.alloc (Obj.cells #[.slice (some ⟨d.gx, 0, none⟩) N.c.length d.cx, .slice (some ⟨d.gu, 0, none⟩) N.c.length d.cu, .slice (some ⟨d.gt, 0, none⟩) N.c.length d.ct, .int .i64 (N.h : Nat)] 30)).alloc (Obj.cells #[.int .i64 4, .int .i64 i, .string x] 35)).alloc (Obj.cells #[Value.slice none 0 0, .slice none 0 0, .slice none 0 0, .int .i64 0] 30)) = w3 at *
    have k0 := HB3.out.1.de.cell 0
    have k1 := HB3.out.1.de.cell 1
    have k2 := HB3.out.1.de.cell 2
    simp only [List.getElem?_toArray, List.getElem?_cons_zero, List.getElem?_cons_succ] at k0 k1 k2
    go_wp2_with (first
      | (refine wpList_load_row rfl 30 _ rfl w.heap.size rfl 30 _ _ _ HX4.out Try.underlying30 rfl infoD ?_)
      | (refine wpList_store_row rfl 30 _ _ rfl (w.heap.size + 2) _ rfl rfl 30 _ HR5.out.1 infoD rfl (all4 _ _ _ _ _ _ _ _) ?_)
      | (go_at_call 29; with_reducible (refine HDC4.out.mono ?_); rintro e w5 ⟨d5, rfl, hd5, hb5⟩; have HR5 := Lib.hid (do_end HS4.out.1 HG.out.1 HBB.out HB3.out.2 rfl HS4.out.2 HB3.out.1 (w5 := w5.alloc (Obj.cells #[.slice (some ⟨d5.gx, 0, none⟩) qS.c.length d5.cx, .slice (some ⟨d5.gu, 0, none⟩) qS.c.length d5.cu, .slice (some ⟨d5.gt, 0, none⟩) qS.c.length d5.ct, .int .i64 (qS.h : Nat)] 30)) (hb5.alloc hb5.size (Obj.cells #[.slice (some ⟨d5.gx, 0, none⟩) qS.c.length d5.cx, .slice (some ⟨d5.gu, 0, none⟩) qS.c.length d5.cu, .slice (some ⟨d5.gt, 0, none⟩) qS.c.length d5.ct, .int .i64 (qS.h : Nat)] 30)) (hd5.below ((Below.refl w5.heap.size w5).alloc (Nat.le_refl _) (Obj.cells #[.slice (some ⟨d5.gx, 0, none⟩) qS.c.length d5.cx, .slice (some ⟨d5.gu, 0, none⟩) qS.c.length d5.cu, .slice (some ⟨d5.gt, 0, none⟩) qS.c.length d5.ct, .int .i64 (qS.h : Nat)] 30))) HG.out.2 #[.slice (some ⟨d5.gx, 0, none⟩) qS.c.length d5.cx, .slice (some ⟨d5.gu, 0, none⟩) qS.c.length d5.cu, .slice (some ⟨d5.gt, 0, none⟩) qS.c.length d5.ct, .int .i64 (qS.h : Nat)]); clear hd5 hb5)
      | (go_at_call 24; with_reducible (refine (HPC.out w3 HS3.out).mono ?_); rintro e w4 ⟨rfl, hs4, hf4⟩; have h4 := HB3.out.1.fp hf4 (Nat.lt_of_lt_of_le HG.out.1 HBB.out); have HX4 := Lib.hid h4.dx; have HD4 := Lib.hid (HD3.out.fp hf4 HG.out.1); have HDC4 := Lib.hid (HDC.out w4 HD4.out (Nat.le_trans HBB.out (Nat.le_trans HB3.out.2.size hf4.below.size))); have c0 := h4.de.cell 0; have c1 := h4.de.cell 1; have c2 := h4.de.cell 2; simp only [List.getElem?_toArray, List.getElem?_cons_zero, List.getElem?_cons_succ] at c0 c1 c2; have HS4 := Lib.hid (And.intro hs4 hf4); clear h4 hs4 hf4))
    refine ret_d2 rfl rfl rfl rfl (setRow_heap _ _ _ _ _ _ HR5.out.1) ⟨d5, (pe == qe), ?_, HR5.out.2.1, HR5.out.2.2.1, HR5.out.2.2.2, fun h => by rw [HMN.out h]; simp⟩
    rfl

set_option maxRecDepth 100000 in
set_option maxHeartbeats 2000000 in
theorem do_vic (B : Nat) (k : Int) (n0 : ¬ k = 0) (n1 : ¬ k = 1) (n2 : ¬ k = 2) (n3 : ¬ k = 3) (n4 : ¬ k = 4) (i : Int) (x : ByteArray) {w : World} {g b : Nat} {M : Ms} (hs : Sp w g b M) (d : Dv) (N : Ms) (hN : N.Ok) (hD : Dw B w d N.c) (hg : g < B) (hB : B ≤ w.heap.size) : Calls Try.prog 13 #[.pointer (some ⟨g, 0, none⟩), dV d N, .agg #[.int .i64 k, .int .i64 i, .string x]] w fun e w' => DoR B g b w ((vicM M).1) ((vicM N).1) M N e w' := by
  rw [dV_eq]
  obtain ⟨h3, hl⟩ := bx3_of w d N k i x
  have hpc := fun (W : World) (hS : Sp W g b M) => vic_any hS
  have hdc := fun (W : World) (hDW : Dw B W d N.c) (hBW : B ≤ W.heap.size) => rvic_any B d N hN W hDW hBW
  obtain ⟨pi, hpi⟩ : ∃ p, vicI M = p := ⟨_, rfl⟩
  obtain ⟨qi, hqi⟩ : ∃ p, vicI N = p := ⟨_, rfl⟩
  obtain ⟨pe, hpe⟩ : ∃ p, vicB M = p := ⟨_, rfl⟩
  obtain ⟨qe, hqe⟩ : ∃ p, vicB N = p := ⟨_, rfl⟩
  obtain ⟨pS, hpS⟩ : ∃ p, (vicM M).1 = p := ⟨_, rfl⟩
  obtain ⟨qS, hqS⟩ : ∃ p, (vicM N).1 = p := ⟨_, rfl⟩
  have HMN := Lib.hid (show M = N → pi = qi ∧ pe = qe from fun h => by rw [← hpe, ← hqe, ← hpi, ← hqi, h]; exact ⟨rfl, rfl⟩)
  rw [hpe, hpi, hpS] at hpc
  rw [hqe, hqi, hqS] at hdc
  rw [hpS, hqS]
  clear hpe hqe hpi hqi hpS hqS
  have m0 : (k == 0) = false := by simpa using n0
  have m1 : (k == 1) = false := by simpa using n1
  have m2 : (k == 2) = false := by simpa using n2
  have m3 : (k == 3) = false := by simpa using n3
  have m4 : (k == 4) = false := by simpa using n4
  simp only [dV_eq] at hdc
  have HPC := Lib.hid hpc
  have HDC := Lib.hid hdc
  have HB3 := Lib.hid (And.intro h3 hl)
  have HS3 := Lib.hid (hs.keep hl)
  have HD3 := Lib.hid (hD.below hl)
  have HBB := Lib.hid hB
  have HG := Lib.hid (And.intro hg hs.gb)
  clear h3 hl hs hD hN hB hg hpc hdc
  by_cases hq : pi = qi
  · subst hq
    unfold DoR
    go_enter Try.func13, Try.ntmps13
    go_upto_region 1 with (fail)
    generalize (((w.alloc (Obj.cells #[.slice (some ⟨d.gx, 0, none⟩) N.c.length d.cx, .slice (some ⟨d.gu, 0, none⟩) N.c.length d.cu, .slice (some ⟨d.gt, 0, none⟩) N.c.length d.ct, .int .i64 (N.h : Nat)] 30)).alloc (Obj.cells #[.int .i64 k, .int .i64 i, .string x] 35)).alloc (Obj.cells #[Value.slice none 0 0, .slice none 0 0, .slice none 0 0, .int .i64 0] 30)) = w3 at *
    have k0 := HB3.out.1.de.cell 0
    have k1 := HB3.out.1.de.cell 1
    have k2 := HB3.out.1.de.cell 2
    simp only [List.getElem?_toArray, List.getElem?_cons_zero, List.getElem?_cons_succ] at k0 k1 k2
    go_wp2_with (first
      | (refine wpList_load_row rfl 30 _ rfl w.heap.size rfl 30 _ _ _ HX4.out Try.underlying30 rfl infoD ?_)
      | (refine wpList_store_row rfl 30 _ _ rfl (w.heap.size + 2) _ rfl rfl 30 _ HR5.out.1 infoD rfl (all4 _ _ _ _ _ _ _ _) ?_)
      | (go_at_call 30; with_reducible (refine HDC4.out.mono ?_); rintro e w5 ⟨d5, rfl, hd5, hb5⟩; have HR5 := Lib.hid (do_end HS4.out.1 HG.out.1 HBB.out HB3.out.2 rfl HS4.out.2 HB3.out.1 (w5 := w5.alloc (Obj.cells #[.slice (some ⟨d5.gx, 0, none⟩) qS.c.length d5.cx, .slice (some ⟨d5.gu, 0, none⟩) qS.c.length d5.cu, .slice (some ⟨d5.gt, 0, none⟩) qS.c.length d5.ct, .int .i64 (qS.h : Nat)] 30)) (hb5.alloc hb5.size (Obj.cells #[.slice (some ⟨d5.gx, 0, none⟩) qS.c.length d5.cx, .slice (some ⟨d5.gu, 0, none⟩) qS.c.length d5.cu, .slice (some ⟨d5.gt, 0, none⟩) qS.c.length d5.ct, .int .i64 (qS.h : Nat)] 30)) (hd5.below ((Below.refl w5.heap.size w5).alloc (Nat.le_refl _) (Obj.cells #[.slice (some ⟨d5.gx, 0, none⟩) qS.c.length d5.cx, .slice (some ⟨d5.gu, 0, none⟩) qS.c.length d5.cu, .slice (some ⟨d5.gt, 0, none⟩) qS.c.length d5.ct, .int .i64 (qS.h : Nat)] 30))) HG.out.2 #[.slice (some ⟨d5.gx, 0, none⟩) qS.c.length d5.cx, .slice (some ⟨d5.gu, 0, none⟩) qS.c.length d5.cu, .slice (some ⟨d5.gt, 0, none⟩) qS.c.length d5.ct, .int .i64 (qS.h : Nat)]); clear hd5 hb5)
      | (go_at_call 19; with_reducible (refine (HPC.out w3 HS3.out).mono ?_); rintro e w4 ⟨rfl, hs4, hf4⟩; have h4 := HB3.out.1.fp hf4 (Nat.lt_of_lt_of_le HG.out.1 HBB.out); have HX4 := Lib.hid h4.dx; have HD4 := Lib.hid (HD3.out.fp hf4 HG.out.1); have HDC4 := Lib.hid (HDC.out w4 HD4.out (Nat.le_trans HBB.out (Nat.le_trans HB3.out.2.size hf4.below.size))); have c0 := h4.de.cell 0; have c1 := h4.de.cell 1; have c2 := h4.de.cell 2; simp only [List.getElem?_toArray, List.getElem?_cons_zero, List.getElem?_cons_succ] at c0 c1 c2; have HS4 := Lib.hid (And.intro hs4 hf4); clear h4 hs4 hf4))
    refine ret_d2 rfl rfl rfl rfl (setRow_heap _ _ _ _ _ _ HR5.out.1) ⟨d5, (pe == qe), ?_, HR5.out.2.1, HR5.out.2.2.1, HR5.out.2.2.2, fun h => by rw [(HMN.out h).2]; simp⟩
    rfl
  · have hq2 : decide (pi = qi) = false := by simpa using hq
    unfold DoR
    go_enter Try.func13, Try.ntmps13
    go_upto_region 1 with (fail)
    generalize (((w.alloc (Obj.cells #[.slice (some ⟨d.gx, 0, none⟩) N.c.length d.cx, .slice (some ⟨d.gu, 0, none⟩) N.c.length d.cu, .slice (some ⟨d.gt, 0, none⟩) N.c.length d.ct, .int .i64 (N.h : Nat)] 30)).alloc (Obj.cells #[.int .i64 k, .int .i64 i, .string x] 35)).alloc (Obj.cells #[Value.slice none 0 0, .slice none 0 0, .slice none 0 0, .int .i64 0] 30)) = w3 at *
    have k0 := HB3.out.1.de.cell 0
    have k1 := HB3.out.1.de.cell 1
    have k2 := HB3.out.1.de.cell 2
    simp only [List.getElem?_toArray, List.getElem?_cons_zero, List.getElem?_cons_succ] at k0 k1 k2
    go_wp2_with (first
      | (refine wpList_load_row rfl 30 _ rfl w.heap.size rfl 30 _ _ _ HX4.out Try.underlying30 rfl infoD ?_)
      | (refine wpList_store_row rfl 30 _ _ rfl (w.heap.size + 2) _ rfl rfl 30 _ HR5.out.1 infoD rfl (all4 _ _ _ _ _ _ _ _) ?_)
      | (go_at_call 30; with_reducible (refine HDC4.out.mono ?_); rintro e w5 ⟨d5, rfl, hd5, hb5⟩; have HR5 := Lib.hid (do_end HS4.out.1 HG.out.1 HBB.out HB3.out.2 rfl HS4.out.2 HB3.out.1 (w5 := w5.alloc (Obj.cells #[.slice (some ⟨d5.gx, 0, none⟩) qS.c.length d5.cx, .slice (some ⟨d5.gu, 0, none⟩) qS.c.length d5.cu, .slice (some ⟨d5.gt, 0, none⟩) qS.c.length d5.ct, .int .i64 (qS.h : Nat)] 30)) (hb5.alloc hb5.size (Obj.cells #[.slice (some ⟨d5.gx, 0, none⟩) qS.c.length d5.cx, .slice (some ⟨d5.gu, 0, none⟩) qS.c.length d5.cu, .slice (some ⟨d5.gt, 0, none⟩) qS.c.length d5.ct, .int .i64 (qS.h : Nat)] 30)) (hd5.below ((Below.refl w5.heap.size w5).alloc (Nat.le_refl _) (Obj.cells #[.slice (some ⟨d5.gx, 0, none⟩) qS.c.length d5.cx, .slice (some ⟨d5.gu, 0, none⟩) qS.c.length d5.cu, .slice (some ⟨d5.gt, 0, none⟩) qS.c.length d5.ct, .int .i64 (qS.h : Nat)] 30))) HG.out.2 #[.slice (some ⟨d5.gx, 0, none⟩) qS.c.length d5.cx, .slice (some ⟨d5.gu, 0, none⟩) qS.c.length d5.cu, .slice (some ⟨d5.gt, 0, none⟩) qS.c.length d5.ct, .int .i64 (qS.h : Nat)]); clear hd5 hb5)
      | (go_at_call 19; with_reducible (refine (HPC.out w3 HS3.out).mono ?_); rintro e w4 ⟨rfl, hs4, hf4⟩; have h4 := HB3.out.1.fp hf4 (Nat.lt_of_lt_of_le HG.out.1 HBB.out); have HX4 := Lib.hid h4.dx; have HD4 := Lib.hid (HD3.out.fp hf4 HG.out.1); have HDC4 := Lib.hid (HDC.out w4 HD4.out (Nat.le_trans HBB.out (Nat.le_trans HB3.out.2.size hf4.below.size))); have c0 := h4.de.cell 0; have c1 := h4.de.cell 1; have c2 := h4.de.cell 2; simp only [List.getElem?_toArray, List.getElem?_cons_zero, List.getElem?_cons_succ] at c0 c1 c2; have HS4 := Lib.hid (And.intro hs4 hf4); clear h4 hs4 hf4))
    refine ret_d2 rfl rfl rfl rfl (setRow_heap _ _ _ _ _ _ HR5.out.1) ⟨d5, false, ?_, HR5.out.2.1, HR5.out.2.2.1, HR5.out.2.2.2, fun h => absurd (HMN.out h).1 hq⟩
    rfl

/-- derricklaw10.do. -/
theorem do_any (B : Nat) (dd : De) {w : World} {g b : Nat} {M : Ms} (hs : Sp w g b M) (d : Dv) (N : Ms) (hN : N.Ok) (hD : Dw B w d N.c) (hg : g < B) (hB : B ≤ w.heap.size) : Calls Try.prog 13 #[.pointer (some ⟨g, 0, none⟩), dV d N, .agg #[.int .i64 dd.k, .int .i64 dd.i, .string dd.x]] w fun e w' => DoR B g b w (doM dd M) (doM dd N) M N e w' := by
  obtain ⟨k, i, x⟩ := dd
  unfold doM
  simp only
  by_cases n0 : k = 0
  · subst n0; exact do_put B i x hs d N hN hD hg hB
  by_cases n1 : k = 1
  · subst n1; exact do_get B i x hs d N hN hD hg hB
  by_cases n2 : k = 2
  · subst n2; exact do_touch B i x hs d N hN hD hg hB
  by_cases n3 : k = 3
  · subst n3; exact do_free B i x hs d N hN hD hg hB
  by_cases n4 : k = 4
  · subst n4; exact do_set B i x hs d N hN hD hg hB
  rw [if_neg n0, if_neg n0, if_neg n1, if_neg n1, if_neg n2, if_neg n2, if_neg n3, if_neg n3, if_neg n4, if_neg n4]
  exact do_vic B k n0 n1 n2 n3 n4 i x hs d N hN hD hg hB
end Go.Proofs.Ytpoienhmnaeaiaa
