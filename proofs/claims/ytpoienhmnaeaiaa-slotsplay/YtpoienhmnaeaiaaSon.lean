/- Deeds in memory; the region 'y, same := do(s, x, l[i])', prepared; the contract of derricklaw10.ran (written by tools/gen_son.py). -/
import Derived.Test.YtpoienhmnaeaiaaSom
namespace Go.Proofs.Ytpoienhmnaeaiaa
open Go.RowKit
set_option linter.unusedVariables false

/-- A slice of deeds. -/
structure Ds (w : World) (A : Option Addr) (cap : Nat) (l : List De) : Prop where
  has : ∀ j (h : j < l.length), ∃ b off, A = some ⟨b, off, none⟩ ∧ b < w.heap.size ∧ w.cell? ⟨b, off + j * 3, none⟩ = some (.int .i64 l[j].k) ∧ w.cell? ⟨b, off + j * 3 + 1, none⟩ = some (.int .i64 l[j].i) ∧ w.cell? ⟨b, off + j * 3 + 2, none⟩ = some (.string l[j].x)
/-- What the region's loads find. -/
structure Sq (q : Nat) (old : Array Value) (bb o : Nat) (dd : De) (wk : World) : Prop where
  bq : Blk wk q 30 old
  e0 : wk.cell? ⟨bb, o, none⟩ = some (.int .i64 dd.k)
  e1 : wk.cell? ⟨bb, o + 1, none⟩ = some (.int .i64 dd.i)
  e2 : wk.cell? ⟨bb, o + 2, none⟩ = some (.string dd.x)
structure Rc0 (B g b q B0 bb : Nat) : Prop where
  gB : g < B
  gq : g < q
  b0 : B0 ≤ b
  bb : bb < B0
  bg : b < g
structure Rt (B g b q B0 : Nat) (w0 : World) (old : Array Value) (bb o : Nat) (dd : De) (wk : World) (d : Dv) (M : Ms) (p : Option Nat) : Prop where
  sp : Sp wk g b M
  dw : Dw B wk d M.c
  sq : Sq q old bb o dd wk
  bl : Below B0 w0 wk
  sz : B ≤ wk.heap.size
  pp : ∀ r, p = some r → Blk wk r 30 zD ∧ r ≠ q ∧ g < r
section
variable {B g b q B0 bb o : Nat} {w0 wk wk' : World} {old : Array Value} {dd : De} {d : Dv} {M : Ms} {p : Option Nat}
theorem Sq.eq {wk' : World} (h : Sq q old bb o dd wk) (h1 : wk'.heap[q]? = wk.heap[q]?) (h2 : wk'.heap[bb]? = wk.heap[bb]?) : Sq q old bb o dd wk' :=
  ⟨h.bq.eq h1, (World.cell?_of_block (a := ⟨bb, o, none⟩) h2).trans h.e0, (World.cell?_of_block (a := ⟨bb, o + 1, none⟩) h2).trans h.e1, (World.cell?_of_block (a := ⟨bb, o + 2, none⟩) h2).trans h.e2⟩
theorem Rt.lt (h : Rt B g b q B0 w0 old bb o dd wk d M p) : bb < wk.heap.size := cell_size h.sq.e0
theorem Rt.go (h : Rt B g b q B0 w0 old bb o dd wk d M p) (hc : Rc0 B g b q B0 bb) (hb : Below wk.heap.size wk wk') : Rt B g b q B0 w0 old bb o dd wk' d M p :=
  ⟨h.sp.keep hb, h.dw.below hb, h.sq.eq (hb.block _ h.sq.bq.lt) (hb.block _ h.lt), h.bl.trans (hb.mono (by have := h.sp.bb.lt; have := hc.b0; omega)), Nat.le_trans h.sz hb.size, fun r e => ⟨(h.pp r e).1.eq (hb.block _ (h.pp r e).1.lt), (h.pp r e).2⟩⟩
theorem Rt.al (h : Rt B g b q B0 w0 old bb o dd wk d M none) (hc : Rc0 B g b q B0 bb) : Rt B g b q B0 w0 old bb o dd (wk.alloc (.cells zD 30)) d M (some wk.heap.size) := by
  have h2 := h.go hc ((Below.refl _ wk).alloc (Nat.le_refl _) (.cells zD 30))
  refine ⟨h2.sp, h2.dw, h2.sq, h2.bl, h2.sz, fun r e => ?_⟩
  cases e
  exact ⟨Blk.new wk _ _, by have := h.sq.bq.lt; omega, by have := h.sz; have := hc.gB; omega⟩
theorem Rt.doc (h : Rt B g b q B0 w0 old bb o dd wk d M p) (hc : Rc0 B g b q B0 bb) : Calls Try.prog 13 #[.pointer (some ⟨g, 0, none⟩), .agg #[.slice (some ⟨d.gx, 0, none⟩) M.c.length d.cx, .slice (some ⟨d.gu, 0, none⟩) M.c.length d.cu, .slice (some ⟨d.gt, 0, none⟩) M.c.length d.ct, .int .i64 (M.h : Nat)], .agg #[.int .i64 dd.k, .int .i64 dd.i, .string dd.x]] wk fun e w' => ∃ d1 : Dv, e = .returned (.tuple #[dV d1 (doM dd M), .bool true]) ∧ Rt B g b q B0 w0 old bb o dd w' d1 (doM dd M) p := by
  refine (do_any B dd h.sp d M h.sp.ok h.dw hc.gB h.sz).mono ?_
  rintro e w' ⟨d1, r, rfl, hs, hd, hf, hr⟩
  obtain rfl : r = true := hr rfl
  have h1 := hc.bb
  have h2 := hc.b0
  exact ⟨d1, rfl, hs, hd, h.sq.eq (hf.high _ hc.gq h.sq.bq.lt) (hf.below.block _ (by omega)), h.bl.trans (hf.below.mono h2), Nat.le_trans h.sz hf.below.size, fun r e => ⟨(h.pp r e).1.eq (hf.high _ (h.pp r e).2.2 (h.pp r e).1.lt), (h.pp r e).2⟩⟩
end
/-- What stands behind the region. -/
def DoX (B g b q B0 : Nat) (w0 : World) (old : Array Value) (M1 : Ms) (t r : Value) (wx : World) : Prop :=
  ∃ (p : Nat) (d1 : Dv), t = .pointer (some ⟨p, 0, none⟩) ∧ r = .bool true ∧ Blk wx p 30 #[.slice (some ⟨d1.gx, 0, none⟩) M1.c.length d1.cx, .slice (some ⟨d1.gu, 0, none⟩) M1.c.length d1.cu, .slice (some ⟨d1.gt, 0, none⟩) M1.c.length d1.ct, .int .i64 (M1.h : Nat)] ∧ Blk wx q 30 old ∧ Sp wx g b M1 ∧ Dw B wx d1 M1.c ∧ Below B0 w0 wx ∧ B ≤ wx.heap.size
section
variable {ops : Array Oper} {o' : Oper} {a : Act} {K : Act → World → Prop} {Q : Exit → Act → World → Prop} {F : Prop} {B g b q B0 bb o : Nat} {w0 wk : World} {old : Array Value} {dd : De} {d : Dv} {M : Ms}
theorem sAl (h : Rt B g b q B0 w0 old bb o dd wk d M none) (hc : Rc0 B g b q B0 bb) (hg : o'.guard = none) (ho : o'.op = .alloc 30) (hK : ∀ w', Rt B g b q B0 w0 old bb o dd w' d M (some wk.heap.size) → K (a.put o'.dst (.pointer (some ⟨wk.heap.size, 0, none⟩))) w') : if Region.wanted o' (yielded ops a.tmps) = true then Oper.wp Try.prog o' a wk K Q else F := by
  rw [if_pos (wanted_of hg)]
  have h2 := hK _ (h.al hc)
  unfold Oper.wp
  simp only [execOp, ho]
  go_simp
  exact h2
theorem sSt {p : Nat} (h : Rt B g b q B0 w0 old bb o dd wk d M (some p)) (hc : Rc0 B g b q B0 bb) (hg : o'.guard = none) {y z : Operand} (ho : o'.op = .store 30 y z) (hy : a.eval y = .pointer (some ⟨p, 0, none⟩)) (hz : a.eval z = .agg #[.slice (some ⟨d.gx, 0, none⟩) M.c.length d.cx, .slice (some ⟨d.gu, 0, none⟩) M.c.length d.cu, .slice (some ⟨d.gt, 0, none⟩) M.c.length d.ct, .int .i64 (M.h : Nat)])
    (hK : ∀ w', DoX B g b q B0 w0 old M (.pointer (some ⟨p, 0, none⟩)) (.bool true) w' → Sq q old bb o dd w' → K (a.put o'.dst undef) w') : if Region.wanted o' (yielded ops a.tmps) = true then Oper.wp Try.prog o' a wk K Q else F := by
  rw [if_pos (wanted_of hg)]
  obtain ⟨hp, hne, hgp⟩ := h.pp p rfl
  have h1 := hc.bb
  have h2 := hc.b0
  have h3 := hc.bg
  have hsq := h.sq.eq (wk' := wk.setRow p #[.slice (some ⟨d.gx, 0, none⟩) M.c.length d.cx, .slice (some ⟨d.gu, 0, none⟩) M.c.length d.cu, .slice (some ⟨d.gt, 0, none⟩) M.c.length d.ct, .int .i64 (M.h : Nat)]) (setRow_other _ _ _ _ (Ne.symm hne)) (setRow_other _ _ _ _ (by omega))
  refine wp_store_row 30 y z ho p _ hy hz 30 zD hp infoD rfl (all4 _ _ _ _ _ _ _ _) (hK _ ⟨p, d, rfl, rfl, setRow_heap _ _ _ _ _ _ hp, hsq.bq, h.sp.setRow hgp _, h.dw.setRow hp, setRow_below h.bl (by omega) _, by rw [setRow_size]; exact h.sz⟩ hsq)
end

set_option maxRecDepth 100000 in
set_option maxHeartbeats 4000000 in
theorem ran_any (A : Option Addr) (cap : Nat) (l : List De) (w : World) (hA : Ds w A cap l) : Calls Try.prog 18 #[.slice A l.length cap] w fun e w' => ∃ (g b : Nat) (M : Ms), e = .returned (.pointer (some ⟨g, 0, none⟩)) ∧ Sp w' g b M ∧ M.c.length = 8 ∧ w.heap.size ≤ b ∧ Below w.heap.size w w' := by
  have HC1 := Lib.hid (new_z 8 8 rfl (by omega) (by omega) w)
  have HA := Lib.hid hA
  clear hA
  go_enter Try.func18, Try.ntmps18
  go_upto_region 3 with (first
    | (go_at_call 12; with_reducible (refine HC2.out.mono ?_); rintro e w2 ⟨d0, rfl, hD2, hb2⟩; simp only [dV_eq])
    | (go_at_call 10; with_reducible (refine HC1.out.mono ?_); rintro e w1 ⟨rfl, hs1, hb1, hz1⟩; have HC2 := Lib.hid (rnew_z 8 8 rfl (by omega) (by omega) w1)))
  have hlb := Nat.le_of_lt (Nat.lt_succ_self w.heap.size)
  have hb12 := hb1.trans (hb2.mono hb1.size)
  have hs3 := (hs1.keep hb2).keep ((Below.refl _ w2).alloc (Nat.le_refl _) (Obj.cells #[.slice (some ⟨d0.gx, 0, none⟩) (newM 8).c.length d0.cx, .slice (some ⟨d0.gu, 0, none⟩) (newM 8).c.length d0.cu, .slice (some ⟨d0.gt, 0, none⟩) (newM 8).c.length d0.ct, .int .i64 ((newM 8).h : Nat)] 30))
  have hd3 := hD2.below ((Below.refl _ w2).alloc (Nat.le_refl _) (Obj.cells #[.slice (some ⟨d0.gx, 0, none⟩) (newM 8).c.length d0.cx, .slice (some ⟨d0.gu, 0, none⟩) (newM 8).c.length d0.cu, .slice (some ⟨d0.gt, 0, none⟩) (newM 8).c.length d0.ct, .int .i64 ((newM 8).h : Nat)] 30))
  have hq3 := Blk.new w2 30 #[.slice (some ⟨d0.gx, 0, none⟩) (newM 8).c.length d0.cx, .slice (some ⟨d0.gu, 0, none⟩) (newM 8).c.length d0.cu, .slice (some ⟨d0.gt, 0, none⟩) (newM 8).c.length d0.ct, .int .i64 ((newM 8).h : Nat)]
  have hb3 := hb12.alloc hb12.size (Obj.cells #[.slice (some ⟨d0.gx, 0, none⟩) (newM 8).c.length d0.cx, .slice (some ⟨d0.gu, 0, none⟩) (newM 8).c.length d0.cu, .slice (some ⟨d0.gt, 0, none⟩) (newM 8).c.length d0.ct, .int .i64 ((newM 8).h : Nat)] 30)
  have hz3 : w1.heap.size ≤ (w2.alloc (Obj.cells #[.slice (some ⟨d0.gx, 0, none⟩) (newM 8).c.length d0.cx, .slice (some ⟨d0.gu, 0, none⟩) (newM 8).c.length d0.cu, .slice (some ⟨d0.gt, 0, none⟩) (newM 8).c.length d0.ct, .int .i64 ((newM 8).h : Nat)] 30)).heap.size := Nat.le_trans hb2.size ((Below.refl w2.heap.size w2).alloc (Nat.le_refl _) (Obj.cells #[.slice (some ⟨d0.gx, 0, none⟩) (newM 8).c.length d0.cx, .slice (some ⟨d0.gu, 0, none⟩) (newM 8).c.length d0.cu, .slice (some ⟨d0.gt, 0, none⟩) (newM 8).c.length d0.ct, .int .i64 ((newM 8).h : Nat)] 30)).size
  have HI := Lib.hid (And.intro hs3 (And.intro hd3 (And.intro hq3 (And.intro hb3 hz3))))
  have HQ := Lib.hid (show w1.heap.size = w.heap.size + 2 ∧ w1.heap.size ≤ w2.heap.size from ⟨hz1, hb2.size⟩)
  clear hs1 hb1 hz1 hD2 hb2 hlb hb12 hs3 hd3 hq3 hb3 hz3
  generalize w2.alloc (Obj.cells #[.slice (some ⟨d0.gx, 0, none⟩) (newM 8).c.length d0.cx, .slice (some ⟨d0.gu, 0, none⟩) (newM 8).c.length d0.cu, .slice (some ⟨d0.gt, 0, none⟩) (newM 8).c.length d0.ct, .int .i64 ((newM 8).h : Nat)] 30) = w3 at *
  generalize hB : w1.heap.size = B at *
  generalize hq : w2.heap.size = q at *
  clear hB hq
  go_wp2_with fail
  go_loopw [5] (fun v wr => ∃ (j : Nat) (d : Dv) (M : Ms), j ≤ l.length ∧ j ≤ 300 ∧ v = .int .i64 j ∧ M.c.length = 8 ∧ Sp wr (w.heap.size + 1) w.heap.size M ∧ Dw B wr d M.c ∧ Blk wr q 30 #[.slice (some ⟨d.gx, 0, none⟩) M.c.length d.cx, .slice (some ⟨d.gu, 0, none⟩) M.c.length d.cu, .slice (some ⟨d.gt, 0, none⟩) M.c.length d.ct, .int .i64 (M.h : Nat)] ∧ Below w.heap.size w wr ∧ B ≤ wr.heap.size) (fun v _ => 300 - (intOf v).toNat)
  case atStart => exact ⟨0, d0, newM 8, Nat.zero_le _, Nat.zero_le _, rfl, by simp [newM], HI.out.1, HI.out.2.1, HI.out.2.2.1, HI.out.2.2.2.1, HI.out.2.2.2.2⟩
  case round =>
    clear HI HC1 HC2
    obtain ⟨j, d, M, hj, hj3, rfl, hM, hs, hd, hq, hb, hz⟩ := hrel
    by_cases hlt : j < l.length
    · have d1 : decide ((j : Int) < (l.length : Int)) = true := by simp; omega
      by_cases hl3 : j < 300
      · have d2 : decide ((j : Int) < 300) = true := by simp; omega
        obtain ⟨bb, off, rfl, hbb, a0, a1, a2⟩ := HA.out.has j hlt
        have hc : Rc0 B (w.heap.size + 1) w.heap.size q w.heap.size bb := ⟨by have := HQ.out; omega, by have := HQ.out; omega, Nat.le_refl _, hbb, by omega⟩
        generalize l[j] = dd at *
        have hR : Rt B (w.heap.size + 1) w.heap.size q w.heap.size w #[.slice (some ⟨d.gx, 0, none⟩) M.c.length d.cx, .slice (some ⟨d.gu, 0, none⟩) M.c.length d.cu, .slice (some ⟨d.gt, 0, none⟩) M.c.length d.ct, .int .i64 (M.h : Nat)] bb (off + j * 3) dd wr d M none := ⟨hs, hd, ⟨hq, (hb.cell (p := ⟨bb, off + j * 3, none⟩) hbb).trans a0, (hb.cell (p := ⟨bb, off + j * 3 + 1, none⟩) hbb).trans a1, (hb.cell (p := ⟨bb, off + j * 3 + 2, none⟩) hbb).trans a2⟩, hb, hz, fun r e => by cases e⟩
        have HR := Lib.hid (And.intro hR hc)
        have s0 : (0 : Int) ≤ (j : Nat) := by omega
        have s1 : (j : Int) < (l.length : Nat) := by omega
        have HM := Lib.hid (show (doM dd M).c.length = 8 by rw [doM_len hs.ok, hM])
        clear hs hd hq hb hz a0 a1 a2 hR hc hM hbb
        go_upto_region 6 with (fail)
        go_cut [6, 7] (fun t r wx => DoX B (w.heap.size + 1) w.heap.size q w.heap.size w #[.slice (some ⟨d.gx, 0, none⟩) M.c.length d.cx, .slice (some ⟨d.gu, 0, none⟩) M.c.length d.cu, .slice (some ⟨d.gt, 0, none⟩) M.c.length d.ct, .int .i64 (M.h : Nat)] (doM dd M) t r wx)
        case first =>
          obtain ⟨hR, hc⟩ := HR.out
          have hR := hR.go hc ((Below.refl _ wr).drew)
          refine wp_region_held_drew (S := fun wq => Sq q #[.slice (some ⟨d.gx, 0, none⟩) M.c.length d.cx, .slice (some ⟨d.gu, 0, none⟩) M.c.length d.cu, .slice (some ⟨d.gt, 0, none⟩) M.c.length d.ct, .int .i64 (M.h : Nat)] bb (off + j * 3) dd wq) (by kernel_rfl) hR.sq (fun _ => ?_)
          generalize wr.drew = wk0 at *
          refine wpAnyH_take (i := 0) (v := ?_) rfl (by kernel_rfl) (by kernel_rfl) (by kernel_rfl) (fun _ _ _ h => h) (Or.inl ⟨by rfl, ?_⟩) (by assumption) ?_
          rotate_left
          · (intro wq hSw; go_simp; try (with_reducible rfl))
          simp only [Act.put, List.getElem_toArray, List.getElem_cons_zero, List.setIfInBounds_toArray, List.set_cons_zero, List.set_cons_succ]
          refine wpAnyH_take (i := 1) (v := .agg #[.slice (some ⟨d.gx, 0, none⟩) M.c.length d.cx, .slice (some ⟨d.gu, 0, none⟩) M.c.length d.cu, .slice (some ⟨d.gt, 0, none⟩) M.c.length d.ct, .int .i64 (M.h : Nat)]) rfl (by kernel_rfl) (by kernel_rfl) (by kernel_rfl) (fun _ _ _ h => h) (Or.inl ⟨by rfl, ?_⟩) (by assumption) ?_
          · (intro wq hSw; have b0 := hSw.bq.cell 0; have b1 := hSw.bq.cell 1; have b2 := hSw.bq.cell 2; have b3 := hSw.bq.cell 3; simp only [List.getElem?_toArray, List.getElem?_cons_zero, List.getElem?_cons_succ] at b0 b1 b2 b3; go_simp; try rfl)
          simp only [Act.put, List.getElem_toArray, List.getElem_cons_zero, List.getElem_cons_succ, List.setIfInBounds_toArray, List.set_cons_zero, List.set_cons_succ]
          refine wpAnyH_take (i := 2) (v := ?_) rfl (by kernel_rfl) (by kernel_rfl) (by kernel_rfl) (fun _ _ _ h => h) (Or.inl ⟨by rfl, ?_⟩) (by assumption) ?_
          rotate_left
          · (intro wq hSw; go_simp; try (with_reducible rfl))
          simp only [Act.put, List.getElem_toArray, List.getElem_cons_zero, List.getElem_cons_succ, List.setIfInBounds_toArray, List.set_cons_zero, List.set_cons_succ]
          refine wpAnyH_take (i := 3) (v := ?_) rfl (by kernel_rfl) (by kernel_rfl) (by kernel_rfl) (fun _ _ _ h => h) (Or.inl ⟨by rfl, ?_⟩) (by assumption) ?_
          rotate_left
          · (intro wq hSw; go_simp; try (with_reducible rfl))
          simp only [Act.put, List.getElem_toArray, List.getElem_cons_zero, List.getElem_cons_succ, List.setIfInBounds_toArray, List.set_cons_zero, List.set_cons_succ]
          refine wpAnyH_take (i := 4) (v := ?_) rfl (by kernel_rfl) (by kernel_rfl) (by kernel_rfl) (fun _ _ _ h => h) (Or.inl ⟨by rfl, ?_⟩) (by assumption) ?_
          rotate_left
          · (intro wq hSw; go_simp; try (with_reducible rfl))
          simp only [Act.put, List.getElem_toArray, List.getElem_cons_zero, List.getElem_cons_succ, List.setIfInBounds_toArray, List.set_cons_zero, List.set_cons_succ]
          refine wpAnyH_take (i := 5) (v := .agg #[.int .i64 dd.k, .int .i64 dd.i, .string dd.x]) rfl (by kernel_rfl) (by kernel_rfl) (by kernel_rfl) (fun _ _ _ h => h) (Or.inl ⟨by rfl, ?_⟩) (by assumption) ?_
          · (intro wq hSw; obtain ⟨_, e0, e1, e2⟩ := hSw; go_simp; try rfl)
          simp only [Act.put, List.getElem_toArray, List.getElem_cons_zero, List.getElem_cons_succ, List.setIfInBounds_toArray, List.set_cons_zero, List.set_cons_succ]
          refine wpAnyH_ready (rs := [6, 10]) (by kernel_rfl) (by simp) ?_
          refine AllReadyH.cons rfl (fun K hK => ?_) (AllReadyH.cons rfl (fun K hK => ?_) (AllReadyH.nil))
          · go_simp
            go_wp2_with (go_at_call 13; refine Calls.mono (hR.doc hc) ?_; rintro e wk1 ⟨d1, rfl, hR1⟩)
            simp only [dV_eq]
            refine hK.out _ _ hR1.sq (fun _ => ?_)
            clear hK K
            refine wpAnyH_take (i := 7) (v := ?_) rfl (by kernel_rfl) (by kernel_rfl) (by kernel_rfl) (fun _ _ _ h => h) (Or.inl ⟨by rfl, ?_⟩) (by assumption) ?_
            rotate_left
            · (intro wq hSw; go_simp; try (with_reducible rfl))
            simp only [Act.put, List.getElem_toArray, List.getElem_cons_zero, List.getElem_cons_succ, List.setIfInBounds_toArray, List.set_cons_zero, List.set_cons_succ]
            refine wpAnyH_take (i := 8) (v := ?_) rfl (by kernel_rfl) (by kernel_rfl) (by kernel_rfl) (fun _ _ _ h => h) (Or.inl ⟨by rfl, ?_⟩) (by assumption) ?_
            rotate_left
            · (intro wq hSw; go_simp; try (with_reducible rfl))
            simp only [Act.put, List.getElem_toArray, List.getElem_cons_zero, List.getElem_cons_succ, List.setIfInBounds_toArray, List.set_cons_zero, List.set_cons_succ]
            refine wpAnyH_take (i := 9) (v := ?_) rfl (by kernel_rfl) (by kernel_rfl) (by kernel_rfl) (fun _ _ _ h => h) (Or.inl ⟨by rfl, ?_⟩) (by assumption) ?_
            rotate_left
            · (intro wq hSw; go_simp; try (with_reducible rfl))
            simp only [Act.put, List.getElem_toArray, List.getElem_cons_zero, List.getElem_cons_succ, List.setIfInBounds_toArray, List.set_cons_zero, List.set_cons_succ]
            refine wpAnyH_ready (rs := [10]) (by kernel_rfl) (by simp) ?_
            refine AllReadyH.cons rfl (fun K hK => ?_) (AllReadyH.nil)
            refine sAl hR1 hc rfl rfl fun wk2 hR2 => ?_
            simp only [Act.put, List.getElem_toArray, List.getElem_cons_zero, List.getElem_cons_succ, List.setIfInBounds_toArray, List.set_cons_zero, List.set_cons_succ]
            refine hK.out _ _ hR2.sq (fun _ => ?_)
            clear hK K
            refine wpAnyH_ready (rs := [11]) (by kernel_rfl) (by simp) ?_
            refine AllReadyH.cons rfl (fun K hK => ?_) (AllReadyH.nil)
            refine sSt hR2 hc rfl rfl rfl rfl fun wx hX hS => ?_
            simp only [Act.put, List.getElem_toArray, List.getElem_cons_zero, List.getElem_cons_succ]
            refine hK.out _ _ hS (fun _ => ?_)
            clear hK K
            refine wpAnyH_take (i := 12) (v := ?_) rfl (by kernel_rfl) (by kernel_rfl) (by kernel_rfl) (fun _ _ _ h => h) (Or.inl ⟨by rfl, ?_⟩) (by assumption) ?_
            rotate_left
            · (intro wq hSw; go_simp; try (with_reducible rfl))
            simp only [Act.put, List.getElem_toArray, List.getElem_cons_zero, List.getElem_cons_succ, List.setIfInBounds_toArray, List.set_cons_zero, List.set_cons_succ]
            refine wpAnyH_done (by kernel_rfl) ?_ _
            go_wp2_with fail
            go_meet
            case rel => exact hX
          · refine sAl hR hc rfl rfl fun wk1 hR1 => ?_
            simp only [Act.put, List.getElem_toArray, List.getElem_cons_zero, List.getElem_cons_succ, List.setIfInBounds_toArray, List.set_cons_zero, List.set_cons_succ]
            refine hK.out _ _ hR1.sq (fun _ => ?_)
            clear hK K
            refine wpAnyH_ready (rs := [6]) (by kernel_rfl) (by simp) ?_
            refine AllReadyH.cons rfl (fun K hK => ?_) (AllReadyH.nil)
            go_simp
            go_wp2_with (go_at_call 13; refine Calls.mono (hR1.doc hc) ?_; rintro e wk2 ⟨d2, rfl, hR2⟩)
            simp only [dV_eq]
            refine hK.out _ _ hR2.sq (fun _ => ?_)
            clear hK K
            refine wpAnyH_take (i := 7) (v := ?_) rfl (by kernel_rfl) (by kernel_rfl) (by kernel_rfl) (fun _ _ _ h => h) (Or.inl ⟨by rfl, ?_⟩) (by assumption) ?_
            rotate_left
            · (intro wq hSw; go_simp; try (with_reducible rfl))
            simp only [Act.put, List.getElem_toArray, List.getElem_cons_zero, List.getElem_cons_succ, List.setIfInBounds_toArray, List.set_cons_zero, List.set_cons_succ]
            refine wpAnyH_take (i := 8) (v := ?_) rfl (by kernel_rfl) (by kernel_rfl) (by kernel_rfl) (fun _ _ _ h => h) (Or.inl ⟨by rfl, ?_⟩) (by assumption) ?_
            rotate_left
            · (intro wq hSw; go_simp; try (with_reducible rfl))
            simp only [Act.put, List.getElem_toArray, List.getElem_cons_zero, List.getElem_cons_succ, List.setIfInBounds_toArray, List.set_cons_zero, List.set_cons_succ]
            refine wpAnyH_take (i := 9) (v := ?_) rfl (by kernel_rfl) (by kernel_rfl) (by kernel_rfl) (fun _ _ _ h => h) (Or.inl ⟨by rfl, ?_⟩) (by assumption) ?_
            rotate_left
            · (intro wq hSw; go_simp; try (with_reducible rfl))
            simp only [Act.put, List.getElem_toArray, List.getElem_cons_zero, List.getElem_cons_succ, List.setIfInBounds_toArray, List.set_cons_zero, List.set_cons_succ]
            refine wpAnyH_ready (rs := [11]) (by kernel_rfl) (by simp) ?_
            refine AllReadyH.cons rfl (fun K hK => ?_) (AllReadyH.nil)
            refine sSt hR2 hc rfl rfl rfl rfl fun wx hX hS => ?_
            simp only [Act.put, List.getElem_toArray, List.getElem_cons_zero, List.getElem_cons_succ]
            refine hK.out _ _ hS (fun _ => ?_)
            clear hK K
            refine wpAnyH_take (i := 12) (v := ?_) rfl (by kernel_rfl) (by kernel_rfl) (by kernel_rfl) (fun _ _ _ h => h) (Or.inl ⟨by rfl, ?_⟩) (by assumption) ?_
            rotate_left
            · (intro wq hSw; go_simp; try (with_reducible rfl))
            simp only [Act.put, List.getElem_toArray, List.getElem_cons_zero, List.getElem_cons_succ, List.setIfInBounds_toArray, List.set_cons_zero, List.set_cons_succ]
            refine wpAnyH_done (by kernel_rfl) ?_ _
            go_wp2_with fail
            go_meet
            case rel => exact hX
        case rest =>
          obtain ⟨p, d1, rfl, rfl, hp, hq, hs, hd, hb, hz⟩ := hcut
          have hq2 : w.heap.size + 1 < q := HR.out.2.gq
          have HP := Lib.hid hp
          have HQ2 := Lib.hid hq
          generalize doM dd M = M1 at *
          have HF := Lib.hid (show Sp (wc.setRow q #[.slice (some ⟨d1.gx, 0, none⟩) M1.c.length d1.cx, .slice (some ⟨d1.gu, 0, none⟩) M1.c.length d1.cu, .slice (some ⟨d1.gt, 0, none⟩) M1.c.length d1.ct, .int .i64 (M1.h : Nat)]) (w.heap.size + 1) w.heap.size M1 ∧ Dw B (wc.setRow q #[.slice (some ⟨d1.gx, 0, none⟩) M1.c.length d1.cx, .slice (some ⟨d1.gu, 0, none⟩) M1.c.length d1.cu, .slice (some ⟨d1.gt, 0, none⟩) M1.c.length d1.ct, .int .i64 (M1.h : Nat)]) d1 M1.c ∧ Blk (wc.setRow q #[.slice (some ⟨d1.gx, 0, none⟩) M1.c.length d1.cx, .slice (some ⟨d1.gu, 0, none⟩) M1.c.length d1.cu, .slice (some ⟨d1.gt, 0, none⟩) M1.c.length d1.ct, .int .i64 (M1.h : Nat)]) q 30 #[.slice (some ⟨d1.gx, 0, none⟩) M1.c.length d1.cx, .slice (some ⟨d1.gu, 0, none⟩) M1.c.length d1.cu, .slice (some ⟨d1.gt, 0, none⟩) M1.c.length d1.ct, .int .i64 (M1.h : Nat)] ∧ Below w.heap.size w (wc.setRow q #[.slice (some ⟨d1.gx, 0, none⟩) M1.c.length d1.cx, .slice (some ⟨d1.gu, 0, none⟩) M1.c.length d1.cu, .slice (some ⟨d1.gt, 0, none⟩) M1.c.length d1.ct, .int .i64 (M1.h : Nat)]) ∧ B ≤ (wc.setRow q #[.slice (some ⟨d1.gx, 0, none⟩) M1.c.length d1.cx, .slice (some ⟨d1.gu, 0, none⟩) M1.c.length d1.cu, .slice (some ⟨d1.gt, 0, none⟩) M1.c.length d1.ct, .int .i64 (M1.h : Nat)]).heap.size from ⟨hs.setRow hq2 _, hd.setRow hq, setRow_heap _ _ _ _ _ _ hq, setRow_below hb (by omega) _, by rw [setRow_size]; exact hz⟩)
          clear hp hq hs hd hb hz HR
          go_wp2_with (first | (refine wpList_load_row rfl 30 _ rfl p rfl 30 _ _ _ HP.out Try.underlying30 rfl infoD ?_) | (refine wpList_store_row rfl 30 _ _ rfl q _ rfl rfl 30 _ HQ2.out infoD rfl (all4 _ _ _ _ _ _ _ _) ?_))
          go_roundw
          case rel => exact ⟨j + 1, d1, M1, hlt, hl3, by go_num, HM.out, HF.out⟩
          case measure => simp [intOf]; omega
      · have d2 : decide ((j : Int) < 300) = false := by simp; omega
        have HF := Lib.hid (And.intro hs (And.intro hM hb))
        clear hs hd hq hb hz
        go_wp2_with fail
        go_ret
        exact ⟨w.heap.size + 1, w.heap.size, M, rfl, HF.out.1, HF.out.2.1, Nat.le_refl _, HF.out.2.2⟩
    · have d1 : decide ((j : Int) < (l.length : Int)) = false := by simp; omega
      have HF := Lib.hid (And.intro hs (And.intro hM hb))
      clear hs hd hq hb hz
      go_wp2_with fail
      go_ret
      exact ⟨w.heap.size + 1, w.heap.size, M, rfl, HF.out.1, HF.out.2.1, Nat.le_refl _, HF.out.2.2⟩
end Go.Proofs.Ytpoienhmnaeaiaa
