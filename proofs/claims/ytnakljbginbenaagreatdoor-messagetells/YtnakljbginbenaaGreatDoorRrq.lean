/- The contract of derrickref05.Put. -/
import Derived.Test.YtnakljbginbenaaGreatDoorRrp
namespace Go.Proofs.YtnakljbginbenaaGreatDoor
open Go.RowKit
set_option linter.unusedVariables false

set_option maxRecDepth 100000 in
theorem fmayr_any (r : Rc) (hn : r.n.size ≤ 4194304) (hd : r.d.size ≤ 4194304) (hr : r.Ok) (w : World) :
    Calls Tryz.prog 60 #[.agg #[.string r.n, .int .u16 (r.k : Nat), .int .u16 (r.c : Nat), .int .u32 (r.t : Nat), .string r.d]] w fun e w' => e = .returned (.bool (mayR r)) ∧ Below w.heap.size w w' := by
  obtain ⟨n, k, c, t, d⟩ := r
  obtain ⟨hk, hc, ht⟩ := hr
  simp only at hn hd hk hc ht ⊢
  have HM := Lib.hid (fun w' => ref_may n hn w')
  have HD := Lib.hid (fun w' => refmay_any k d hd hk w')
  have hmr : mayR ⟨n, k, c, t, d⟩ = (mayB n && mayD k d) := rfl
  rw [hmr]
  clear hmr
  cases hm : mayB n with
  | false =>
    rw [hm] at HM
    go_enter Tryz.func60, Tryz.ntmps60
    go_wp2_with fail
    refine (HM.out _).mono ?_
    rintro e w1 ⟨rfl, hb1⟩
    go_wp2_with fail
    go_ret
    exact ⟨rfl, ((Below.refl _ w).alloc (Nat.le_refl _) _).trans (hb1.mono (by simp))⟩
  | true =>
    rw [hm] at HM
    have HN := Lib.hid (World.alloc_heap_new w (Obj.cells #[Value.string n, .int .u16 (k : Nat), .int .u16 (c : Nat), .int .u32 (t : Nat), .string d] 46))
    have HA := Lib.hid ((Below.refl w.heap.size w).alloc (Nat.le_refl _) (Obj.cells #[Value.string n, .int .u16 (k : Nat), .int .u16 (c : Nat), .int .u32 (t : Nat), .string d] 46))
    go_enter Tryz.func60, Tryz.ntmps60
    go_wp2_with fail
    refine (HM.out _).mono ?_
    rintro e w1 ⟨rfl, hb1⟩
    have hx := (hb1.block w.heap.size (by simp)).trans HN.out
    have c1 : w1.cell? ⟨w.heap.size, 1, none⟩ = some (.int .u16 (k : Nat)) := blk_cell hx 1
    have c4 : w1.cell? ⟨w.heap.size, 4, none⟩ = some (.string d) := blk_cell hx 4
    have HB := Lib.hid (HA.out.trans (hb1.mono HA.out.size))
    clear hx hb1
    go_wp2_with fail
    refine (HD.out _).mono ?_
    rintro e w2 ⟨rfl, hb2⟩
    go_wp2_with fail
    go_ret
    exact ⟨by simp, HB.out.trans (hb2.mono HB.out.size)⟩

/-- What Put of the document tells, and its pack. -/
def PpPost (B : Nat) (x : ByteArray) (L : Kn) (r : Rc) (w : World) (e : Ending) (w' : World) : Prop :=
  ∃ A' m' cap', e = .returned (.tuple #[.agg #[.string ⟨(prS x.data.toList L r).1.toArray⟩, .slice A' m' cap'], .int .i64 (prE r)]) ∧ Plc B (.slice A' m' cap') (prS x.data.toList L r).2 w' ∧ Below w.heap.size w w'
/-- The boxes of Put: its own pack, the result, the record. -/
structure Ou (B : Nat) (w : World) (r : Rc) (g : Nat) (Y : ByteArray) (sl : Value) (L : Kn) (W : World) : Prop where
  out : W.heap[g]? = some (.cells #[.string Y, sl] 94 (0, 0))
  res : W.heap[w.heap.size + 1 + 1]? = some (.cells #[.string ⟨#[]⟩, .slice none 0 0] 94 (0, 0))
  rcd : W.heap[w.heap.size + 1]? = some (.cells #[.string r.n, .int .u16 (r.k : Nat), .int .u16 (r.c : Nat), .int .u32 (r.t : Nat), .string r.d] 46 (0, 0))
  big : w.heap.size + 1 + 1 < g
  plc : Plc B sl L W
  bel : Below w.heap.size w W
/-- The record's box. -/
def RcB (w : World) (r : Rc) (W : World) : Prop := W.heap[w.heap.size + 1]? = some (.cells #[.string r.n, .int .u16 (r.k : Nat), .int .u16 (r.c : Nat), .int .u32 (r.t : Nat), .string r.d] 46 (0, 0))
theorem Ou.call {B : Nat} {w : World} {r : Rc} {g : Nat} {Y : ByteArray} {sl : Value} {L : Kn} {W W' : World} (h : Ou B w r g Y sl L W) (hb : Below W.heap.size W W') : Ou B w r g Y sl L W' :=
  ⟨(hb.block _ (heap_lt h.out)).trans h.out, (hb.block _ (heap_lt h.res)).trans h.res, (hb.block _ (heap_lt h.rcd)).trans h.rcd, h.big, h.plc.below hb, h.bel.trans (hb.mono h.bel.size)⟩
theorem Ou.drew {B : Nat} {w : World} {r : Rc} {g : Nat} {Y : ByteArray} {sl : Value} {L : Kn} {W : World} (h : Ou B w r g Y sl L W) : Ou B w r g Y sl L W.drew := h.call (Below.refl _ W).drew
/-- Its own pack is written: one field, both fields by cells, both at once. -/
theorem Ou.set1 {B : Nat} {w : World} {r : Rc} {g : Nat} {Y Y' : ByteArray} {sl : Value} {L : Kn} {W : World} (h : Ou B w r g Y sl L W) : Ou B w r g Y' sl L (W.setCell ⟨g, 0, none⟩ (.string Y')) :=
  ⟨blk_set h.out 0 _, blk_other _ h.res (by have := h.big; omega), blk_other _ h.rcd (by have := h.big; omega), h.big, h.plc.other h.out (by decide) (grown_set W ⟨g, 0, none⟩ _), h.bel.setCell (p := ⟨g, 0, none⟩) (show w.heap.size ≤ g by have := h.big; omega) _⟩
theorem Ou.set2 {B : Nat} {w : World} {r : Rc} {g : Nat} {Y Y' : ByteArray} {sl : Value} {L : Kn} {W : World} (h : Ou B w r g Y sl L W) : Ou B w r g Y' sl L ((W.setCell ⟨g, 0, none⟩ (.string Y')).setCell ⟨g, 1, none⟩ sl) := by
  have h1 := h.set1 (Y' := Y')
  exact ⟨blk_set h1.out 1 _, blk_other _ h1.res (by have := h.big; omega), blk_other _ h1.rcd (by have := h.big; omega), h.big, h1.plc.other h1.out (by decide) (grown_set _ ⟨g, 1, none⟩ _), h1.bel.setCell (p := ⟨g, 1, none⟩) (show w.heap.size ≤ g by have := h.big; omega) _⟩
theorem Ou.row {B : Nat} {w : World} {r : Rc} {g : Nat} {Y Y' : ByteArray} {sl sl' : Value} {L L' : Kn} {W W' : World} (h : Ou B w r g Y sl L W) (hb : Below W.heap.size W W') (hP : Plc B sl' L' W') : Ou B w r g Y' sl' L' (W'.setRow g #[.string Y', sl']) := by
  have h1 := h.call hb
  exact ⟨setRow_heap _ _ _ _ _ _ h1.out, (setRow_other _ _ _ _ (by have := h.big; omega)).trans h1.res, (setRow_other _ _ _ _ (by have := h.big; omega)).trans h1.rcd, h.big, hP.other h1.out (by decide) (cells_of_set h1.out _), setRow_below h1.bel (by have := h.big; omega) _⟩

set_option maxRecDepth 100000 in
set_option maxHeartbeats 4000000 in
theorem fputr_any (B : Nat) (x : ByteArray) (v : Value) (L : Kn) (r : Rc) (w : World) (hP : Plc B v L w) (hK : KnOk x.data.toList L) (hG : Good x.data.toList L) (hx : x.size ≤ 800000) (hB : B ≤ w.heap.size) (hn : r.n.size ≤ 1000) (hd : r.d.size ≤ 1000) (hr : r.Ok) :
    Calls Tryz.prog 87 #[.agg #[.string x, v], .agg #[.string r.n, .int .u16 (r.k : Nat), .int .u16 (r.c : Nat), .int .u32 (r.t : Nat), .string r.d]] w fun e w' => PpPost B x L r w e w' := by
  obtain ⟨A, cap, rfl⟩ := hP.form
  obtain ⟨hF, hA⟩ := three_new w #[.string x, .slice A L.length cap] #[.string r.n, .int .u16 (r.k : Nat), .int .u16 (r.c : Nat), .int .u32 (r.t : Nat), .string r.d] #[.string ⟨#[]⟩, .slice none 0 0] 94 46 94
  have HF := Lib.hid hF
  have HA := Lib.hid hA
  have HP := Lib.hid hP
  have HM := Lib.hid (fun w' => fmayr_any r (by omega) (by omega) hr w')
  obtain ⟨w0, hw0⟩ : ∃ w0, w0 = ((w.alloc (Obj.cells #[.string x, .slice A L.length cap] 94)).alloc (Obj.cells #[.string r.n, .int .u16 (r.k : Nat), .int .u16 (r.c : Nat), .int .u32 (r.t : Nat), .string r.d] 46)).alloc (Obj.cells #[.string ⟨#[]⟩, .slice none 0 0] 94) := ⟨_, rfl⟩
  rw [← hw0] at HF HA
  have HW0 := Lib.hid hw0
  clear hF hA hP hw0
  cases hm : mayR r with
  | false =>
    rw [hm] at HM
    have e1 : prE r = 1 := by simp [prE, hm]
    have e2 : prS x.data.toList L r = (x.data.toList, L) := by simp [prS, hm]
    have HE := Lib.hid (And.intro e1 e2)
    clear e1 e2 hm
    go_enter Tryz.func87, Tryz.ntmps87
    go_upto_region 1 with (fail)
    rw [← HW0.out]
    go_wp2_with (refine wpList_load_row rfl 46 _ rfl (w.heap.size + 1) rfl 46 _ _ _ (HF.out.at 1 rfl) Tryz.underlying46 rfl infoR ?_)
    refine (HM.out _).mono ?_
    rintro e w1 ⟨rfl, hb1⟩
    have HF1 := Lib.hid (HF.out.call hb1)
    have HA1 := Lib.hid (HA.out.trans (hb1.mono HA.out.size))
    clear hb1
    go_wp2_with (first | (refine wpList_load_row rfl 94 _ rfl w.heap.size rfl 94 _ _ _ (HF1.out.at 2 rfl) Tryz.underlying94 rfl info49 ?_) | (refine wpList_store_row rfl 94 _ _ rfl (w.heap.size + 1 + 1) _ rfl rfl 94 _ (HF1.out.at 0 rfl) info49 rfl (all2 _ _ _ _) ?_))
    refine ret_pack2 (g := w.heap.size + 1 + 1) rfl rfl rfl rfl (setRow_heap _ _ _ _ _ _ (HF1.out.at 0 rfl)) ⟨A, L.length, cap, ?_, ?_, setRow_below HA1.out (by omega) _⟩
    · rw [HE.out.1, HE.out.2]; rfl
    · rw [HE.out.2]
      exact (HP.out.below HA1.out).other (HF1.out.at 0 rfl) (by decide) (cells_of_set (HF1.out.at 0 rfl) _)
  | true =>
    rw [hm] at HM
    have e1 : prE r = 0 := by simp [prE, hm]
    have e2 : prS x.data.toList L r = putR x.data.toList L r := by simp [prS, hm]
    have hmB : mayB r.n = true := by unfold mayR at hm; rw [Bool.and_eq_true] at hm; exact hm.1
    have hmD : mayD r.k r.d = true := by unfold mayR at hm; rw [Bool.and_eq_true] at hm; exact hm.2
    have e3 : pqS x.data.toList L r = putQ x.data.toList L r := by simp [pqS, hmB]
    have e4 : stE r.n = 0 := by simp [stE, hmB]
    obtain ⟨⟨X1, hX1, hX2⟩, hgQ⟩ := putQ_good hG hmB
    obtain ⟨W, L', u1, u2, u3, u4, u5, u6⟩ := putR_form hG hm
    have e5 : rp (hdR x.data.toList L r ++ [0, 0]) (putQ x.data.toList L r).2 r.k r.d = dtR x.data.toList L r := by unfold rp; rw [if_pos hmD]; rfl
    have e6 : rpE r.k r.d = 0 := by unfold rpE; rw [if_pos hmD]
    have hkQ : KnOk (putQ x.data.toList L r).1 (putQ x.data.toList L r).2 := by
      have h := knOk_put (labs r.n) x.data.toList L hK
      refine ⟨h.1, ?_⟩
      show _ ≤ ((put x.data.toList L (labs r.n)).1 ++ _).length
      rw [List.length_append]
      exact Nat.le_trans h.2 (Nat.le_add_right _ _)
    have hq : (putQ x.data.toList L r).1.length ≤ 800259 := by rw [hX1, List.length_append, ba_len]; omega
    have hh : (hdR x.data.toList L r).length = (putQ x.data.toList L r).1.length + 4 := by unfold hdR; rw [List.length_append, b32_len]
    have HE := Lib.hid (And.intro e1 (And.intro e2 (And.intro e3 e4)))
    have HE2 := Lib.hid (And.intro e5 e6)
    have HU := Lib.hid (And.intro u1 (And.intro u3 (And.intro u4 (And.intro hgQ (And.intro hkQ (And.intro hq hh))))))
    have HKx := Lib.hid hK
    clear e1 e2 e3 e4 e5 e6 hX1 hX2 hgQ u1 u2 u3 u4 u5 u6 hkQ hq hh hm hmB hmD hK hG
    go_enter Tryz.func87, Tryz.ntmps87
    go_upto_region 1 with (fail)
    rw [← HW0.out]
    go_wp2_with (refine wpList_load_row rfl 46 _ rfl (w.heap.size + 1) rfl 46 _ _ _ (HF.out.at 1 rfl) Tryz.underlying46 rfl infoR ?_)
    refine (HM.out _).mono ?_
    rintro e w1 ⟨rfl, hb1⟩
    have HF1 := Lib.hid (HF.out.call hb1)
    have HA1 := Lib.hid (HA.out.trans (hb1.mono HA.out.size))
    have c0 : w1.cell? ⟨w.heap.size + 1, 0, none⟩ = some (.string r.n) := blk_cell (HF1.out.at 1 rfl) 0
    have c1 : w1.cell? ⟨w.heap.size + 1, 1, none⟩ = some (.int .u16 (r.k : Nat)) := blk_cell (HF1.out.at 1 rfl) 1
    have c2 : w1.cell? ⟨w.heap.size + 1, 2, none⟩ = some (.int .u16 (r.c : Nat)) := blk_cell (HF1.out.at 1 rfl) 2
    clear hb1 HF HA HM HW0
    go_wp2_with (refine wpList_load_row rfl 94 _ rfl w.heap.size rfl 94 _ _ _ (HF1.out.at 2 rfl) Tryz.underlying94 rfl info49 ?_)
    refine (fputq_any B x _ L r _ (HP.out.below HA1.out) HKx.out (by omega) (Nat.le_trans hB HA1.out.size) hn hr).mono ?_
    rintro e w2 ⟨A1, m1, p1, rfl, hP2, hb2⟩
    rw [HE.out.2.2.1] at hP2 ⊢
    rw [HE.out.2.2.2]
    obtain ⟨Y, hY⟩ : ∃ Y : ByteArray, Y = ⟨(putQ x.data.toList L r).1.toArray⟩ := ⟨_, rfl⟩
    rw [← hY]
    have hO := (show Ou B w r w2.heap.size Y (.slice A1 m1 p1) (putQ x.data.toList L r).2 (w2.alloc (Obj.cells #[.string Y, .slice A1 m1 p1] 94)) from by
      have hf := HF1.out.call hb2
      have ha : Below w2.heap.size w2 (w2.alloc (Obj.cells #[.string Y, .slice A1 m1 p1] 94)) := (Below.refl _ w2).alloc (Nat.le_refl _) _
      have hbx := HA1.out.trans (hb2.mono HA1.out.size)
      exact ⟨World.alloc_heap_new w2 _, (heapOld _ (heap_lt (hf.at 0 rfl))).trans (hf.at 0 rfl), (heapOld _ (heap_lt (hf.at 1 rfl))).trans (hf.at 1 rfl), heap_lt (hf.at 0 rfl), hP2.below ha, hbx.trans (ha.mono hbx.size)⟩)
    obtain ⟨w3, hw3⟩ : ∃ w3, w3 = w2.alloc (Obj.cells #[.string Y, .slice A1 m1 p1] 94) := ⟨_, rfl⟩
    rw [← hw3] at hO
    have hYs : Y.size ≤ 800259 := by rw [hY, mk_size]; exact HU.out.2.2.2.2.2.1
    have HO := Lib.hid hO
    have HW3 := Lib.hid hw3
    have HY := Lib.hid hY
    clear hP2 hb2 hO hw3 hY c0 c1 c2 HF1 HA1 HP
    go_upto_region 4 with (fail)
    rw [← HW3.out]
    clear HW3
    obtain ⟨Tb, hTb⟩ : ∃ Tb, Tb = Oc.bstr (r.t : Nat) 4 := ⟨_, rfl⟩
    have zT : Tb.size = 4 := by rw [hTb, Oc.bstr_size]
    have HTp := Lib.hid (show ∀ w', Calls Tryz.prog 108 #[.int .u32 (r.t : Nat)] w' (fun e w'' => e = .returned (.string Tb) ∧ Below w'.heap.size w' w'') from fun w' => by rw [hTb]; exact Oc.rput32 (r.t : Nat) w' (by omega) (by have := hr.t; omega))
    have hcat : ¬ 9223372036854775807 < Tb.size + 2 := by omega
    obtain ⟨Zb, hZb⟩ : ∃ Zb : ByteArray, Zb = ⟨#[0, 0]⟩ := ⟨_, rfl⟩
    have zZ : Zb.size = 2 := by rw [hZb]; rfl
    have hz0 : (Tb ++ Zb).size = 6 := by rw [ByteArray.size_append, zT, zZ]
    have HAd := Lib.hid (fun w' => radd_any Y (Tb ++ Zb) (.slice A1 m1 p1) A1 m1 p1 rfl (by rw [hz0]; omega) w')
    obtain ⟨Y2, hY2⟩ : ∃ Y2, Y2 = Y ++ (Tb ++ Zb) := ⟨_, rfl⟩
    rw [← hY2] at HAd
    have hzl : Zb.data.toList = [0, 0] := by rw [hZb]
    have HY2 := Lib.hid (And.intro hY2 hzl)
    clear hY2 hzl
    rw [hZb] at HAd
    clear hZb zZ
    have HTb := Lib.hid hTb
    clear hTb zT hYs hz0
    go_cut [31] (fun q wx => Ou B w r w2.heap.size Y2 (.slice A1 m1 p1) (putQ x.data.toList L r).2 wx)
    case first =>
      clear HE HE2 HU HKx hx hn hd hr HY HTb HY2
      have HF := Lib.hid (show RcB w r w3.drew from HO.out.rcd)
      refine wp_region_held_drew (S := fun w' => RcB w r w') (by kernel_rfl) HF.out (fun hHeld => ?_)
      have HOd := Lib.hid HO.out.drew
      refine wpAnyH_take (i := 1) (v := ?_) rfl (by kernel_rfl) (by kernel_rfl) (by kernel_rfl) (fun _ _ _ h => h) (Or.inl ⟨by rfl, ?_⟩) (by assumption) ?_
      rotate_left
      · (intro wq hSw; go_simp; try (with_reducible rfl))
      simp only [Act.put, List.getElem_toArray, List.getElem_cons_zero, List.getElem_cons_succ, List.setIfInBounds_toArray, List.set_cons_zero, List.set_cons_succ]
      refine wpAnyH_take (i := 2) (v := (.int .u32 (r.t : Nat))) rfl (by kernel_rfl) (by kernel_rfl) (by kernel_rfl) (fun _ _ _ h => h) (Or.inl ⟨by rfl, ?_⟩) (by assumption) ?_
      · (intro wq hSw; have e0 : wq.cell? ⟨w.heap.size + 1, 3, none⟩ = some (.int .u32 (r.t : Nat)) := blk_cell hSw 3; go_simp)
      simp only [Act.put, List.getElem_toArray, List.getElem_cons_zero, List.getElem_cons_succ, List.setIfInBounds_toArray, List.set_cons_zero, List.set_cons_succ]
      refine wpAnyH_ready (rs := [0, 3]) (by kernel_rfl) (by simp) ?_
      refine AllReadyH.cons rfl (fun K hK => ?_) (AllReadyH.cons rfl (fun K hK => ?_) AllReadyH.nil)
      · have o0 : w3.drew.cell? ⟨w2.heap.size, 0, none⟩ = some (.string Y) := blk_cell HOd.out.out 0
        have o1 : w3.drew.cell? ⟨w2.heap.size, 1, none⟩ = some (.slice A1 m1 p1) := blk_cell HOd.out.out 1
        go_simp
        refine hK.out _ _ HF.out (fun hHeld => ?_)
        clear hK K
        refine wpAnyH_ready (rs := [3]) (by kernel_rfl) (by simp) ?_
        refine AllReadyH.cons rfl (fun K hK => ?_) AllReadyH.nil
        go_simp
        go_wp2_with (go_at_call 108; refine Calls.mono (HTp.out _) ?_; rintro e v1 ⟨rfl, hb⟩)
        have HO1 := Lib.hid (HOd.out.call hb)
        clear hb hHeld HF
        have HF := Lib.hid (show RcB w r v1 from HO1.out.rcd)
        refine hK.out _ _ HF.out (fun hHeld => ?_)
        clear hK K
        refine wpAnyH_take (i := 4) (v := ?_) rfl (by kernel_rfl) (by kernel_rfl) (by kernel_rfl) (fun _ _ _ h => h) (Or.inl ⟨by rfl, ?_⟩) (by assumption) ?_
        rotate_left
        · (intro wq hSw; go_simp; try (with_reducible rfl))
        simp only [Act.put, List.getElem_toArray, List.getElem_cons_zero, List.getElem_cons_succ, List.setIfInBounds_toArray, List.set_cons_zero, List.set_cons_succ]
        refine wpAnyH_ready (rs := [5]) (by kernel_rfl) (by simp) ?_
        refine AllReadyH.cons rfl (fun K hK => ?_) AllReadyH.nil
        go_simp
        go_wp2_with (go_at_call 86; refine Calls.mono (HAd.out _) ?_; rintro e v2 ⟨rfl, hb⟩)
        have HO2 := Lib.hid (HO1.out.call hb)
        clear hb hHeld HF
        have HF := Lib.hid (show RcB w r v2 from HO2.out.rcd)
        refine hK.out _ _ HF.out (fun hHeld => ?_)
        clear hK K
        refine wpAnyH_ready (rs := [6]) (by kernel_rfl) (by simp) ?_
        refine AllReadyH.cons rfl (fun K hK => ?_) AllReadyH.nil
        have z0 : v2.cell? ⟨w2.heap.size, 0, none⟩ = some (.string Y) := blk_cell HO2.out.out 0
        have z1 : v2.cell? ⟨w2.heap.size, 1, none⟩ = some (.slice A1 m1 p1) := blk_cell HO2.out.out 1
        have f0 := blk_frozen HO2.out.out 0
        have f1 := blk_frozen HO2.out.out 1
        have HT := Lib.hid (show RcB w r ((v2.setCell ⟨w2.heap.size, 0, none⟩ (.string Y2)).setCell ⟨w2.heap.size, 1, none⟩ (.slice A1 m1 p1)) from (HO2.out.set2 (Y' := Y2)).rcd)
        go_simp
        refine hK.out _ _ HT.out (fun hHeld => ?_)
        clear hK K
        refine wpAnyH_done (by kernel_rfl) ?_ _
        go_wp2_with fail
        go_meet
        case rel => exact HO2.out.set2
      · go_simp
        go_wp2_with (go_at_call 108; refine Calls.mono (HTp.out _) ?_; rintro e v1 ⟨rfl, hb⟩)
        have HO1 := Lib.hid (HOd.out.call hb)
        clear hb hHeld HF
        have HF := Lib.hid (show RcB w r v1 from HO1.out.rcd)
        refine hK.out _ _ HF.out (fun hHeld => ?_)
        clear hK K
        refine wpAnyH_take (i := 4) (v := ?_) rfl (by kernel_rfl) (by kernel_rfl) (by kernel_rfl) (fun _ _ _ h => h) (Or.inl ⟨by rfl, ?_⟩) (by assumption) ?_
        rotate_left
        · (intro wq hSw; go_simp; try (with_reducible rfl))
        simp only [Act.put, List.getElem_toArray, List.getElem_cons_zero, List.getElem_cons_succ, List.setIfInBounds_toArray, List.set_cons_zero, List.set_cons_succ]
        refine wpAnyH_ready (rs := [0]) (by kernel_rfl) (by simp) ?_
        refine AllReadyH.cons rfl (fun K hK => ?_) AllReadyH.nil
        have o0 : v1.cell? ⟨w2.heap.size, 0, none⟩ = some (.string Y) := blk_cell HO1.out.out 0
        have o1 : v1.cell? ⟨w2.heap.size, 1, none⟩ = some (.slice A1 m1 p1) := blk_cell HO1.out.out 1
        go_simp
        refine hK.out _ _ HF.out (fun hHeld => ?_)
        clear hK K
        refine wpAnyH_ready (rs := [5]) (by kernel_rfl) (by simp) ?_
        refine AllReadyH.cons rfl (fun K hK => ?_) AllReadyH.nil
        go_simp
        go_wp2_with (go_at_call 86; refine Calls.mono (HAd.out _) ?_; rintro e v2 ⟨rfl, hb⟩)
        have HO2 := Lib.hid (HO1.out.call hb)
        clear hb hHeld HF
        have HF := Lib.hid (show RcB w r v2 from HO2.out.rcd)
        refine hK.out _ _ HF.out (fun hHeld => ?_)
        clear hK K
        refine wpAnyH_ready (rs := [6]) (by kernel_rfl) (by simp) ?_
        refine AllReadyH.cons rfl (fun K hK => ?_) AllReadyH.nil
        have z0 : v2.cell? ⟨w2.heap.size, 0, none⟩ = some (.string Y) := blk_cell HO2.out.out 0
        have z1 : v2.cell? ⟨w2.heap.size, 1, none⟩ = some (.slice A1 m1 p1) := blk_cell HO2.out.out 1
        have f0 := blk_frozen HO2.out.out 0
        have f1 := blk_frozen HO2.out.out 1
        have HT := Lib.hid (show RcB w r ((v2.setCell ⟨w2.heap.size, 0, none⟩ (.string Y2)).setCell ⟨w2.heap.size, 1, none⟩ (.slice A1 m1 p1)) from (HO2.out.set2 (Y' := Y2)).rcd)
        go_simp
        refine hK.out _ _ HT.out (fun hHeld => ?_)
        clear hK K
        refine wpAnyH_done (by kernel_rfl) ?_ _
        go_wp2_with fail
        go_meet
        case rel => exact HO2.out.set2
    case rest =>
      have HOc := Lib.hid hcut
      clear hcut HO HTp HAd
      have hz2 : Y2.data.toList = hdR x.data.toList L r ++ [0, 0] := by
        rw [HY2.out.1, HY.out, HTb.out]
        simp only [ByteArray.data_append, Array.toList_append, bstr32 hr.t, HY2.out.2]
        unfold hdR
        rw [List.append_assoc]
      obtain ⟨h, hh⟩ : ∃ h, h = (hdR x.data.toList L r).length := ⟨_, rfl⟩
      have hs2 : Y2.size = h + 2 := by rw [← ba_len, hz2, List.length_append, hh]; rfl
      have hh3 := HU.out.2.2.2.2.2
      have hY2s : Y2.size ≤ 800300 := by rw [hs2, hh, hh3.2]; have := hh3.1; omega
      have hk2 : KnOk Y2.data.toList (putQ x.data.toList L r).2 := by
        have hk := HU.out.2.2.2.2.1
        refine ⟨hk.1, ?_⟩
        rw [hz2, List.length_append, hh3.2]
        have := hk.2
        simp only [List.length_cons, List.length_nil]
        omega
      have hg2 : Good Y2.data.toList (putQ x.data.toList L r).2 := by rw [hz2]; unfold hdR; exact (HU.out.2.2.2.1.more _).more _
      have HPut := Lib.hid (fun (W : World) (hO : Ou B w r w2.heap.size Y2 (.slice A1 m1 p1) (putQ x.data.toList L r).2 W) => refput_any B Y2 r.d _ _ r.k W hO.plc hk2 hg2 (by omega) (Nat.le_trans hB hO.bel.size) hd hr.k)
      have HZ2 := Lib.hid hz2
      have HS2 := Lib.hid hs2
      have HHh := Lib.hid hh
      obtain ⟨a, ha⟩ : ∃ a, Y2.size = a := ⟨_, rfl⟩
      have hah : a = h + 2 := by rw [← ha]; exact hs2
      have HAh := Lib.hid hah
      clear hz2 hs2 hh hh3 hY2s hk2 hg2 HY HY2 HTb hah
      have o0 : wc.cell? ⟨w2.heap.size, 0, none⟩ = some (.string Y2) := blk_cell HOc.out.out 0
      have c1 : wc.cell? ⟨w.heap.size + 1, 1, none⟩ = some (.int .u16 (r.k : Nat)) := blk_cell HOc.out.rcd 1
      have c4 : wc.cell? ⟨w.heap.size + 1, 4, none⟩ = some (.string r.d) := blk_cell HOc.out.rcd 4
      go_wp2_with (refine wpList_load_row rfl 94 _ rfl w2.heap.size rfl 94 _ _ _ HOc.out.out Tryz.underlying94 rfl info49 ?_)
      refine (HPut.out wc HOc.out).mono ?_
      rintro e w5 ⟨A2, m2, p2, rfl, hP5, hb5⟩
      rw [HZ2.out, HE2.out.1] at hP5 ⊢
      rw [HE2.out.2]
      obtain ⟨Y3, hY3⟩ : ∃ Y3 : ByteArray, Y3 = ⟨(dtR x.data.toList L r).1.toArray⟩ := ⟨_, rfl⟩
      rw [← hY3]
      have HO5 := Lib.hid (HOc.out.call hb5)
      have HO6 := Lib.hid (HOc.out.row (Y' := Y3) hb5 hP5)
      obtain ⟨w6, hw6⟩ : ∃ w6, w6 = w5.setRow w2.heap.size #[.string Y3, .slice A2 m2 p2] := ⟨_, rfl⟩
      rw [← hw6] at HO6
      have HW6 := Lib.hid hw6
      obtain ⟨W, L', u3, u4, u1⟩ : ∃ W L', dtR x.data.toList L r = (hdR x.data.toList L r ++ [0, 0] ++ W, L') ∧ putR x.data.toList L r = (hdR x.data.toList L r ++ b16 W.length ++ W, L') ∧ W.length ≤ r.d.size := ⟨_, _, HU.out.2.1, HU.out.2.2.1, HU.out.1⟩
      have hz3 : Y3.size = a + W.length := by rw [hY3, mk_size, u3]; simp only [List.length_append, List.length_cons, List.length_nil]; rw [HAh.out, HHh.out]
      have hbd : a ≤ 900000 := by have := HU.out.2.2.2.2.2; rw [HAh.out, HHh.out, this.2]; omega
      obtain ⟨M, hM⟩ : ∃ M, M = W.length := ⟨_, rfl⟩
      have hMd : M ≤ 1000 := by omega
      obtain ⟨Mb, hMb⟩ : ∃ Mb, Mb = Oc.bstr (M : Nat) 2 := ⟨_, rfl⟩
      have zM : Mb.size = 2 := by rw [hMb, Oc.bstr_size]
      have HMp := Lib.hid (show ∀ w', Calls Tryz.prog 84 #[.int .u16 (M : Nat)] w' (fun e w'' => e = .returned (.string Mb) ∧ Below w'.heap.size w' w'') from fun w' => by rw [hMb]; exact Oc.rput16 (M : Nat) w' (by omega) (by omega))
      have hfin : Y3.extract 0 h ++ Mb ++ Y3.extract a Y3.size = ⟨(putR x.data.toList L r).1.toArray⟩ := by
        apply ba_ext
        simp only [ByteArray.data_append, Array.toList_append]
        rw [extract_list, extract_list, hMb, bstr16 (by omega), hM, hY3, u3, u4]
        simp only [List.drop_zero]
        have e1 : (⟨(hdR x.data.toList L r ++ [0, 0] ++ W).toArray⟩ : ByteArray).size = (hdR x.data.toList L r ++ [0, 0] ++ W).length := mk_size _
        rw [e1, List.take_length, List.append_assoc (hdR x.data.toList L r), List.take_left' HHh.out.symm, ← List.append_assoc (hdR x.data.toList L r) [0, 0], List.drop_left' (by rw [List.length_append, ← HHh.out, HAh.out]; rfl), List.append_assoc]
      have hfL : (dtR x.data.toList L r).2 = (putR x.data.toList L r).2 := rfl
      have HFin := Lib.hid (And.intro hfin hfL)
      have z1 : (Y3.extract 0 h).size ≤ 901000 := by rw [ByteArray.size_extract]; omega
      have z3 : (Y3.extract a Y3.size).size ≤ 901000 := by rw [ByteArray.size_extract]; omega
      have k1 : IntKind.i64.wrap ((a : Int) - 2) = (h : Int) := by rw [IntWalk.i64_in _ (by omega)]; have := HAh.out; omega
      have k2 : IntKind.i64.wrap ((Y3.size : Int) - (a : Int)) = (M : Int) := by rw [IntWalk.i64_in _ (by omega)]; omega
      have k4 : IntKind.i64.wrap (M : Int) = (M : Int) := IntWalk.i64_in _ (by omega)
      have k5 : IntKind.i64.wrap (h : Int) = (h : Int) := IntWalk.i64_in _ (by have := HAh.out; omega)
      have k6 : IntKind.i64.wrap (a : Int) = (a : Int) := IntWalk.i64_in _ (by omega)
      have k3 : IntKind.u16.wrap (M : Int) = (M : Int) := IntWalk.u16_in _ (by omega)
      have hc1 : ¬ 9223372036854775807 < (Y3.extract 0 h).size + Mb.size := by omega
      have hc2 : ¬ 9223372036854775807 < (Y3.extract 0 h).size + Mb.size + (Y3.extract a Y3.size).size := by omega
      have hc3 : ¬ 9223372036854775807 < min h Y3.size + Mb.size := by omega
      have hc4 : ¬ 9223372036854775807 < h + Mb.size := by have := HAh.out; omega
      have hc5 : ¬ 9223372036854775807 < min h Y3.size + Mb.size + (Y3.size - a) := by omega
      have hc6 : ¬ 9223372036854775807 < h + Mb.size + (Y3.size - a) := by have := HAh.out; omega
      have hc7 : ¬ 9223372036854775807 < min h Y3.size + Mb.size + (min Y3.size Y3.size - a) := by omega
      have hh3 : h ≤ Y3.size := by have := HAh.out; omega
      have ha3 : a ≤ Y3.size := by omega
      clear hP5 hb5 hw6 hY3 u3 u4 u1 hz3 hbd hM hMb zM hfin hfL z1 z3 o0 c1 c4 HOc HU HE2 HKx HPut HHh hMd
      go_upto_region 7 with (refine wpList_store_row rfl 94 _ _ rfl w2.heap.size _ rfl rfl 94 _ HO5.out.out info49 rfl (all2 _ _ _ _) ?_)
      rw [← HW6.out]
      clear HW6 HO5
      have o0 : w6.cell? ⟨w2.heap.size, 0, none⟩ = some (.string Y3) := blk_cell HO6.out.out 0
      go_upto_region 8 with (fail)
      obtain ⟨Y4, hY4⟩ : ∃ Y4, Y4 = Y3.extract 0 h ++ Mb ++ Y3.extract a Y3.size := ⟨_, rfl⟩
      have HY4 := Lib.hid hY4
      clear hY4
      go_cut [62] (fun q wx => Ou B w r w2.heap.size Y4 (.slice A2 m2 p2) (dtR x.data.toList L r).2 wx)
      case first =>
        clear HE HFin HAh HZ2 HS2 hx hn hd hr ha hB
        have f0 := blk_frozen HO6.out.out 0
        (go_region_with (first
          | (go_at_call 84; refine (HMp.out w6.drew).mono ?_; rintro e v1 ⟨rfl, hb⟩; have HO7 := Lib.hid (HO6.out.drew.call hb); clear hb; have o2 : v1.cell? ⟨w2.heap.size, 0, none⟩ = some (.string Y3) := blk_cell HO7.out.out 0; have f2 := blk_frozen HO7.out.out 0)))
        all_goals
          go_wp2_with fail
          go_meet
          case rel =>
            have h8 := HO7.out.set1 (Y' := Y4)
            rw [HY4.out] at h8
            rw [HY4.out]
            exact h8
      case rest =>
        have HOd := Lib.hid hcut
        clear hcut HO6 HMp o0
        go_wp2_with (first | (refine wpList_load_row rfl 94 _ rfl w2.heap.size rfl 94 _ _ _ HOd.out.out Tryz.underlying94 rfl info49 ?_) | (refine wpList_store_row rfl 94 _ _ rfl (w.heap.size + 1 + 1) _ rfl rfl 94 _ HOd.out.res info49 rfl (all2 _ _ _ _) ?_))
        refine ret_pack2 (g := w.heap.size + 1 + 1) rfl rfl rfl rfl (setRow_heap _ _ _ _ _ _ HOd.out.res) ⟨A2, m2, p2, ?_, ?_, setRow_below HOd.out.bel (by omega) _⟩
        · rw [HE.out.1, HE.out.2.1, ← HFin.out.1, ← HY4.out]; rfl
        · rw [HE.out.2.1, ← HFin.out.2]
          exact HOd.out.plc.other HOd.out.res (by decide) (cells_of_set HOd.out.res _)
end Go.Proofs.YtnakljbginbenaaGreatDoor
