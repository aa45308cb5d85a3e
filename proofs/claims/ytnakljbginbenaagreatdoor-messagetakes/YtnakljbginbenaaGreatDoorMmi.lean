/- The contracts of message: Reply, first; returning a message. -/
import Derived.Test.YtnakljbginbenaaGreatDoorMmh
import Derived.Deep.RegionHeld
namespace Go.Proofs.YtnakljbginbenaaGreatDoor
open Go.RowKit
set_option linter.unusedVariables false

/-- A message as a result. -/
theorem ret_m {w : World} {fn : Func} {p : Tmp} {R : Ending → World → Prop} {a : Act} {g : Nat} {cs : Array Value} (h : fn.results = #[.cell p 26]) (hp : a.tmps.getD p undef = .pointer (some ⟨g, 0, none⟩)) (hd : a.defers = [])
    (hg : w.heap[g]? = some (.cells cs 26 (0, 0))) (hz : cs.size = 12) (hR : R (.returned (.agg cs)) w) : bodyPost Tryz.prog fn R .ret a w :=
  bodyPost_ret (results_cell_row h _ w g 26 cs (0, 0) _ hp hg Tryz.underlying26 rfl (infoM.trans (by rw [hz]))) hd hR
theorem ret_m2 {w : World} {fn : Func} {p u : Tmp} {R : Ending → World → Prop} {a : Act} {g : Nat} {cs : Array Value} {s : Value} (h : fn.results = #[.cell p 26, .tmp u]) (hp : a.tmps.getD p undef = .pointer (some ⟨g, 0, none⟩)) (hu : a.tmps.getD u undef = s) (hd : a.defers = [])
    (hg : w.heap[g]? = some (.cells cs 26 (0, 0))) (hz : cs.size = 12) (hR : R (.returned (.tuple #[.agg cs, s])) w) : bodyPost Tryz.prog fn R .ret a w := by
  refine bodyPost_ret (v := .tuple #[.agg cs, s]) ?_ hd hR
  rw [results_cell_tmp h, hp, hu]
  have := run_loadVar_row w g 26 26 cs (0, 0) _ hg Tryz.underlying26 rfl (infoM.trans (by rw [hz]))
  simp [asAddr, Result.andThen, this]
/-- No message. -/
def zMs : Ms := ⟨0, false, false, false, false, false, 0, 0, [], [], [], []⟩
def zAd : Ad := ⟨none, 0, none, 0, none, 0, none, 0⟩
theorem zMg (w : World) : Mg w zMs zAd := ⟨Sl.nil _ _, Sl.nil _ _, Sl.nil _ _, Sl.nil _ _⟩
/-- What Reply tells. -/
def repM (m : Ms) (r : Int) : Ms := ⟨m.id, true, false, false, m.rd, true, m.op, r, m.q, [], [], []⟩

set_option maxRecDepth 100000 in
set_option maxHeartbeats 2000000 in
theorem reply_any (m : Ms) (d : Ad) (r : Int) (hs : SmM m) (w : World) (hI : Mg w m d) :
    Calls Tryz.prog 13 #[.agg (msV m d), .int .i64 r] w fun e w' => ∃ d', e = .returned (.agg (msV (repM m r) d')) ∧ Mg w' (repM m r) d' ∧ Below w.heap.size w w' := by
  have hb1 := (Below.refl w.heap.size w).alloc (Nat.le_refl _) (Obj.cells (msV m d) 26)
  have hx1 := World.alloc_heap_new w (Obj.cells (msV m d) 26)
  have hb2 := hb1.alloc hb1.size (Obj.cells (msV zMs zAd) 26)
  have hx2 := heap_alloc2_new w (Obj.cells (msV m d) 26) (Obj.cells (msV zMs zAd) 26)
  have hx3 := (heapOld (Obj.cells (msV zMs zAd) 26) (heap_lt hx1)).trans hx1
  obtain ⟨w2, hw2⟩ : ∃ w2, w2 = (w.alloc (Obj.cells (msV m d) 26)).alloc (Obj.cells (msV zMs zAd) 26) := ⟨_, rfl⟩
  rw [← hw2] at hb2 hx2 hx3
  have HW := Lib.hid hw2
  have HF := Lib.hid (show w2.drew.heap[w.heap.size]? = some (.cells (msV m d) 26 (0, 0)) from hx3)
  have HR := Lib.hid (show w2.drew.heap[w.heap.size + 1]? = some (.cells (msV zMs zAd) 26 (0, 0)) from hx2)
  have HA := Lib.hid hb2.drew
  have HI := Lib.hid hI
  have HSm := Lib.hid hs
  clear hb1 hx1 hb2 hx2 hx3 hw2 hI hs
  go_enter Tryz.func13, Tryz.ntmps13
  go_upto_region 1 with (fail)
  rw [show Obj.cells #[Value.int IntKind.u16 0, .bool false, .bool false, .bool false, .bool false, .bool false, .int .i64 0, .int .i64 0, .slice none 0 0, .slice none 0 0, .slice none 0 0, .slice none 0 0] 26 = Obj.cells (msV zMs zAd) 26 from rfl, ← HW.out]
  clear HW
  refine wp_region_held_drew (S := fun w' => w'.heap[w.heap.size]? = some (.cells (msV m d) 26 (0, 0))) (by kernel_rfl) HF.out (fun hHeld => ?_)
  refine wpAnyH_take (i := 0) (v := ?_) rfl (by kernel_rfl) (by kernel_rfl) (by kernel_rfl) (fun _ _ _ h => h) (Or.inl ⟨by rfl, ?_⟩) (by assumption) ?_
  rotate_left
  · (intro wq hSw; go_simp; try (with_reducible rfl))
  simp only [Act.put, List.getElem_toArray, List.getElem_cons_zero, List.setIfInBounds_toArray, List.set_cons_zero, List.set_cons_succ]
  refine wpAnyH_take (i := 1) (v := (.int .u16 (m.id : Nat))) rfl (by kernel_rfl) (by kernel_rfl) (by kernel_rfl) (fun _ _ _ h => h) (Or.inl ⟨by rfl, ?_⟩) (by assumption) ?_
  · (intro wq hSw; have e0 : wq.cell? ⟨w.heap.size, 0, none⟩ = some (.int .u16 (m.id : Nat)) := blk_cell hSw 0; go_simp)
  simp only [Act.put, List.getElem_toArray, List.getElem_cons_zero, List.getElem_cons_succ, List.setIfInBounds_toArray, List.set_cons_zero, List.set_cons_succ]
  refine wpAnyH_take (i := 2) (v := ?_) rfl (by kernel_rfl) (by kernel_rfl) (by kernel_rfl) (fun _ _ _ h => h) (Or.inl ⟨by rfl, ?_⟩) (by assumption) ?_
  rotate_left
  · (intro wq hSw; go_simp; try (with_reducible rfl))
  simp only [Act.put, List.getElem_toArray, List.getElem_cons_zero, List.getElem_cons_succ, List.setIfInBounds_toArray, List.set_cons_zero, List.set_cons_succ]
  refine wpAnyH_take (i := 3) (v := (.bool m.rd)) rfl (by kernel_rfl) (by kernel_rfl) (by kernel_rfl) (fun _ _ _ h => h) (Or.inl ⟨by rfl, ?_⟩) (by assumption) ?_
  · (intro wq hSw; have e0 : wq.cell? ⟨w.heap.size, 4, none⟩ = some (.bool m.rd) := blk_cell hSw 4; go_simp)
  simp only [Act.put, List.getElem_toArray, List.getElem_cons_zero, List.getElem_cons_succ, List.setIfInBounds_toArray, List.set_cons_zero, List.set_cons_succ]
  refine wpAnyH_take (i := 4) (v := ?_) rfl (by kernel_rfl) (by kernel_rfl) (by kernel_rfl) (fun _ _ _ h => h) (Or.inl ⟨by rfl, ?_⟩) (by assumption) ?_
  rotate_left
  · (intro wq hSw; go_simp; try (with_reducible rfl))
  simp only [Act.put, List.getElem_toArray, List.getElem_cons_zero, List.getElem_cons_succ, List.setIfInBounds_toArray, List.set_cons_zero, List.set_cons_succ]
  refine wpAnyH_take (i := 5) (v := (.int .i64 m.op)) rfl (by kernel_rfl) (by kernel_rfl) (by kernel_rfl) (fun _ _ _ h => h) (Or.inl ⟨by rfl, ?_⟩) (by assumption) ?_
  · (intro wq hSw; have e0 : wq.cell? ⟨w.heap.size, 6, none⟩ = some (.int .i64 m.op) := blk_cell hSw 6; go_simp)
  simp only [Act.put, List.getElem_toArray, List.getElem_cons_zero, List.getElem_cons_succ, List.setIfInBounds_toArray, List.set_cons_zero, List.set_cons_succ]
  refine wpAnyH_take (i := 6) (v := ?_) rfl (by kernel_rfl) (by kernel_rfl) (by kernel_rfl) (fun _ _ _ h => h) (Or.inl ⟨by rfl, ?_⟩) (by assumption) ?_
  rotate_left
  · (intro wq hSw; go_simp; try (with_reducible rfl))
  simp only [Act.put, List.getElem_toArray, List.getElem_cons_zero, List.getElem_cons_succ, List.setIfInBounds_toArray, List.set_cons_zero, List.set_cons_succ]
  refine wpAnyH_take (i := 7) (v := ?_) rfl (by kernel_rfl) (by kernel_rfl) (by kernel_rfl) (fun _ _ _ h => h) (Or.inl ⟨by rfl, ?_⟩) (by assumption) ?_
  rotate_left
  · (intro wq hSw; go_simp; try (with_reducible rfl))
  simp only [Act.put, List.getElem_toArray, List.getElem_cons_zero, List.getElem_cons_succ, List.setIfInBounds_toArray, List.set_cons_zero, List.set_cons_succ]
  refine wpAnyH_take (i := 8) (v := (.slice d.aq m.q.length d.cq)) rfl (by kernel_rfl) (by kernel_rfl) (by kernel_rfl) (fun _ _ _ h => h) (Or.inl ⟨by rfl, ?_⟩) (by assumption) ?_
  · (intro wq hSw; have e0 : wq.cell? ⟨w.heap.size, 8, none⟩ = some (.slice d.aq m.q.length d.cq) := blk_cell hSw 8; go_simp)
  simp only [Act.put, List.getElem_toArray, List.getElem_cons_zero, List.getElem_cons_succ, List.setIfInBounds_toArray, List.set_cons_zero, List.set_cons_succ]
  refine wpAnyH_ready (rs := [9]) (by kernel_rfl) (by simp) ?_
  refine AllReadyH.cons rfl (fun K hK => ?_) AllReadyH.nil
  go_simp
  go_wp2_with (go_at_call 35; refine Calls.mono (cloneQ_any _ _ m.q (by have := HSm.out.q.len; omega) _ (HI.out.q.below' HA.out)) ?_; rintro e v1 ⟨A', cap', rfl, hQ, hb, hfr⟩)
  have HFn := Lib.hid ((hb.block _ (heap_lt HF.out)).trans HF.out)
  have HAn := Lib.hid (HA.out.trans (hb.mono HA.out.size))
  have HRn := Lib.hid ((hb.block _ (heap_lt HR.out)).trans HR.out)
  have HQ := Lib.hid (And.intro hQ (fun a ha => Nat.le_trans (heap_lt HR.out) (hfr a ha)))
  clear HF HA HR hb hHeld hQ hfr
  have HF := HFn
  have HA := HAn
  have HR := HRn
  clear HFn HAn HRn
  refine hK.out _ _ HF.out (fun hHeld => ?_)
  clear hK K
  refine wpAnyH_take (i := 10) (v := ?_) rfl (by kernel_rfl) (by kernel_rfl) (by kernel_rfl) (fun _ _ _ h => h) (Or.inl ⟨by rfl, ?_⟩) (by assumption) ?_
  rotate_left
  · (intro wq hSw; go_simp; try (with_reducible rfl))
  simp only [Act.put, List.getElem_toArray, List.getElem_cons_zero, List.getElem_cons_succ, List.setIfInBounds_toArray, List.set_cons_zero, List.set_cons_succ]
  refine wpAnyH_ready (rs := [11]) (by kernel_rfl) (by simp) ?_
  refine AllReadyH.cons rfl (fun K hK => ?_) AllReadyH.nil
  refine wp_store_row 26 _ _ rfl (w.heap.size + 1) (msV (repM m r) ⟨A', cap', none, 0, none, 0, none, 0⟩) rfl rfl 26 (msV zMs zAd) HR.out infoM rfl (msV_all _ _) ?_
  refine hK.out _ _ ((setRow_other v1 (w.heap.size + 1) w.heap.size _ (by omega)).trans HF.out) (fun hHeld => ?_)
  clear hK K
  refine wpAnyH_done (by kernel_rfl) ?_ _
  go_wp2_with fail
  have hb9 := setRow_below HA.out (show w.heap.size ≤ w.heap.size + 1 by omega) (msV (repM m r) ⟨A', cap', none, 0, none, 0, none, 0⟩)
  refine ret_m (g := w.heap.size + 1) rfl rfl rfl (setRow_heap _ _ _ _ _ _ HR.out) rfl ⟨_, rfl, ⟨HQ.out.1.other (g := w.heap.size + 1) (fun b hb => setRow_other _ _ _ _ hb) (by simp) (fun a ha => by have := HQ.out.2 a ha; omega), Sl.nil _ _, Sl.nil _ _, Sl.nil _ _⟩, hb9⟩
end Go.Proofs.YtnakljbginbenaaGreatDoor
