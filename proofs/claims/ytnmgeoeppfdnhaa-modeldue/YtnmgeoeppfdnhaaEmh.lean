/- The program's model in memory; New, find, Has, Len, Full, Drop (written by tools/gen_emh.py). -/
import Derived.Test.YtnmgeoeppfdnhaaBqa
import Derived.Test.YtnmgeoeppfdnhaaEma
import Derived.Test.YtnmgeoeppfdnhaaEmb
import Derived.BigQuiet
import Derived.StillTailTactics
namespace Go.Proofs.Ytnmgeoeppfdnhaa
open Go.RowKit
set_option linter.unusedVariables false
set_option linter.unusedSimpArgs false

theorem blk_new_eq (w : World) (t : TypeId) (cs : Array Value) : Blk (w.alloc (.cells cs t)) w.heap.size t cs := Blk.new w t cs
theorem evL_put (x : Ev) (A : Option Addr) (cap : Nat) : (evL x).toArray.setIfInBounds 3 (.slice A x.e.l.length cap) = (evL ⟨x.e, A, cap⟩).toArray := rfl
theorem Ch.tail {X : Nat → Prop} {a b c : World} (h : Ch X a b) (k : Below a.heap.size b c) : Ch X a c := ⟨k.os.trans h.os, k.tape.trans h.tape, k.output.trans h.output, Nat.le_trans h.size k.size, fun i hi hx => (k.block i hi).trans (h.block i hi hx)⟩
theorem Blk.ch {X : Nat → Prop} {w w' : World} {g : Nat} {t : TypeId} {cs : Array Value} (b : Blk w g t cs) (hc : Ch X w w') (hx : ¬ X g) : Blk w' g t cs := b.eq (hc.block g b.lt hx)
theorem Fi.low {w w1 w2 : World} {q : Qu} (h : Fi w q w1) (hb : Below w1.heap.size w1 w2) : Blk w2 w.heap.size 25 (qf q).toArray ∧ Blk w2 (w.heap.size + 1) 35 zE ∧ Below w.heap.size w w2 :=
  ⟨h.bq.eq (hb.block _ h.bq.lt), h.br.eq (hb.block _ h.br.lt), h.b.trans (hb.mono h.b.size)⟩
/-- The program's model h: its map p has what f tells. -/
structure Mh (w : World) (h p : Nat) (room : Int) (m : List En) (f : Qu → Option Ev) : Prop where
  ok : Mok m
  hp : h ≠ p
  bh : Blk w h 59 #[.int .i64 room, .map (some p)]
  em : Em w p m.length f
  ent : ∀ q, (f q).map Ev.e = entL m q
  re : ∀ q x, f q = some x → Re (fun i => i = p) w x
theorem m_cells {w : World} {h p : Nat} {room : Int} (b : Blk w h 59 #[.int .i64 room, .map (some p)]) : w.cell? ⟨h, 0, none⟩ = some (.int .i64 room) ∧ w.cell? ⟨h, 1, none⟩ = some (.map (some p)) := ⟨b.cell 0, b.cell 1⟩
section
variable {w w' : World} {h p : Nat} {room : Int} {m : List En} {f : Qu → Option Ev}
theorem Mh.low (v : Mh w h p room m f) (hb : Below w.heap.size w w') : Mh w' h p room m f :=
  ⟨v.ok, v.hp, v.bh.eq (hb.block _ v.bh.lt), v.em.block (hb.block _ v.em.lt), v.ent, fun q x e => (v.re q x e).low hb⟩
theorem Mh.is_some (v : Mh w h p room m f) {q : Qu} {x : Ev} (e : f q = some x) : entL m q = some x.e := by rw [← v.ent, e]; rfl
theorem Mh.is_none (v : Mh w h p room m f) {q : Qu} (e : f q = none) : entL m q = none := by rw [← v.ent, e]; rfl
theorem Mh.is (v : Mh w h p room m f) (q : Qu) : (f q).isSome = (entL m q).isSome := by rw [← v.ent]; cases f q <;> rfl
theorem Mh.q (v : Mh w h p room m f) {q : Qu} {x : Ev} (e : f q = some x) : x.e.q = q := ((entL_some v.ok).1 (v.is_some e)).2
/-- The map has turned. -/
theorem Mh.turn (v : Mh w h p room m f) {m' : List En} {f' : Qu → Option Ev} {N : Nat} (he : Em w' p N f') (ht : w.mapTurned w' p) (hN : N = m'.length) (ok : Mok m') (ent : ∀ q, (f' q).map Ev.e = entL m' q) (re : ∀ q x, f' q = some x → Re (fun i => i = p) w x) : Mh w' h p room m' f' ∧ Ch (fun i => i = p) w w' := by
  have hc : Ch (fun i => i = p) w w' := (Ch.refl _ w).grown ht.grown rfl
  exact ⟨⟨ok, v.hp, v.bh.eq (hc.block _ v.bh.lt v.hp), by rw [← hN]; exact he, ent, fun q x e => (re q x e).ch hc⟩, hc⟩
end
theorem new_none (room : Int) (hr : room < 1) (w : World) : Calls Try.prog 10 #[.int .i64 room] w fun e w' => e = .returned (.pointer none) ∧ w' = w := by
  go_enter Try.func10, Try.ntmps10
  go_wp2_with fail
  go_ret
  exact ⟨rfl, rfl⟩
theorem new_mh (room : Int) (w : World) : Mh ((w.alloc (.map #[] 0)).alloc (.cells #[.int .i64 room, .map (some w.heap.size)] 59)) (w.heap.size + 1) w.heap.size room [] (fun _ => none) ∧ Below w.heap.size w ((w.alloc (.map #[] 0)).alloc (.cells #[.int .i64 room, .map (some w.heap.size)] 59)) := by
  have e0 := em_made w
  have b0 := (Below.refl w.heap.size w).alloc (Nat.le_refl _) (.map #[] 0)
  have s0 : (w.alloc (.map #[] 0)).heap.size = w.heap.size + 1 := by simp
  generalize w.alloc (.map #[] 0) = w1 at *
  have h1 := Blk.new w1 59 #[.int .i64 room, .map (some w.heap.size)]
  have b1 := (Below.refl w1.heap.size w1).alloc (Nat.le_refl _) (.cells #[.int .i64 room, .map (some w.heap.size)] 59)
  rw [s0] at h1
  exact ⟨⟨List.Pairwise.nil, by omega, h1, e0.block (b1.block _ e0.lt), fun q => rfl, fun q x e => by cases e⟩, b0.trans (b1.mono b0.size)⟩
set_option maxHeartbeats 1000000 in
theorem new_any (room : Int) (hr : ¬ room < 1) (w : World) : Calls Try.prog 10 #[.int .i64 room] w fun e w' => ∃ h p, e = .returned (.pointer (some ⟨h, 0, none⟩)) ∧ Mh w' h p room [] (fun _ => none) ∧ Below w.heap.size w w' ∧ w.heap.size ≤ h ∧ w.heap.size ≤ p := by
  have HM := Lib.hid (new_mh room w)
  have hmm := @run_makeMap Try.prog 57
  go_enter Try.func10, Try.ntmps10
  go_wp2_with fail
  go_ret
  exact ⟨w.heap.size + 1, rfl, w.heap.size, HM.out.1, HM.out.2, by omega, Nat.le_refl _⟩

/-- What find reads. -/
def FiS (w : World) (q : Qu) (h p : Nat) (room : Int) (N : Nat) (f : Qu → Option Ev) (wq : World) : Prop := Blk wq h 59 #[.int .i64 room, .map (some p)] ∧ Blk wq w.heap.size 25 #[.string q.n, .int .u16 (q.k : Nat), .int .u16 (q.c : Nat)] ∧ Em wq p N f ∧ Blk wq (w.heap.size + 1) 35 #[.string ⟨#[]⟩, .int .u16 0, .int .u16 0, .slice none 0 0, .int .i64 0, .int .i64 0, .int .u64 0] ∧ Below w.heap.size w wq
theorem FiS.low {w wq w2 : World} {q : Qu} {h p : Nat} {room : Int} {N : Nat} {f : Qu → Option Ev} (s : FiS w q h p room N f wq) (hb : Below wq.heap.size wq w2) : FiS w q h p room N f w2 :=
  ⟨s.1.eq (hb.block _ s.1.lt), s.2.1.eq (hb.block _ s.2.1.lt), s.2.2.1.block (hb.block _ s.2.2.1.lt), s.2.2.2.1.eq (hb.block _ s.2.2.2.1.lt), s.2.2.2.2.trans (hb.mono s.2.2.2.2.size)⟩
set_option maxHeartbeats 1000000 in
theorem find_nil (q : Qu) (w : World) : Calls Try.prog 28 #[.pointer none, qV q] w fun e w' => e = .returned (.tuple #[evV default, .bool false]) ∧ Below w.heap.size w w' := by
  unfold qV
  have HF := Lib.hid (fi_of w q)
  go_enter Try.func28, Try.ntmps28
  go_upto_region 1 with (fail)
  unfold zE qf at HF
  generalize (w.alloc (Obj.cells #[.string q.n, .int .u16 (q.k : Nat), .int .u16 (q.c : Nat)] 25)).alloc (Obj.cells #[.string ⟨#[]⟩, .int .u16 0, .int .u16 0, .slice none 0 0, .int .i64 0, .int .i64 0, .int .u64 0] 35) = w1 at *
  go_wp2_with (refine wpList_store_row rfl 35 _ _ rfl (w.heap.size + 1) _ rfl rfl 35 _ HF.out.br infoE rfl (evL_one default) ?_)
  exact ret_e2 (evL default).toArray rfl rfl rfl rfl rfl (setRow_heap _ _ _ _ _ _ HF.out.br) ⟨rfl, setRow_below HF.out.b (by omega) _⟩
set_option maxRecDepth 100000 in
set_option maxHeartbeats 4000000 in
theorem find_any (q : Qu) (hq : q.Fine) {w : World} {h p : Nat} {room : Int} {m : List En} {f : Qu → Option Ev} (v : Mh w h p room m f) :
    Calls Try.prog 28 #[.pointer (some ⟨h, 0, none⟩), qV q] w fun e w' => e = .returned (.tuple #[evV ((f q).getD default), .bool (f q).isSome]) ∧ Below w.heap.size w w' := by
  have hF := fi_of w q
  have v1 := v.low hF.b
  have HS := Lib.hid (show FiS w q h p room m.length f ((w.alloc (Obj.cells #[.string q.n, .int .u16 (q.k : Nat), .int .u16 (q.c : Nat)] 25)).alloc (Obj.cells #[.string ⟨#[]⟩, .int .u16 0, .int .u16 0, .slice none 0 0, .int .i64 0, .int .i64 0, .int .u64 0] 35)) from ⟨v1.bh, hF.bq, v1.em, hF.br, hF.b⟩)
  have hlk : ∀ wq, Em wq p m.length f → (Instr.lookup 57 (.map (some p)) (qV q) true).run Try.prog wq = .ok (.tuple #[evV ((f q).getD default), .bool (f q).isSome]) wq := fun wq hE => hE.look hq
  have HLK := Lib.hid hlk
  clear v v1 hF hlk
  obtain ⟨x, HX⟩ : ∃ x, Hid ((f q).getD default = x) := ⟨_, Lib.hid rfl⟩
  obtain ⟨b, HB⟩ : ∃ b, Hid ((f q).isSome = b) := ⟨_, Lib.hid rfl⟩
  simp only [HX.out, HB.out] at HLK ⊢
  unfold qV at HLK ⊢
  rw [evV_eq] at HLK ⊢

  go_enter Try.func28, Try.ntmps28
  go_upto_region 1 with (fail)
  generalize (w.alloc (Obj.cells #[.string q.n, .int .u16 (q.k : Nat), .int .u16 (q.c : Nat)] 25)).alloc (Obj.cells #[.string ⟨#[]⟩, .int .u16 0, .int .u16 0, .slice none 0 0, .int .i64 0, .int .i64 0, .int .u64 0] 35) = w1 at *
  go_upto_region 3 with (fail)
  have hd := (Below.refl w1.heap.size w1).drew
  have HS2 := Lib.hid (HS.out.low hd)
  refine wp_region_held_drew (S := FiS w q h p room m.length f) (by kernel_rfl) HS2.out (fun _ => ?_)
  clear hd HS
  generalize w1.drew = w2 at *
  refine wpAnyH_take (i := 0) (v := ?_) rfl (by kernel_rfl) (by kernel_rfl) (by kernel_rfl) (fun _ _ _ h => h) (Or.inl ⟨by rfl, ?_⟩) (by assumption) ?_
  rotate_left
  · (intro wq hSw; go_simp; try (with_reducible rfl))
  try simp only [Act.put, List.getElem_toArray, List.getElem_cons_zero, List.getElem_cons_succ, List.setIfInBounds_toArray, List.set_cons_zero, List.set_cons_succ]
  refine wpAnyH_take (i := 1) (v := ?_) rfl (by kernel_rfl) (by kernel_rfl) (by kernel_rfl) (fun _ _ _ h => h) (Or.inl ⟨by rfl, ?_⟩) (by assumption) ?_
  rotate_left
  · (intro wq hSw; go_simp; try (with_reducible rfl))
  try simp only [Act.put, List.getElem_toArray, List.getElem_cons_zero, List.getElem_cons_succ, List.setIfInBounds_toArray, List.set_cons_zero, List.set_cons_succ]
  refine wpAnyH_take (i := 2) (v := ?_) rfl (by kernel_rfl) (by kernel_rfl) (by kernel_rfl) (fun _ _ _ h => h) (Or.inl ⟨by rfl, ?_⟩) (by assumption) ?_
  rotate_left
  · (intro wq hSw; go_simp; try (with_reducible rfl))
  try simp only [Act.put, List.getElem_toArray, List.getElem_cons_zero, List.getElem_cons_succ, List.setIfInBounds_toArray, List.set_cons_zero, List.set_cons_succ]
  refine wpAnyH_take (i := 3) (v := .map (some p)) rfl (by kernel_rfl) (by kernel_rfl) (by kernel_rfl) (fun _ _ _ h => h) (Or.inl ⟨by rfl, ?_⟩) (by assumption) ?_
  · (intro wq hSw; obtain ⟨x0, x1⟩ := m_cells hSw.1; go_simp; try rfl)
  try simp only [Act.put, List.getElem_toArray, List.getElem_cons_zero, List.getElem_cons_succ, List.setIfInBounds_toArray, List.set_cons_zero, List.set_cons_succ]
  refine wpAnyH_take (i := 4) (v := .agg #[.string q.n, .int .u16 (q.k : Nat), .int .u16 (q.c : Nat)]) rfl (by kernel_rfl) (by kernel_rfl) (by kernel_rfl) (fun _ _ _ h => h) (Or.inl ⟨by rfl, ?_⟩) (by assumption) ?_
  · (intro wq hSw; obtain ⟨x0, x1, x2⟩ := q_cells (q := q) hSw.2.1; go_simp; try rfl)
  try simp only [Act.put, List.getElem_toArray, List.getElem_cons_zero, List.getElem_cons_succ, List.setIfInBounds_toArray, List.set_cons_zero, List.set_cons_succ]
  refine wpAnyH_take (i := 5) (v := .tuple #[.agg #[.string x.e.q.n, .int .u16 (x.e.q.k : Nat), .int .u16 (x.e.q.c : Nat), .slice x.A x.e.l.length x.cap, .int .i64 x.e.rc, .int .i64 x.e.rk, .int .u64 (x.e.ex : Nat)], .bool b]) rfl (by kernel_rfl) (by kernel_rfl) (by kernel_rfl) (fun _ _ _ h => h) (Or.inl ⟨by rfl, ?_⟩) (by assumption) ?_
  · (intro wq hSw; have hl := HLK.out wq hSw.2.2.1; go_simp; try rfl)
  try simp only [Act.put, List.getElem_toArray, List.getElem_cons_zero, List.getElem_cons_succ, List.setIfInBounds_toArray, List.set_cons_zero, List.set_cons_succ]
  refine wpAnyH_take (i := 6) (v := ?_) rfl (by kernel_rfl) (by kernel_rfl) (by kernel_rfl) (fun _ _ _ h => h) (Or.inl ⟨by rfl, ?_⟩) (by assumption) ?_
  rotate_left
  · (intro wq hSw; go_simp; try (with_reducible rfl))
  try simp only [Act.put, List.getElem_toArray, List.getElem_cons_zero, List.getElem_cons_succ, List.setIfInBounds_toArray, List.set_cons_zero, List.set_cons_succ]
  refine wpAnyH_take (i := 7) (v := ?_) rfl (by kernel_rfl) (by kernel_rfl) (by kernel_rfl) (fun _ _ _ h => h) (Or.inl ⟨by rfl, ?_⟩) (by assumption) ?_
  rotate_left
  · (intro wq hSw; go_simp; try (with_reducible rfl))
  try simp only [Act.put, List.getElem_toArray, List.getElem_cons_zero, List.getElem_cons_succ, List.setIfInBounds_toArray, List.set_cons_zero, List.set_cons_succ]
  refine wpAnyH_take (i := 8) (v := ?_) rfl (by kernel_rfl) (by kernel_rfl) (by kernel_rfl) (fun _ _ _ h => h) (Or.inl ⟨by rfl, ?_⟩) (by assumption) ?_
  rotate_left
  · (intro wq hSw; go_simp; try (with_reducible rfl))
  try simp only [Act.put, List.getElem_toArray, List.getElem_cons_zero, List.getElem_cons_succ, List.setIfInBounds_toArray, List.set_cons_zero, List.set_cons_succ]
  have HN := Lib.hid (Blk.new w2 35 #[.string ⟨#[]⟩, .int .u16 0, .int .u16 0, .slice none 0 0, .int .i64 0, .int .i64 0, .int .u64 0])
  have hb3 := (Below.refl w2.heap.size w2).alloc (Nat.le_refl _) (Obj.cells #[.string ⟨#[]⟩, .int .u16 0, .int .u16 0, .slice none 0 0, .int .i64 0, .int .i64 0, .int .u64 0] 35)
  have HS3 := Lib.hid (HS2.out.low hb3)
  have hb4 := (box_of w2 x).2
  have HS4 := Lib.hid (HS2.out.low hb4)
  have HK4 := Lib.hid (box_of w2 x).1
  unfold zE at HS4 HK4
  clear hb3 hb4
  refine wpAnyH_ready (rs := [9]) (by kernel_rfl) (by simp) ?_
  refine AllReadyH.cons rfl (fun K hK => ?_) AllReadyH.nil
  rw [if_pos (by rfl)]
  go_simp
  refine hK.out _ _ HS3.out (fun _ => ?_)
  clear hK K
  try simp only [Act.put, List.getElem_toArray, List.getElem_cons_zero, List.getElem_cons_succ, List.setIfInBounds_toArray, List.set_cons_zero, List.set_cons_succ]
  refine wpAnyH_ready (rs := [10]) (by kernel_rfl) (by simp) ?_
  refine AllReadyH.cons rfl (fun K hK => ?_) AllReadyH.nil
  rw [if_pos (by rfl)]
  refine wp_store_row 35 _ _ rfl w2.heap.size (evL x).toArray rfl rfl 35 _ HN.out (infoEa _) rfl (evL_one _) ?_
  refine hK.out _ _ HS4.out (fun _ => ?_)
  clear hK K
  try simp only [Act.put, List.getElem_toArray, List.getElem_cons_zero, List.getElem_cons_succ, List.setIfInBounds_toArray, List.set_cons_zero, List.set_cons_succ]
  refine wpAnyH_ready (rs := [11]) (by kernel_rfl) (by simp) ?_
  refine AllReadyH.cons rfl (fun K hK => ?_) AllReadyH.nil
  rw [if_pos (by rfl)]
  go_simp
  refine hK.out _ _ HS4.out (fun _ => ?_)
  clear hK K
  try simp only [Act.put, List.getElem_toArray, List.getElem_cons_zero, List.getElem_cons_succ, List.setIfInBounds_toArray, List.set_cons_zero, List.set_cons_succ]
  refine wpAnyH_done (by kernel_rfl) ?_ _
  clear HN HS3 HS2
  generalize (w2.alloc (Obj.cells #[.string ⟨#[]⟩, .int .u16 0, .int .u16 0, .slice none 0 0, .int .i64 0, .int .i64 0, .int .u64 0] 35)).setRow w2.heap.size (evL x).toArray = w4 at *
  generalize w2.heap.size = r at *
  have HBR := Lib.hid HS4.out.2.2.2.1
  go_wp2_with (first | (refine wpList_load_row rfl 35 _ rfl (r) rfl 35 _ _ _ HK4.out Try.underlying35 rfl infoE ?_) | (refine wpList_store_row rfl 35 _ _ rfl (w.heap.size + 1) (evL x).toArray rfl rfl 35 _ HBR.out (infoEa _) rfl (evL_one _) ?_))
  exact ret_e2 (evL x).toArray rfl rfl rfl rfl rfl (setRow_heap _ _ _ _ _ _ HBR.out) ⟨rfl, setRow_below HS4.out.2.2.2.2 (by omega) _⟩

set_option maxRecDepth 100000 in
set_option maxHeartbeats 1000000 in
theorem has_g (hv : Value) (x : Ev) (b : Bool) (q : Qu) (w : World) (hC : Calls Try.prog 28 #[hv, qV q] (w.alloc (Obj.cells (qf q).toArray 25)) fun e w' => e = .returned (.tuple #[evV x, .bool b]) ∧ Below (w.alloc (Obj.cells (qf q).toArray 25)).heap.size (w.alloc (Obj.cells (qf q).toArray 25)) w') :
    Calls Try.prog 14 #[hv, qV q] w fun e w' => e = .returned (.bool b) ∧ Below w.heap.size w w' := by
  rw [evV_eq] at hC
  have HC := Lib.hid hC
  have HX := Lib.hid (blk_new_eq w 25 (qf q).toArray)
  have HB := Lib.hid ((Below.refl w.heap.size w).alloc (Nat.le_refl _) (Obj.cells (qf q).toArray 25))
  clear hC
  unfold qV at HC ⊢
  unfold qf at HX HB HC
  go_enter Try.func14, Try.ntmps14
  go_upto_region 1 with (fail)
  generalize w.alloc (Obj.cells #[.string q.n, .int .u16 (q.k : Nat), .int .u16 (q.c : Nat)] 25) = w1 at *
  obtain ⟨b0, b1, b2⟩ := q_cells (q := q) HX.out
  go_upto_region 2 with (first | (refine wpList_store_row rfl 35 _ _ rfl (w2.heap.size) (evL x).toArray rfl rfl 35 _ HNw.out (infoEa _) rfl (evL_one _) ?_) | (go_at_call 28; (with_reducible (refine (HC.out).mono ?_)); rintro e w2 ⟨rfl, hb2⟩; have HB2 := Lib.hid hb2; have HNw := Lib.hid (Blk.new w2 35 zE); unfold zE at HNw; clear hb2))
  have HF := Lib.hid (HB.out.trans ((HB2.out.trans ((box_of w2 x).2.mono HB2.out.size)).mono HB.out.size))
  unfold zE at HF
  generalize (w2.alloc (Obj.cells #[.string ⟨#[]⟩, .int .u16 0, .int .u16 0, .slice none 0 0, .int .i64 0, .int .i64 0, .int .u64 0] 35)).setRow w2.heap.size (evL x).toArray = w3 at *
  clear b0 b1 b2 HNw HB2 HX HB HC
  go_wp2_with fail
  go_ret
  exact ⟨rfl, HF.out⟩
theorem has_nil (q : Qu) (w : World) : Calls Try.prog 14 #[.pointer none, qV q] w fun e w' => e = .returned (.bool false) ∧ Below w.heap.size w w' := has_g _ _ _ q w (find_nil q _)
theorem has_any (q : Qu) (hq : q.Fine) {w : World} {h p : Nat} {room : Int} {m : List En} {f : Qu → Option Ev} (v : Mh w h p room m f) : Calls Try.prog 14 #[.pointer (some ⟨h, 0, none⟩), qV q] w fun e w' => e = .returned (.bool (entL m q).isSome) ∧ Below w.heap.size w w' := by
  rw [← v.is q]
  exact has_g _ _ _ q w (find_any q hq (v.low ((Below.refl w.heap.size w).alloc (Nat.le_refl _) (Obj.cells (qf q).toArray 25))))
theorem len_nil (w : World) : Calls Try.prog 13 #[.pointer none] w fun e w' => e = .returned (.int .i64 0) ∧ w' = w := by
  go_enter Try.func13, Try.ntmps13
  go_wp2_with fail
  go_ret
  exact ⟨rfl, rfl⟩
set_option maxHeartbeats 1000000 in
theorem len_any {w : World} {h p : Nat} {room : Int} {m : List En} {f : Qu → Option Ev} (v : Mh w h p room m f) : Calls Try.prog 13 #[.pointer (some ⟨h, 0, none⟩)] w fun e w' => e = .returned (.int .i64 (m.length : Nat)) ∧ w' = w := by
  obtain ⟨c0, c1⟩ := m_cells v.bh
  have hl := fun ty => v.em.len ty
  clear v
  generalize m.length = n at *
  go_enter Try.func13, Try.ntmps13
  go_wp2_with fail
  go_ret
  exact ⟨rfl, rfl⟩
theorem full_nil (w : World) : Calls Try.prog 11 #[.pointer none] w fun e w' => e = .returned (.bool true) ∧ Below w.heap.size w w' := by
  go_enter Try.func11, Try.ntmps11
  go_upto_region 1 with (fail)
  go_quiet (fail)
  have HB := Lib.hid (below_drewN w nq)
  generalize w.drewN nq = w1 at *
  go_wp2_with fail
  go_ret
  exact ⟨rfl, HB.out⟩
set_option maxHeartbeats 1000000 in
theorem full_any {w : World} {h p : Nat} {room : Int} {m : List En} {f : Qu → Option Ev} (v : Mh w h p room m f) : Calls Try.prog 11 #[.pointer (some ⟨h, 0, none⟩)] w fun e w' => e = .returned (.bool (decide (room ≤ m.length))) ∧ Below w.heap.size w w' := by
  obtain ⟨c0, c1⟩ := m_cells v.bh
  have hl := fun k ty => (v.low (below_drewN w k)).em.len ty
  clear v
  generalize m.length = n at *
  go_enter Try.func11, Try.ntmps11
  go_upto_region 1 with (fail)
  go_quiet (fail)
  have HB := Lib.hid (below_drewN w nq)
  generalize w.drewN nq = w1 at *
  clear hl c0 c1
  go_wp2_with fail
  go_ret
  exact ⟨rfl, HB.out⟩

set_option maxHeartbeats 1000000 in
theorem drop_nil (q : Qu) (w : World) : Calls Try.prog 20 #[.pointer none, qV q] w fun e w' => e = .returned (.bool false) ∧ Below w.heap.size w w' := by
  have HC := Lib.hid (fun W => has_nil q W)
  have HX := Lib.hid (blk_new_eq w 25 (qf q).toArray)
  have HB := Lib.hid ((Below.refl w.heap.size w).alloc (Nat.le_refl _) (Obj.cells (qf q).toArray 25))
  unfold qV at HC ⊢
  unfold qf at HX HB
  go_enter Try.func20, Try.ntmps20
  go_upto_region 1 with (fail)
  generalize w.alloc (Obj.cells #[.string q.n, .int .u16 (q.k : Nat), .int .u16 (q.c : Nat)] 25) = w1 at *
  obtain ⟨b0, b1, b2⟩ := q_cells (q := q) HX.out
  go_wp2_with (go_at_call 14; (with_reducible (refine (HC.out _).mono ?_)); rintro e w2 ⟨rfl, hb2⟩; have HB2 := Lib.hid hb2; clear hb2)
  go_ret
  exact ⟨rfl, HB.out.trans (HB2.out.mono HB.out.size)⟩
theorem drop_fun {m : List En} (ok : Mok m) {f : Qu → Option Ev} (ent : ∀ q, (f q).map Ev.e = entL m q) (q x : Qu) : (if x = q then none else f x).map Ev.e = entL (dropL m q) x := by
  rw [ent_drop ok]
  split
  · rfl
  · exact ent x
theorem drop_count {m : List En} (ok : Mok m) (q : Qu) : (if (entL m q).isSome then m.length - 1 else m.length) = (dropL m q).length := by
  have := drop_len ok q
  cases h : (entL m q).isSome with
  | true => rw [h] at this; simp only [if_true] at this ⊢; omega
  | false => rw [h] at this; simp only [Bool.false_eq_true, if_false] at this ⊢; omega
theorem drop_no {m : List En} {q : Qu} (h : entL m q = none) : dropL m q = m := by
  unfold dropL
  rw [List.filter_eq_self]
  intro e he
  simpa using entL_none.1 h e he
set_option maxRecDepth 100000 in
set_option maxHeartbeats 4000000 in
theorem drop_any (q : Qu) (hq : q.Fine) {w : World} {h p : Nat} {room : Int} {m : List En} {f : Qu → Option Ev} (v : Mh w h p room m f) : Calls Try.prog 20 #[.pointer (some ⟨h, 0, none⟩), qV q] w fun e w' => ∃ f', e = .returned (.bool (entL m q).isSome) ∧ Mh w' h p room (dropL m q) f' ∧ Ch (fun i => i = p) w w' := by
  have hb := (Below.refl w.heap.size w).alloc (Nat.le_refl _) (Obj.cells (qf q).toArray 25)
  have HC := Lib.hid (has_any q hq (v.low hb))
  have HX := Lib.hid (blk_new_eq w 25 (qf q).toArray)
  have HB := Lib.hid (And.intro hb (v.low hb))
  cases hs : entL m q with
  | none =>
    rw [hs, Option.isSome_none] at HC
    rw [drop_no hs, Option.isSome_none]
    unfold qV at HC ⊢
    unfold qf at HX HB HC
    clear v hb hs
    go_enter Try.func20, Try.ntmps20
    go_upto_region 1 with (fail)
    generalize w.alloc (Obj.cells #[.string q.n, .int .u16 (q.k : Nat), .int .u16 (q.c : Nat)] 25) = w1 at *
    obtain ⟨b0, b1, b2⟩ := q_cells (q := q) HX.out
    go_wp2_with (go_at_call 14; (with_reducible (refine (HC.out).mono ?_)); rintro e w2 ⟨rfl, hb2⟩; have HB2 := Lib.hid hb2; clear hb2)
    go_ret
    exact ⟨f, rfl, HB.out.2.low HB2.out, Ch.bel (HB.out.1.trans (HB2.out.mono HB.out.1.size))⟩
  | some e =>
    rw [hs, Option.isSome_some] at HC
    rw [Option.isSome_some]
    have HD := Lib.hid (And.intro (fun x => drop_fun v.ok v.ent q x) (And.intro (drop_count v.ok q) (And.intro (ok_drop v.ok q) (show (f q).isSome = true by rw [v.is, hs]; rfl))))
    rw [hs] at HD
    unfold qV at HC ⊢
    unfold qf at HX HB HC
    clear v hb hs
    go_enter Try.func20, Try.ntmps20
    go_upto_region 1 with (fail)
    generalize w.alloc (Obj.cells #[.string q.n, .int .u16 (q.k : Nat), .int .u16 (q.c : Nat)] 25) = w1 at *
    obtain ⟨b0, b1, b2⟩ := q_cells (q := q) HX.out
    go_upto_region 3 with (go_at_call 14; (with_reducible (refine (HC.out).mono ?_)); rintro e w2 ⟨rfl, hb2⟩; have HB2 := Lib.hid hb2; clear hb2)
    clear b0 b1 b2
    have hX2 := HX.out.eq (HB2.out.block _ HX.out.lt)
    have HV2 := Lib.hid (And.intro (HB.out.2.low HB2.out) (HB.out.1.trans (HB2.out.mono HB.out.1.size)))
    obtain ⟨b0, b1, b2⟩ := q_cells (q := q) hX2
    obtain ⟨c0, c1⟩ := m_cells HV2.out.1.bh
    clear hX2 HX HB HB2 HC
    go_still_tail 5, (by kernel_rfl)
    change wpList _ _ _ _ _ w2.drew
    have hd := (Below.refl w2.heap.size w2).drew
    have HV3 := Lib.hid (And.intro (HV2.out.1.low hd) (HV2.out.2.trans (hd.mono HV2.out.2.size)))
    clear hd b0 b1 b2 c0 c1 HV2
    generalize w2.drew = w3 at *
    go_upto_region 4 with (refine wpList_em_del rfl _ _ rfl q hq rfl HV3.out.1.em rfl ?_; intro w4 he4 ht4)
    rw [HD.out.2.2.2, if_pos rfl] at he4
    have ht := HV3.out.1.turn he4 ht4 HD.out.2.1 HD.out.2.2.1 HD.out.1 (fun x y e => by
      by_cases hx : x = q
      · rw [if_pos hx] at e; cases e
      · rw [if_neg hx] at e; exact HV3.out.1.re x y e)
    have HT := Lib.hid (And.intro ht.1 ((Ch.bel HV3.out.2).trans ht.2))
    clear ht he4 ht4
    go_wp2_with fail
    go_ret
    exact ⟨_, rfl, HT.out⟩
end Go.Proofs.Ytnmgeoeppfdnhaa
