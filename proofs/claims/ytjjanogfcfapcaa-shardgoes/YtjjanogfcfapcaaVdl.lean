/- The contracts of derrickref12.Insert and Lookup (written by tools/gen_vdl.py). -/
import Derived.Test.YtjjanogfcfapcaaVdk
namespace Go.Proofs.Ytjjanogfcfapcaa.D
open Go.RowKit
set_option linter.unusedVariables false

theorem rins_any (B : Nat) (x : Ev) (d : Dv) (M : Ms Ev) (hok : M.Ok) (l : List W.Ti) (ht : TO (pc M.c) l) (now : Nat) (w : World) (h : Dw B w d M.c) (hB : B ≤ w.heap.size) : Calls Try.prog 28 #[dV d M, .agg (evL x).toArray, .int .u64 (now : Nat)] w fun e w' => ∃ (d' : Dv) (A : Option Addr) (cap : Nat), e = .returned (.tuple #[dV d' ((insE M l x now).1), .slice A ((insE M l x now).2.1).length cap, .int .i64 ((insE M l x now).2.2)]) ∧ Dw B w' d' ((insE M l x now).1).c ∧ Sl qf w' A cap ((insE M l x now).2.1) ∧ Nw w.heap.size A ∧ Below w.heap.size w w' := by
  unfold insE
  by_cases hx : x.e.ex ≤ now
  · rw [if_pos hx]
    exact rins_a B x d M hok now w h hB hx
  · rw [if_neg hx]
    cases hs : slotOf (pc M.c) x.e.q with
    | some k =>
      cases hb : btE (M.c.getD k Z0).x.e x.e now with
      | true => simp only [hb, if_true]; exact rins_c B x d M hok now w h hB (by omega) k hs hb
      | false => simp only [hb, Bool.false_eq_true, if_false]; exact rins_b B x d M hok now w h hB (by omega) k hs hb
    | none =>
      simp only
      by_cases hr : (keysOf (pc M.c)).length < M.c.length
      · rw [if_pos hr]
        exact rins_d B x d M hok now w h hB (by omega) hs hr
      · rw [if_neg hr]
        unfold roomE
        cases hd : W.dueL l now with
        | nil =>
          have := rins_f B x d M hok now w h hB (by omega) hs hr l ht hd
          simpa using this
        | cons y r =>
          have := rins_e B x d M hok now w h hB (by omega) hs hr l ht (by rw [hd]; exact List.cons_ne_nil _ _)
          rw [hd] at this
          simpa using this
theorem results_cct {fn : Func} {p q r : Tmp} {ty ty2 : TypeId} (h : fn.results = #[.cell p ty, .cell q ty2, .tmp r]) (tmps : Array Value) (P : Program) (w : World) :
    (results fn tmps).run P w =
      ((asAddr (tmps.getD p undef)).run P w).andThen fun a w₁ => ((loadVar ty a).run P w₁).andThen fun v w₂ => ((asAddr (tmps.getD q undef)).run P w₂).andThen fun b w₃ => ((loadVar ty2 b).run P w₃).andThen fun u w₄ => .ok (.tuple #[v, u, tmps.getD r undef]) w₄ := by
  simp only [results, h]
  simp [Sem.run_bind, Result.andThen]
theorem load_e (w : World) (g : Nat) (cs : Array Value) (hs : cs.size = 7) (hg : Blk w g 39 cs) : (loadVar 39 ⟨g, 0, none⟩).run Try.prog w = .ok (.agg cs) w :=
  run_loadVar_row w g 39 39 cs (0, 0) _ hg Try.underlying39 rfl (by rw [hs]; exact infoE)
theorem ret_look {w : World} {fn : Func} {p q s : Tmp} {R : Ending → World → Prop} {a : Act} {g g' : Nat} {x y z u t : Value} {cs : Array Value} (hs : cs.size = 7) (h : fn.results = #[.cell p 29, .cell q 39, .tmp s]) (hp : a.tmps.getD p undef = .pointer (some ⟨g, 0, none⟩)) (hq : a.tmps.getD q undef = .pointer (some ⟨g', 0, none⟩)) (hr : a.tmps.getD s undef = t) (hd : a.defers = [])
    (hg : w.heap[g]? = some (.cells #[x, y, z, u] 29 (0, 0))) (hg' : Blk w g' 39 cs) (hR : R (.returned (.tuple #[.agg #[x, y, z, u], .agg cs, t])) w) : bodyPost Try.prog fn R .ret a w := by
  refine bodyPost_ret (v := .tuple #[.agg #[x, y, z, u], .agg cs, t]) ?_ hd hR
  rw [results_cct h, hp, hq, hr]
  simp [asAddr, Result.andThen, load_d w g x y z u hg, load_e w g' cs hs hg']
/-- Four boxes. -/
theorem bx_four {B : Nat} {w : World} {d : Dv} {M : Ms Ev} (h : Dw B w d M.c) (cs : Array Value) (t : TypeId) (ze : Array Value) :
    Bx B w.heap.size (w.heap.size + 2) w ((((w.alloc (Obj.cells #[.slice (some ⟨d.gx, 0, none⟩) M.c.length d.cx, .slice (some ⟨d.gu, 0, none⟩) M.c.length d.cu, .slice (some ⟨d.gt, 0, none⟩) M.c.length d.ct, .int .i64 (M.h : Nat)] 29)).alloc (Obj.cells cs t)).alloc (Obj.cells zD 29)).alloc (Obj.cells ze 39)) d M ∧ Blk ((((w.alloc (Obj.cells #[.slice (some ⟨d.gx, 0, none⟩) M.c.length d.cx, .slice (some ⟨d.gu, 0, none⟩) M.c.length d.cu, .slice (some ⟨d.gt, 0, none⟩) M.c.length d.ct, .int .i64 (M.h : Nat)] 29)).alloc (Obj.cells cs t)).alloc (Obj.cells zD 29)).alloc (Obj.cells ze 39)) (w.heap.size + 1) t cs ∧ Blk ((((w.alloc (Obj.cells #[.slice (some ⟨d.gx, 0, none⟩) M.c.length d.cx, .slice (some ⟨d.gu, 0, none⟩) M.c.length d.cu, .slice (some ⟨d.gt, 0, none⟩) M.c.length d.ct, .int .i64 (M.h : Nat)] 29)).alloc (Obj.cells cs t)).alloc (Obj.cells zD 29)).alloc (Obj.cells ze 39)) (w.heap.size + 3) 39 ze := by
  obtain ⟨h1, h2⟩ := bx_mid h cs t
  have hz : (((w.alloc (Obj.cells #[.slice (some ⟨d.gx, 0, none⟩) M.c.length d.cx, .slice (some ⟨d.gu, 0, none⟩) M.c.length d.cu, .slice (some ⟨d.gt, 0, none⟩) M.c.length d.ct, .int .i64 (M.h : Nat)] 29)).alloc (Obj.cells cs t)).alloc (Obj.cells zD 29)).heap.size = w.heap.size + 3 := by simp
  generalize ((w.alloc (Obj.cells #[.slice (some ⟨d.gx, 0, none⟩) M.c.length d.cx, .slice (some ⟨d.gu, 0, none⟩) M.c.length d.cu, .slice (some ⟨d.gt, 0, none⟩) M.c.length d.ct, .int .i64 (M.h : Nat)] 29)).alloc (Obj.cells cs t)).alloc (Obj.cells zD 29) = a3 at *
  have l3 := (Below.refl a3.heap.size a3).alloc (Nat.le_refl _) (Obj.cells ze 39)
  have b3 := Blk.new a3 39 ze
  rw [hz] at b3
  exact ⟨h1.low l3, h2.eq (l3.block _ h2.lt), b3⟩
theorem look_off {B : Nat} {w w3 : World} {d : Dv} {M : Ms Ev} {z : Array Value} (h0 : Dw B w d M.c) (h : Bx B w.heap.size (w.heap.size + 2) w w3 d M) (he : Blk w3 (w.heap.size + 3) 39 z) (cs es : Array Value) : Dw B ((w3.setRow (w.heap.size + 2) cs).setRow (w.heap.size + 3) es) d M.c ∧ Below w.heap.size w ((w3.setRow (w.heap.size + 2) cs).setRow (w.heap.size + 3) es) := by
  have hb := setRow_below (setRow_below h.b (show w.heap.size ≤ w.heap.size + 2 by omega) cs) (show w.heap.size ≤ w.heap.size + 3 by omega) es
  exact ⟨h0.below hb, hb⟩
theorem with_litN (i : Nat) (x : Ev) (u t : Bool) (B : Nat) (d : Dv) (M : Ms Ev) (hok : M.Ok) (hi : i < M.c.length) (w : World) (h : Dw B w d M.c) (hB : B ≤ w.heap.size) : Calls Try.prog 47 #[.agg #[.slice (some ⟨d.gx, 0, none⟩) M.c.length d.cx, .slice (some ⟨d.gu, 0, none⟩) M.c.length d.cu, .slice (some ⟨d.gt, 0, none⟩) M.c.length d.ct, .int .i64 (M.h : Nat)], .int .i64 (i : Nat), .agg (evL x).toArray, .bool u, .bool t] w fun e w' => ∃ d' : Dv, e = .returned (.agg #[.slice (some ⟨d'.gx, 0, none⟩) M.c.length d'.cx, .slice (some ⟨d'.gu, 0, none⟩) M.c.length d'.cu, .slice (some ⟨d'.gt, 0, none⟩) M.c.length d'.ct, .int .i64 (M.h : Nat)]) ∧ Dw w.heap.size w' d' (M.c.set i ⟨x, u, t⟩) ∧ Below w.heap.size w w' := by
  have hl : (M.c.set i ⟨x, u, t⟩).length = M.c.length := List.length_set
  refine (with_new B i x u t d M hok hi w h hB).mono ?_
  rintro e w' ⟨d', h1, h2, h3⟩
  rw [dV_eq] at h1
  simp only [hl] at h1
  exact ⟨d', h1, h2, h3⟩
theorem Dw.setHigh {B q : Nat} {w : World} {d : Dv} {c : List (Ce Ev)} (h : Dw B w d c) (hq : q < B) (cs : Array Value) : Dw B (w.setRow q cs) d c := by
  have f : ∀ {e : TypeId} {k g n cap : Nat} {xs : List Value}, w.ownsRow B e k (.slice (some ⟨g, 0, none⟩) n cap) n xs → (w.setRow q cs).ownsRow B e k (.slice (some ⟨g, 0, none⟩) n cap) n xs := fun ho => own_eq ho (setRow_other _ _ _ _ (by have := (own_base ho).1; omega))
  exact ⟨f h.ox, f h.ou, f h.ot, h.ne⟩
/-- What is told of a slot: both boxes are stored. -/
theorem look_on {B : Nat} {w w3 w5 : World} {d d' : Dv} {M : Ms Ev} {c : List (Ce Ev)} {z : Array Value} (h : Bx B w.heap.size (w.heap.size + 2) w w3 d M) (he : Blk w3 (w.heap.size + 3) 39 z) (hB : B ≤ w.heap.size) (hD : Dw w3.heap.size w5 d' c) (hb : Below w3.heap.size w3 w5) (cs es : Array Value) : Blk w5 (w.heap.size + 2) 29 zD ∧ Blk (w5.setRow (w.heap.size + 2) cs) (w.heap.size + 3) 39 z ∧ Dw B ((w5.setRow (w.heap.size + 2) cs).setRow (w.heap.size + 3) es) d' c ∧ Below w.heap.size w ((w5.setRow (w.heap.size + 2) cs).setRow (w.heap.size + 3) es) := by
  have l2 := h.br.lt
  have l3 := he.lt
  refine ⟨h.br.eq (hb.block _ l2), (he.eq (hb.block _ l3)).eq (setRow_other _ _ _ _ (by omega)), ?_, setRow_below (setRow_below (h.b.trans (hb.mono h.b.size)) (by omega) cs) (by omega) es⟩
  exact ((hD.setHigh l2 cs).setHigh l3 es).mono (Nat.le_trans hB h.b.size)
set_option linter.unusedSimpArgs false in
set_option maxRecDepth 100000 in
set_option maxHeartbeats 4000000 in
theorem rlook_a (B : Nat) (q : Qu) (d : Dv) (M : Ms Ev) (hok : M.Ok) (now : Nat) (w : World) (h : Dw B w d M.c) (hB : B ≤ w.heap.size) (hs : slotOf (pc M.c) q = none) : Calls Try.prog 29 #[dV d M, .agg #[.string q.n, .int .u16 (q.k : Nat), .int .u16 (q.c : Nat)], .int .u64 (now : Nat)] w fun e w' => ∃ d' : Dv, e = .returned (.tuple #[dV d' (lookE M q now).1, .agg (evL (lookE M q now).2.1).toArray, .bool (lookE M q now).2.2]) ∧ Dw B w' d' (lookE M q now).1.c ∧ Below w.heap.size w w' := by
  have h4 := bx_four h #[.string q.n, .int .u16 (q.k : Nat), .int .u16 (q.c : Nat)] 35 #[.string ⟨#[]⟩, .int .u16 0, .int .u16 0, .slice none 0 0, .int .i64 0, .int .i64 0, .int .u64 0]
  obtain ⟨T3, hT3⟩ : ∃ T3 : World, (((w.alloc (Obj.cells #[.slice (some ⟨d.gx, 0, none⟩) M.c.length d.cx, .slice (some ⟨d.gu, 0, none⟩) M.c.length d.cu, .slice (some ⟨d.gt, 0, none⟩) M.c.length d.ct, .int .i64 (M.h : Nat)] 29)).alloc (Obj.cells #[.string q.n, .int .u16 (q.k : Nat), .int .u16 (q.c : Nat)] 35)).alloc (Obj.cells zD 29)).alloc (Obj.cells #[.string ⟨#[]⟩, .int .u16 0, .int .u16 0, .slice none 0 0, .int .i64 0, .int .i64 0, .int .u64 0] 39) = T3 := ⟨_, rfl⟩
  rw [hT3] at h4
  have HT := Lib.hid h4.1
  have HQ := Lib.hid h4.2.1
  have HE := Lib.hid h4.2.2
  have HC := Lib.hid (at_any B q d M hok T3 h4.1.D)
  have HBB := Lib.hid hB
  have H0 := Lib.hid h
  rw [dV_eq] at HC ⊢
  unfold zD at hT3
  have hL : lookE M q now = (M, default, false) := by unfold lookE; rw [hs]
  rw [hL]
  rw [hs] at HC
  simp only [atI] at HC
  have HV := Lib.hid (fun d' => dV_of d' (M := M) (N := M) rfl rfl)
  clear h hok hB h4 hs hL
  go_enter Try.func29, Try.ntmps29
  go_upto_region 1 with (fail)
  try rw [hT3]
  clear hT3
  generalize T3 = w1 at *
  have q0 := HQ.out.cell 0
  have q1 := HQ.out.cell 1
  have q2 := HQ.out.cell 2
  simp only [List.getElem?_toArray, List.getElem?_cons_zero, List.getElem?_cons_succ] at q0 q1 q2
  go_upto_region 2 with (first | (refine wpList_load_row rfl 29 _ rfl (w.heap.size) rfl 29 _ _ _ HT.out.bx Try.underlying29 rfl infoD ?_) | (go_at_call 45; with_reducible (refine HC.out.mono ?_); rintro e w3 ⟨rfl, hb3⟩; have HX3 := Lib.hid (HT.out.low hb3); have HE3 := Lib.hid (HE.out.eq (hb3.block _ HE.out.lt)); clear hb3))
  have HE5 := Lib.hid (HE3.out.eq (setRow_other w3 (w.heap.size + 2) (w.heap.size + 3) #[.slice (some ⟨d.gx, 0, none⟩) M.c.length d.cx, .slice (some ⟨d.gu, 0, none⟩) M.c.length d.cu, .slice (some ⟨d.gt, 0, none⟩) M.c.length d.ct, .int .i64 (M.h : Nat)] (by omega)))
  have HR := Lib.hid (look_off H0.out HX3.out HE3.out #[.slice (some ⟨d.gx, 0, none⟩) M.c.length d.cx, .slice (some ⟨d.gu, 0, none⟩) M.c.length d.cu, .slice (some ⟨d.gt, 0, none⟩) M.c.length d.ct, .int .i64 (M.h : Nat)] (evL (default : Ev)).toArray)
  clear q0 q1 q2
  go_wp2_with (first | (refine wpList_load_row rfl 29 _ rfl (w.heap.size) rfl 29 _ _ _ HX3.out.bx Try.underlying29 rfl infoD ?_) | (refine wpList_store_row rfl 29 _ _ rfl (w.heap.size + 2) _ rfl rfl 29 _ HX3.out.br infoD rfl (all4 _ _ _ _ _ _ _ _) ?_) | (refine wpList_store_row rfl 39 _ _ rfl (w.heap.size + 3) (evL (default : Ev)).toArray rfl rfl 39 _ HE5.out infoE rfl (evL_one default) ?_))
  refine ret_look rfl rfl rfl rfl rfl rfl (show Blk _ (w.heap.size + 2) 29 #[.slice (some ⟨d.gx, 0, none⟩) M.c.length d.cx, .slice (some ⟨d.gu, 0, none⟩) M.c.length d.cu, .slice (some ⟨d.gt, 0, none⟩) M.c.length d.ct, .int .i64 (M.h : Nat)] from (setRow_other _ _ _ _ (by omega)).trans (setRow_heap _ _ _ _ _ _ HX3.out.br)) (setRow_heap _ _ _ _ _ _ HE5.out) ⟨d, ?_, HR.out.1, HR.out.2⟩
  rw [← HV.out]
  rfl
set_option linter.unusedSimpArgs false in
set_option maxRecDepth 100000 in
set_option maxHeartbeats 4000000 in
theorem rlook_b (B : Nat) (q : Qu) (d : Dv) (M : Ms Ev) (hok : M.Ok) (now : Nat) (w : World) (h : Dw B w d M.c) (hB : B ≤ w.heap.size) (k : Nat) (hs : slotOf (pc M.c) q = some k) (he : (M.c.getD k Z0).x.e.ex ≤ now) : Calls Try.prog 29 #[dV d M, .agg #[.string q.n, .int .u16 (q.k : Nat), .int .u16 (q.c : Nat)], .int .u64 (now : Nat)] w fun e w' => ∃ d' : Dv, e = .returned (.tuple #[dV d' (lookE M q now).1, .agg (evL (lookE M q now).2.1).toArray, .bool (lookE M q now).2.2]) ∧ Dw B w' d' (lookE M q now).1.c ∧ Below w.heap.size w w' := by
  have h4 := bx_four h #[.string q.n, .int .u16 (q.k : Nat), .int .u16 (q.c : Nat)] 35 #[.string ⟨#[]⟩, .int .u16 0, .int .u16 0, .slice none 0 0, .int .i64 0, .int .i64 0, .int .u64 0]
  obtain ⟨T3, hT3⟩ : ∃ T3 : World, (((w.alloc (Obj.cells #[.slice (some ⟨d.gx, 0, none⟩) M.c.length d.cx, .slice (some ⟨d.gu, 0, none⟩) M.c.length d.cu, .slice (some ⟨d.gt, 0, none⟩) M.c.length d.ct, .int .i64 (M.h : Nat)] 29)).alloc (Obj.cells #[.string q.n, .int .u16 (q.k : Nat), .int .u16 (q.c : Nat)] 35)).alloc (Obj.cells zD 29)).alloc (Obj.cells #[.string ⟨#[]⟩, .int .u16 0, .int .u16 0, .slice none 0 0, .int .i64 0, .int .i64 0, .int .u64 0] 39) = T3 := ⟨_, rfl⟩
  rw [hT3] at h4
  have HT := Lib.hid h4.1
  have HQ := Lib.hid h4.2.1
  have HE := Lib.hid h4.2.2
  have HC := Lib.hid (at_any B q d M hok T3 h4.1.D)
  have HBB := Lib.hid hB
  have H0 := Lib.hid h
  rw [dV_eq] at HC ⊢
  unfold zD at hT3
  have hL : lookE M q now = (M, default, false) := by
    unfold lookE
    rw [hs]
    exact if_neg (by omega)
  rw [hL]
  obtain ⟨hk, _⟩ := slot_ltE hs
  rw [hs] at HC
  simp only [atI] at HC
  have g0 : decide ((k : Int) < 0) = false := by simp
  have g1 : (0 : Int) ≤ (k : Nat) := by omega
  have g2 : (k : Int) < (M.c.length : Nat) := by omega
  have HK := Lib.hid hk
  have HV := Lib.hid (fun d' => dV_of d' (M := M) (N := M) rfl rfl)
  clear h hok hB h4 hs hL hk
  go_enter Try.func29, Try.ntmps29
  go_upto_region 1 with (fail)
  try rw [hT3]
  clear hT3
  generalize T3 = w1 at *
  have q0 := HQ.out.cell 0
  have q1 := HQ.out.cell 1
  have q2 := HQ.out.cell 2
  simp only [List.getElem?_toArray, List.getElem?_cons_zero, List.getElem?_cons_succ] at q0 q1 q2
  go_upto_region 2 with (first | (refine wpList_load_row rfl 29 _ rfl (w.heap.size) rfl 29 _ _ _ HT.out.bx Try.underlying29 rfl infoD ?_) | (go_at_call 45; with_reducible (refine HC.out.mono ?_); rintro e w3 ⟨rfl, hb3⟩; have HX3 := Lib.hid (HT.out.low hb3); have HE3 := Lib.hid (HE.out.eq (hb3.block _ HE.out.lt)); clear hb3))
  have HE5 := Lib.hid (HE3.out.eq (setRow_other w3 (w.heap.size + 2) (w.heap.size + 3) #[.slice (some ⟨d.gx, 0, none⟩) M.c.length d.cx, .slice (some ⟨d.gu, 0, none⟩) M.c.length d.cu, .slice (some ⟨d.gt, 0, none⟩) M.c.length d.ct, .int .i64 (M.h : Nat)] (by omega)))
  have HR := Lib.hid (look_off H0.out HX3.out HE3.out #[.slice (some ⟨d.gx, 0, none⟩) M.c.length d.cx, .slice (some ⟨d.gu, 0, none⟩) M.c.length d.cu, .slice (some ⟨d.gt, 0, none⟩) M.c.length d.ct, .int .i64 (M.h : Nat)] (evL (default : Ev)).toArray)
  clear q0 q1 q2
  have r6 := e_at (HX3.out.D.e0 HK.out)
  have x0 := HX3.out.bx.cell 0
  simp only [List.getElem?_toArray, List.getElem?_cons_zero] at x0
  generalize (M.c.getD k Z0).x.e.ex = ex at *
  go_wp2_with (first | (refine wpList_load_row rfl 29 _ rfl (w.heap.size) rfl 29 _ _ _ HX3.out.bx Try.underlying29 rfl infoD ?_) | (refine wpList_store_row rfl 29 _ _ rfl (w.heap.size + 2) _ rfl rfl 29 _ HX3.out.br infoD rfl (all4 _ _ _ _ _ _ _ _) ?_) | (refine wpList_store_row rfl 39 _ _ rfl (w.heap.size + 3) (evL (default : Ev)).toArray rfl rfl 39 _ HE5.out infoE rfl (evL_one default) ?_))
  refine ret_look rfl rfl rfl rfl rfl rfl (show Blk _ (w.heap.size + 2) 29 #[.slice (some ⟨d.gx, 0, none⟩) M.c.length d.cx, .slice (some ⟨d.gu, 0, none⟩) M.c.length d.cu, .slice (some ⟨d.gt, 0, none⟩) M.c.length d.ct, .int .i64 (M.h : Nat)] from (setRow_other _ _ _ _ (by omega)).trans (setRow_heap _ _ _ _ _ _ HX3.out.br)) (setRow_heap _ _ _ _ _ _ HE5.out) ⟨d, ?_, HR.out.1, HR.out.2⟩
  rw [← HV.out]
  rfl
theorem box_cells {w : World} {q n h : Nat} {d : Dv} (hb : Blk w q 29 #[.slice (some ⟨d.gx, 0, none⟩) n d.cx, .slice (some ⟨d.gu, 0, none⟩) n d.cu, .slice (some ⟨d.gt, 0, none⟩) n d.ct, .int .i64 (h : Nat)]) : w.cell? ⟨q, 0, none⟩ = some (.slice (some ⟨d.gx, 0, none⟩) n d.cx) ∧ w.cell? ⟨q, 1, none⟩ = some (.slice (some ⟨d.gu, 0, none⟩) n d.cu) ∧ w.cell? ⟨q, 2, none⟩ = some (.slice (some ⟨d.gt, 0, none⟩) n d.ct) ∧ w.cell? ⟨q, 3, none⟩ = some (.int .i64 (h : Nat)) := ⟨hb.cell 0, hb.cell 1, hb.cell 2, hb.cell 3⟩
end Go.Proofs.Ytjjanogfcfapcaa.D
