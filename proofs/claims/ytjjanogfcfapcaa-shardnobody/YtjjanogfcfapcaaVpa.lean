/- The contracts of the program's shard: find. -/
import Derived.Test.YtjjanogfcfapcaaVck
import Derived.Deep.RegionHeld3
import Derived.Deep.CutBlock
import Derived.Deep.DeepCutAuto
import Derived.BigRegion
namespace Go.Proofs.Ytjjanogfcfapcaa
open Go.RowKit
set_option linter.unusedVariables false

theorem results_tct {fn : Func} {p q r : Tmp} {ty : TypeId} (h : fn.results = #[.tmp p, .cell q ty, .tmp r]) (tmps : Array Value) (P : Program) (w : World) :
    (results fn tmps).run P w =
      ((asAddr (tmps.getD q undef)).run P w).andThen fun a w₁ => ((loadVar ty a).run P w₁).andThen fun v w₂ => .ok (.tuple #[tmps.getD p undef, v, tmps.getD r undef]) w₂ := by
  simp only [results, h]
  simp [Sem.run_bind, Result.andThen]
theorem ret_e3 {w : World} {fn : Func} {p q r : Tmp} {R : Ending → World → Prop} {a : Act} {g : Nat} {u v : Value} (cs : Array Value) (hs : cs.size = 7) (h : fn.results = #[.tmp p, .cell q 39, .tmp r]) (hp : a.tmps.getD p undef = u) (hq : a.tmps.getD q undef = .pointer (some ⟨g, 0, none⟩)) (hr : a.tmps.getD r undef = v) (hd : a.defers = [])
    (hg : w.heap[g]? = some (.cells cs 39 (0, 0))) (hR : R (.returned (.tuple #[u, .agg cs, v])) w) : bodyPost Try.prog fn R .ret a w := by
  refine bodyPost_ret (v := .tuple #[u, .agg cs, v]) ?_ hd hR
  rw [results_tct h, hp, hq, hr]
  simp [asAddr, Result.andThen, load_e w g cs hs hg]
theorem zE_eq : zE = (evL default).toArray := rfl
theorem below_drewN (w : World) (n : Nat) : Below w.heap.size w (w.drewN n) := ⟨rfl, rfl, rfl, Nat.le_refl _, fun _ _ => rfl⟩
/-- The world of find: the question's box, and the result's. -/
structure Fi (w : World) (q : Qu) (w1 : World) : Prop where
  bq : Blk w1 w.heap.size 35 (qf q).toArray
  br : Blk w1 (w.heap.size + 1) 39 zE
  b : Below w.heap.size w w1
  sz : w1.heap.size = w.heap.size + 2
theorem fi_of (w : World) (q : Qu) : Fi w q ((w.alloc (.cells (qf q).toArray 35)).alloc (.cells zE 39)) := by
  have h1 := Blk.new w 35 (qf q).toArray
  have hb := (Below.refl w.heap.size w).alloc (Nat.le_refl _) (Obj.cells (qf q).toArray 35)
  have es : (w.alloc (Obj.cells (qf q).toArray 35)).heap.size = w.heap.size + 1 := by simp
  generalize w.alloc (Obj.cells (qf q).toArray 35) = w1 at *
  have h2 := Blk.new w1 39 zE
  have hb2 := (Below.refl w1.heap.size w1).alloc (Nat.le_refl _) (Obj.cells zE 39)
  rw [es] at h2
  exact ⟨h1.eq (hb2.block _ h1.lt), h2, hb.trans (hb2.mono hb.size), by simp [es]⟩

/-- A variable for an entry, and the entry in it. -/
theorem box_of (w : World) (x : Ev) : Blk ((w.alloc (.cells zE 39)).setRow w.heap.size (evL x).toArray) w.heap.size 39 (evL x).toArray ∧ Below w.heap.size w ((w.alloc (.cells zE 39)).setRow w.heap.size (evL x).toArray) :=
  ⟨setRow_heap _ _ _ _ _ _ (Blk.new w 39 zE), setRow_below ((Below.refl w.heap.size w).alloc (Nat.le_refl _) _) (Nat.le_refl _) _⟩
theorem Fi.dr {w w1 : World} {q : Qu} (h : Fi w q w1) (n : Nat) : Fi w q (w1.drewN n) := ⟨h.bq, h.br, ⟨h.b.os, h.b.tape, h.b.output, h.b.size, h.b.block⟩, h.sz⟩
set_option maxRecDepth 100000 in
set_option maxHeartbeats 2000000 in
theorem find_nil (q : Qu) (w : World) : Calls Try.prog 36 #[.pointer none, qV q] w fun e w' => e = .returned (.tuple #[.int .i64 0, evV default, .bool false]) ∧ Below w.heap.size w w' := by
  unfold qV
  have HF := Lib.hid (fi_of w q)
  go_enter Try.func36, Try.ntmps36
  go_upto_region 1 with (fail)
  unfold zE qf at HF
  generalize (w.alloc (Obj.cells #[.string q.n, .int .u16 (q.k : Nat), .int .u16 (q.c : Nat)] 35)).alloc (Obj.cells #[.string ⟨#[]⟩, .int .u16 0, .int .u16 0, .slice none 0 0, .int .i64 0, .int .i64 0, .int .u64 0] 39) = w1 at *
  go_wp2_with (refine wpList_store_row rfl 39 _ _ rfl (w.heap.size + 1) _ rfl rfl 39 _ HF.out.br infoE rfl (evL_one default) ?_)
  exact ret_e3 (evL default).toArray rfl rfl rfl rfl rfl rfl (setRow_heap _ _ _ _ _ _ HF.out.br) ⟨rfl, setRow_below HF.out.b (by omega) _⟩
set_option maxRecDepth 100000 in
set_option maxHeartbeats 2000000 in
theorem find_none (q : Qu) (hq : q.Fine) {w : World} {h : Nat} {K : Ly} {M : Ms Ev} {f : Qu → Option Nat} {N : Nat} {l : List W.Ti} (v : Sv w h K M f N l) (hf : f q = none) :
    Calls Try.prog 36 #[.pointer (some ⟨h, 0, none⟩), qV q] w fun e w' => e = .returned (.tuple #[.int .i64 0, evV default, .bool false]) ∧ Below w.heap.size w w' := by
  have hF := fi_of w q
  have v1 := v.low hF.b
  have HL := Lib.hid (fun n => (v1.low (below_drewN _ n)).pm.look hq)
  rw [hf] at HL
  have c1 := v1.c1
  have b0 := hF.bq.cell 0
  have b1 := hF.bq.cell 1
  have b2 := hF.bq.cell 2
  unfold qf at b0 b1 b2 c1 HL hF
  simp only [List.getElem?_toArray, List.getElem?_cons_zero, List.getElem?_cons_succ] at b0 b1 b2
  have HF := Lib.hid hF
  unfold qV at HL ⊢
  unfold zE at HL b0 b1 b2 c1 HF
  clear v v1 hF
  go_enter Try.func36, Try.ntmps36
  go_upto_region 1 with (fail)
  generalize (w.alloc (Obj.cells #[.string q.n, .int .u16 (q.k : Nat), .int .u16 (q.c : Nat)] 35)).alloc (Obj.cells #[.string ⟨#[]⟩, .int .u16 0, .int .u16 0, .slice none 0 0, .int .i64 0, .int .i64 0, .int .u64 0] 39) = w1 at *
  go_upto_region 3 with (fail)
  have hl := HL.out
  go_quiet (fail)
  have HF2 := Lib.hid (HF.out.dr nq)
  generalize w1.drewN nq = w2 at *
  clear hl b0 b1 b2 c1
  go_wp2_with (refine wpList_store_row rfl 39 _ _ rfl (w.heap.size + 1) _ rfl rfl 39 _ HF2.out.br infoE rfl (evL_one default) ?_)
  exact ret_e3 (evL default).toArray rfl rfl rfl rfl rfl rfl (setRow_heap _ _ _ _ _ _ HF2.out.br) ⟨rfl, setRow_below HF2.out.b (by omega) _⟩
set_option maxRecDepth 100000 in
set_option maxHeartbeats 4000000 in
theorem find_some (q : Qu) (hq : q.Fine) {w : World} {h : Nat} {K : Ly} {M : Ms Ev} {f : Qu → Option Nat} {N : Nat} {l : List W.Ti} (v : Sv w h K M f N l) {k : Nat} (hf : f q = some k) (hk : k < M.c.length) (hu : us M.c k = true) :
    Calls Try.prog 36 #[.pointer (some ⟨h, 0, none⟩), qV q] w fun e w' => e = .returned (.tuple #[.int .i64 (k : Nat), evV (M.c.getD k Z0).x, .bool true]) ∧ Below w.heap.size w w' := by
  have hF := fi_of w q
  have v1 := v.low hF.b
  have HL := Lib.hid (fun n => (v1.low (below_drewN _ n)).pm.look hq)
  rw [hf] at HL
  have c1 := v1.c1
  have b0 := hF.bq.cell 0
  have b1 := hF.bq.cell 1
  have b2 := hF.bq.cell 2
  have HV := Lib.hid v1
  unfold qf at b0 b1 b2 c1 HL hF HV
  simp only [List.getElem?_toArray, List.getElem?_cons_zero, List.getElem?_cons_succ] at b0 b1 b2
  have HF := Lib.hid hF
  unfold qV at HL ⊢
  unfold zE at HL b0 b1 b2 c1 HF HV
  clear v v1 hF
  obtain ⟨x, HX⟩ : ∃ x, Hid ((M.c.getD k Z0).x = x) := ⟨_, Lib.hid rfl⟩
  rw [HX.out]
  go_enter Try.func36, Try.ntmps36
  go_upto_region 1 with (fail)
  generalize (w.alloc (Obj.cells #[.string q.n, .int .u16 (q.k : Nat), .int .u16 (q.c : Nat)] 35)).alloc (Obj.cells #[.string ⟨#[]⟩, .int .u16 0, .int .u16 0, .slice none 0 0, .int .i64 0, .int .i64 0, .int .u64 0] 39) = w1 at *
  go_upto_region 3 with (fail)
  have hl := HL.out
  simp only [Option.getD_some, Option.isSome_some] at hl
  go_quiet (fail)
  have HF2 := Lib.hid (HF.out.dr nq)
  have HV2 := Lib.hid (HV.out.low (below_drewN _ nq))
  generalize w1.drewN nq = w2 at *
  clear hl b0 b1 b2 c1
  have HG := Lib.hid (get_k HV2.out.sp hk hu)
  rw [HX.out] at HG
  have c0 := HV2.out.c0
  go_upto_region 7 with (first | (refine wpList_store_row rfl 39 _ _ rfl w3.heap.size _ rfl rfl 39 _ HN.out (infoEa x) rfl (evL_one x) ?_) | (go_at_call 33; (with_reducible (refine HG.out.mono ?_)); rintro e w3 ⟨rfl, hb3⟩; have HB3 := Lib.hid hb3; have HN := Lib.hid (Blk.new w3 39 zE); unfold zE at HN; clear hb3))
  have hbr := HF2.out.br.eq (HB3.out.block _ HF2.out.br.lt)
  obtain ⟨hb4, h4⟩ := box_of w3 x
  unfold zE at hb4 h4
  have HN2 := Lib.hid (And.intro hbr (And.intro hb4 h4))
  generalize (w3.alloc (Obj.cells #[.string ⟨#[]⟩, .int .u16 0, .int .u16 0, .slice none 0 0, .int .i64 0, .int .i64 0, .int .u64 0] 39)).setRow w3.heap.size (evL x).toArray = w4 at *
  clear hbr hb4 h4 c0 HN
  have e0 := HN2.out.2.1.cell 0
  have e1 := HN2.out.2.1.cell 1
  have e2 := HN2.out.2.1.cell 2
  have e3 := HN2.out.2.1.cell 3
  have e4 := HN2.out.2.1.cell 4
  have e5 := HN2.out.2.1.cell 5
  have e6 := HN2.out.2.1.cell 6
  unfold evL at e0 e1 e2 e3 e4 e5 e6
  simp only [List.getElem?_toArray, List.getElem?_cons_zero, List.getElem?_cons_succ] at e0 e1 e2 e3 e4 e5 e6
  go_still_tail 3, (by kernel_rfl)
  change wpList _ _ _ _ _ w4.drew
  have hd := (Below.refl w4.heap.size w4).drew
  have HR := Lib.hid (HN2.out.1.eq ((HN2.out.2.2.trans (hd.mono HN2.out.2.2.size)).block _ HN2.out.1.lt))
  have HB := Lib.hid (HF2.out.b.trans ((HB3.out.trans ((HN2.out.2.2.trans (hd.mono HN2.out.2.2.size)).mono HB3.out.size)).mono HF2.out.b.size))
  clear hd e0 e1 e2 e3 e4 e5 e6
  generalize w4.drew = w5 at *
  go_wp2_with (refine wpList_store_row rfl 39 _ _ rfl (w.heap.size + 1) (evL x).toArray rfl rfl 39 _ HR.out (infoEa x) rfl (evL_one x) ?_)
  exact ret_e3 (evL x).toArray rfl rfl rfl rfl rfl rfl (setRow_heap _ _ _ _ _ _ HR.out) ⟨rfl, setRow_below HB.out (by omega) _⟩
end Go.Proofs.Ytjjanogfcfapcaa
