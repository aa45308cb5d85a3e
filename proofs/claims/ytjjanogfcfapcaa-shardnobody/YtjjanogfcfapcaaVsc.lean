/- The contracts of the program's slots of entries: Get, Set, Touch, Free, step. -/
import Derived.Test.YtjjanogfcfapcaaVsb
import Derived.RegionTactic
import Derived.Laws.Tables
import Derived.Laws.Rows
namespace Go.Proofs.Ytjjanogfcfapcaa
open Go.RowKit
set_option linter.unusedVariables false

def zE : Array Value := #[.string ⟨#[]⟩, .int .u16 0, .int .u16 0, .slice none 0 0, .int .i64 0, .int .i64 0, .int .u64 0]
theorem infoS : (Try.prog.info? 108).map (·.size) = some 9 := by kernel_rfl
theorem cf_one (e : Ce Ev) : (cf e).toArray.all (·.oneCell') = true := by simp [cf, evL, Value.oneCell']
theorem load_e (w : World) (g : Nat) (cs : Array Value) (hs : cs.size = 7) (hg : w.heap[g]? = some (.cells cs 39 (0, 0))) : (loadVar 39 ⟨g, 0, none⟩).run Try.prog w = .ok (.agg cs) w :=
  run_loadVar_row w g 39 39 cs (0, 0) _ hg Try.underlying39 rfl (by rw [hs]; exact infoE)
theorem ret_e2 {w : World} {fn : Func} {p q : Tmp} {R : Ending → World → Prop} {a : Act} {g : Nat} {v : Value} (cs : Array Value) (hs : cs.size = 7) (h : fn.results = #[.cell p 39, .tmp q]) (hp : a.tmps.getD p undef = .pointer (some ⟨g, 0, none⟩)) (hq : a.tmps.getD q undef = v) (hd : a.defers = [])
    (hg : w.heap[g]? = some (.cells cs 39 (0, 0))) (hR : R (.returned (.tuple #[.agg cs, v])) w) : bodyPost Try.prog fn R .ret a w := by
  refine bodyPost_ret (v := .tuple #[.agg cs, v]) ?_ hd hR
  rw [results_cell_tmp h, hp, hq]
  simp [asAddr, Result.andThen, load_e w g cs hs hg]
theorem setRow_below {B g : Nat} {w0 w : World} (hb : Below B w0 w) (hBg : B ≤ g) (cs : Array Value) : Below B w0 (w.setRow g cs) :=
  ⟨hb.os, hb.tape, hb.output, by rw [setRow_size]; exact hb.size, fun k hk => by rw [setRow_other w g k cs (by omega)]; exact hb.block k hk⟩

set_option maxHeartbeats 1000000 in
theorem get_k {k : Nat} {w : World} {g b : Nat} {M : Ms Ev} (h : Sp w g b M) (hk : k < M.c.length) (hu : us M.c k = true) :
    Calls Try.prog 33 #[.pointer (some ⟨g, 0, none⟩), .int .i64 (k : Nat)] w fun e w' => e = .returned (.tuple #[evV (M.c.getD k Z0).x, .bool true]) ∧ Below w.heap.size w w' := by
  have hb := (Below.refl w.heap.size w).alloc (Nat.le_refl _) (Obj.cells zE 39)
  have HX := Lib.hid (Blk.new w 39 zE)
  have h1 := h.keep hb
  have HC := Lib.hid (has_any k h1)
  rw [has_nat hk, hu] at HC
  have HB := Lib.hid hb
  have HE := Lib.hid (h1.e0 hk)
  have c0 := h1.c0
  have s0 : (0 : Int) ≤ (k : Nat) := by omega
  have s1 : (k : Int) < M.c.length := by omega
  have h2 := h.ok.n64
  generalize (M.c.getD k Z0).x = x at *
  clear h hu hb h1
  go_enter Try.func33, Try.ntmps33
  go_upto_region 1 with (fail)
  unfold zE at *
  generalize w.alloc (Obj.cells #[.string ⟨#[]⟩, .int .u16 0, .int .u16 0, .slice none 0 0, .int .i64 0, .int .i64 0, .int .u64 0] 39) = w1 at *
  generalize M.c.length = n at *
  go_wp2_with (first
    | (refine wpList_load_mid rfl 39 _ rfl b (k * 9) rfl (evL x) _ HE.out Try.underlying39 rfl (infoEv x) ?_)
    | (refine wpList_store_row rfl 39 _ _ rfl w.heap.size _ rfl rfl 39 _ HX.out (infoEa x) rfl (evL_one x) ?_)
    | (go_at_call 50; (with_reducible (refine HC.out.mono ?_)); rintro e w1 ⟨rfl, rfl⟩))
  exact ret_e2 (evL x).toArray rfl rfl rfl rfl rfl (setRow_heap _ _ _ _ _ _ HX.out) ⟨rfl, setRow_below HB.out (Nat.le_refl _) _⟩

/-- What Set makes. -/
theorem cf_set (e : Ce Ev) (x : Ev) (i : Nat) (hi : i < 9) : (cf ⟨x, e.u, e.t⟩)[i]? = if 0 ≤ i ∧ i < 0 + (evL x).length then (evL x)[i - 0]? else (cf e)[i]? := by
  unfold cf
  by_cases h : i < 7
  · rw [if_pos (by rw [evL_len]; omega), List.getElem?_append_left (by rw [evL_len]; omega)]
    rfl
  · rw [if_neg (by rw [evL_len]; omega), List.getElem?_append_right (by rw [evL_len]; omega), List.getElem?_append_right (by rw [evL_len]; omega), evL_len, evL_len]
theorem cf_all (e e' : Ce Ev) (i : Nat) (hi : i < 9) : (cf e)[i]? = if 0 ≤ i ∧ i < 0 + (cf e).length then (cf e)[i - 0]? else (cf e')[i]? := by
  rw [if_pos (by rw [cf_len1]; omega)]
  rfl
theorem cf_tou (e : Ce Ev) (t : Bool) (i : Nat) (hi : i < 9) : (cf ⟨e.x, e.u, t⟩)[i]? = if 8 = i then some (.bool t) else (cf e)[i]? := by
  have h : i = 0 ∨ i = 1 ∨ i = 2 ∨ i = 3 ∨ i = 4 ∨ i = 5 ∨ i = 6 ∨ i = 7 ∨ i = 8 := by omega
  rcases h with rfl | rfl | rfl | rfl | rfl | rfl | rfl | rfl | rfl <;> rfl
set_option maxRecDepth 100000 in
set_option maxHeartbeats 2000000 in
theorem set_k {k : Nat} (x : Ev) {w : World} {g b : Nat} {M : Ms Ev} (h : Sp w g b M) (hk : k < M.c.length) (hu : us M.c k = true) :
    Calls Try.prog 51 #[.pointer (some ⟨g, 0, none⟩), .int .i64 (k : Nat), evV x] w fun e w' => e = .returned (.bool true) ∧ Sp w' g b ⟨M.c.set k ⟨x, true, ts M.c k⟩, M.h⟩ ∧ Fp g b w w' := by
  rw [evV_eq]
  have hb := (Below.refl w.heap.size w).alloc (Nat.le_refl _) (Obj.cells (evL x).toArray 39)
  have hx := Blk.new w 39 (evL x).toArray
  have h1 := h.keep hb
  have HC := Lib.hid (has_any k h1)
  rw [has_nat hk, hu] at HC
  have HB := Lib.hid (Fp.of (g := g) hb (Nat.le_of_lt h.bb.lt))
  have c0 := h1.c0
  have b0 := hx.cell 0
  have b1 := hx.cell 1
  have b2 := hx.cell 2
  have b3 := hx.cell 3
  have b4 := hx.cell 4
  have b5 := hx.cell 5
  have b6 := hx.cell 6
  have s0 : (0 : Int) ≤ (k : Nat) := by omega
  have s1 : (k : Int) < M.c.length := by omega
  have h2 := h.ok.n64
  unfold evL at b0 b1 b2 b3 b4 b5 b6
  simp only [List.getElem?_toArray, List.getElem?_cons_zero, List.getElem?_cons_succ] at b0 b1 b2 b3 b4 b5 b6
  have hp := cf_set (M.c.getD k Z0) x
  rw [show (M.c.getD k Z0).u = true from hu, show (M.c.getD k Z0).t = ts M.c k from rfl] at hp
  have HD := Lib.hid (h1.keep (Below.refl _ (w.alloc (Obj.cells (evL x).toArray 39))).drew)
  have HK := Lib.hid hk
  have HP := Lib.hid hp
  clear h hu hb h1 hx hp
  go_enter Try.func51, Try.ntmps51
  go_upto_region 1 with (fail)
  unfold evL at HB HD HC c0
  generalize w.alloc (Obj.cells #[.string x.e.q.n, .int .u16 (x.e.q.k : Nat), .int .u16 (x.e.q.c : Nat), .slice x.A x.e.l.length x.cap, .int .i64 x.e.rc, .int .i64 x.e.rk, .int .u64 (x.e.ex : Nat)] 39) = w1 at *
  have HB2 := Lib.hid (HB.out.trans (Fp.of (Below.refl _ w1).drew (Nat.le_of_lt (by have := HD.out.bb.lt; simpa using this))))
  go_upto_region 3 with (go_at_call 50; (with_reducible (refine HC.out.mono ?_)); rintro e w2 ⟨rfl, rfl⟩)
  go_still_tail 8, (by kernel_rfl)
  change wpList _ _ _ _ _ w2.drew
  generalize w2.drew = w3 at *
  clear c0 b0 b1 b2 b3 b4 b5 b6
  go_wp2_with (refine wpList_store_mid rfl 39 _ _ rfl b (k * 9) (evL x).toArray rfl rfl (HD.out.th HK.out 0 7 (by omega)) (infoEa x) (evL_one x) ?_)
  have hf := HD.out.part HK.out ⟨x, true, ts M.c k⟩ 0 (evL x) (by rw [evL_len]; omega) HP.out
  have HF := Lib.hid (And.intro hf.1 (HB2.out.trans hf.2))
  clear hf
  go_ret
  exact ⟨rfl, HF.out⟩
end Go.Proofs.Ytjjanogfcfapcaa
