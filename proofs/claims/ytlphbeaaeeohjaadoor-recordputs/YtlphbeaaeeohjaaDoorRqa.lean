/- The contracts of record: Key, MayQ, May. -/
import Derived.Test.YtlphbeaaeeohjaaDoorWcm
import Derived.Test.YtlphbeaaeeohjaaDoorRra
import Derived.Test.YtlphbeaaeeohjaaDoorRmn
import Derived.Laws.ResultCell
namespace Go.Proofs.YtlphbeaaeeohjaaDoor
open Go.RowKit
set_option linter.unusedVariables false

theorem infoQ : (Tryd.prog.info? 29).map (·.size) = some 3 := by kernel_rfl
theorem infoR : (Tryd.prog.info? 25).map (·.size) = some 5 := by kernel_rfl
theorem load_q (w : World) (g : Nat) (a b c : Value) (hg : w.heap[g]? = some (.cells #[a, b, c] 29 (0, 0))) : (loadVar 29 ⟨g, 0, none⟩).run Tryd.prog w = .ok (.agg #[a, b, c]) w :=
  run_loadVar_row w g 29 29 #[a, b, c] (0, 0) _ hg Tryd.underlying29 rfl infoQ
theorem load_r (w : World) (g : Nat) (a b c d e : Value) (hg : w.heap[g]? = some (.cells #[a, b, c, d, e] 25 (0, 0))) : (loadVar 25 ⟨g, 0, none⟩).run Tryd.prog w = .ok (.agg #[a, b, c, d, e]) w :=
  run_loadVar_row w g 25 25 #[a, b, c, d, e] (0, 0) _ hg Tryd.underlying25 rfl infoR
theorem ret_q {w : World} {fn : Func} {p : Tmp} {R : Ending → World → Prop} {a : Act} {g : Nat} {x y z : Value} (h : fn.results = #[.cell p 29]) (hp : a.tmps.getD p undef = .pointer (some ⟨g, 0, none⟩)) (hd : a.defers = [])
    (hg : w.heap[g]? = some (.cells #[x, y, z] 29 (0, 0))) (hR : R (.returned (.agg #[x, y, z])) w) : bodyPost Tryd.prog fn R .ret a w :=
  bodyPost_ret (results_cell_row h _ w g 29 #[x, y, z] (0, 0) _ hp hg Tryd.underlying29 rfl infoQ) hd hR
theorem ret_q3 {w : World} {fn : Func} {p u v : Tmp} {R : Ending → World → Prop} {a : Act} {g : Nat} {x y z s t : Value} (h : fn.results = #[.cell p 29, .tmp u, .tmp v]) (hp : a.tmps.getD p undef = .pointer (some ⟨g, 0, none⟩)) (hu : a.tmps.getD u undef = s) (hv : a.tmps.getD v undef = t) (hd : a.defers = [])
    (hg : w.heap[g]? = some (.cells #[x, y, z] 29 (0, 0))) (hR : R (.returned (.tuple #[.agg #[x, y, z], s, t])) w) : bodyPost Tryd.prog fn R .ret a w := by
  refine bodyPost_ret (v := .tuple #[.agg #[x, y, z], s, t]) ?_ hd hR
  rw [results_cell_tmp2 h, hp, hu, hv]
  simp [asAddr, Result.andThen, load_q w g x y z hg]
theorem ret_r3 {w : World} {fn : Func} {p u v : Tmp} {R : Ending → World → Prop} {a : Act} {g : Nat} {x y z x1 y1 s t : Value} (h : fn.results = #[.cell p 25, .tmp u, .tmp v]) (hp : a.tmps.getD p undef = .pointer (some ⟨g, 0, none⟩)) (hu : a.tmps.getD u undef = s) (hv : a.tmps.getD v undef = t) (hd : a.defers = [])
    (hg : w.heap[g]? = some (.cells #[x, y, z, x1, y1] 25 (0, 0))) (hR : R (.returned (.tuple #[.agg #[x, y, z, x1, y1], s, t])) w) : bodyPost Tryd.prog fn R .ret a w := by
  refine bodyPost_ret (v := .tuple #[.agg #[x, y, z, x1, y1], s, t]) ?_ hd hR
  rw [results_cell_tmp2 h, hp, hu, hv]
  simp [asAddr, Result.andThen, load_r w g x y z x1 y1 hg]

theorem key_any (n d : ByteArray) (k c t : Int) (w : World) :
    Calls Tryd.prog 10 #[.agg #[.string n, .int .u16 k, .int .u16 c, .int .u32 t, .string d]] w fun e w' => e = .returned (.agg #[.string n, .int .u16 k, .int .u16 c]) ∧ Below w.heap.size w w' := by
  go_enter Tryd.func10, Tryd.ntmps10
  go_wp2_with fail
  refine ret_q rfl rfl rfl (heap_alloc2_new w _ _) ⟨rfl, ?_⟩
  exact ((Below.refl _ w).alloc (Nat.le_refl _) _).alloc (by simp) _

theorem mayq_any (n : ByteArray) (k c : Int) (hn : n.size ≤ 140737488355328) (w : World) :
    Calls Tryd.prog 17 #[.agg #[.string n, .int .u16 k, .int .u16 c]] w fun e w' => e = .returned (.bool (mayB n)) ∧ Below w.heap.size w w' := by
  go_enter Tryd.func17, Tryd.ntmps17
  go_wp2_with fail
  refine (may_any n hn _).mono ?_
  rintro e w1 ⟨rfl, hb1⟩
  go_wp2_with fail
  go_ret
  exact ⟨rfl, ((Below.refl _ w).alloc (Nat.le_refl _) _).trans (hb1.mono (by simp))⟩

set_option maxRecDepth 100000 in
theorem mayr_any (r : Rc) (hn : r.n.size ≤ 140737488355328) (hd : r.d.size ≤ 1073741824) (hr : r.Ok) (w : World) (hL : Lay w) :
    Calls Tryd.prog 15 #[.agg #[.string r.n, .int .u16 (r.k : Nat), .int .u16 (r.c : Nat), .int .u32 (r.t : Nat), .string r.d]] w fun e w' => e = .returned (.bool (mayR r)) ∧ Below w.heap.size w w' := by
  obtain ⟨n, k, c, t, d⟩ := r
  obtain ⟨hk, hc, ht⟩ := hr
  simp only at hn hd hk hc ht ⊢
  have HL := Lib.hid hL
  have H0 := Lib.hid (lay_lt hL)
  have HM := Lib.hid (fun w' => may_any n hn w')
  have HD := Lib.hid (fun w' => rmay_any k d hd hk w')
  have HE := Lib.hid (may_eq k d)
  have hmr : mayR ⟨n, k, c, t, d⟩ = (mayB n && mayD k d) := rfl
  rw [hmr]
  clear hL hmr
  cases hm : mayB n with
  | false =>
    rw [hm] at HM
    go_enter Tryd.func15, Tryd.ntmps15
    go_wp2_with fail
    refine (HM.out _).mono ?_
    rintro e w1 ⟨rfl, hb1⟩
    go_wp2_with fail
    go_ret
    exact ⟨rfl, ((Below.refl _ w).alloc (Nat.le_refl _) _).trans (hb1.mono (by simp))⟩
  | true =>
    rw [hm] at HM
    have HN := Lib.hid (World.alloc_heap_new w (Obj.cells #[Value.string n, .int .u16 (k : Nat), .int .u16 (c : Nat), .int .u32 (t : Nat), .string d] 25))
    have HA := Lib.hid ((Below.refl w.heap.size w).alloc (Nat.le_refl _) (Obj.cells #[Value.string n, .int .u16 (k : Nat), .int .u16 (c : Nat), .int .u32 (t : Nat), .string d] 25))
    go_enter Tryd.func15, Tryd.ntmps15
    go_wp2_with fail
    refine (HM.out _).mono ?_
    rintro e w1 ⟨rfl, hb1⟩
    have hx := (hb1.block w.heap.size (by simp)).trans HN.out
    have c1 : w1.cell? ⟨w.heap.size, 1, none⟩ = some (.int .u16 (k : Nat)) := blk_cell hx 1
    have c4 : w1.cell? ⟨w.heap.size, 4, none⟩ = some (.string d) := blk_cell hx 4
    have HB := Lib.hid (HA.out.trans (hb1.mono HA.out.size))
    have HL1 := Lib.hid (HL.out.below H0.out HB.out)
    clear hx hb1
    go_wp2_with fail
    refine (HD.out _ HL1.out).mono ?_
    rintro e w2 ⟨rfl, hb2⟩
    rw [HE.out]
    go_wp2_with fail
    go_ret
    exact ⟨by simp, HB.out.trans (hb2.mono HB.out.size)⟩
end Go.Proofs.YtlphbeaaeeohjaaDoor
