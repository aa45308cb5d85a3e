/- The document's slots in memory; the contracts of derrickref10.There, Get, All, New; derrickref09.Ints at what is the same. -/
import Derived.Test.YtpoienhmnaeaiaaSoe
import Derived.RegionTactic
import Derived.Deep.DeepCutAuto
import Derived.Below
import Derived.Laws.Rows
import Derived.Laws.Tables
import Derived.Deep.RegionHeld3
import Derived.Deep.RegionHeld
import Derived.Deep.RegionLawGrows
namespace Go.Proofs.Ytpoienhmnaeaiaa
open Go.RowKit
set_option linter.unusedVariables false

def xsV (c : List Ce) : List Value := c.map fun e => .string e.x
def usV (c : List Ce) : List Value := c.map fun e => .bool e.u
def tsV (c : List Ce) : List Value := c.map fun e => .bool e.t
/-- Where the three slices lie. -/
structure Dv where
  gx : Nat
  cx : Nat
  gu : Nat
  cu : Nat
  gt : Nat
  ct : Nat
structure Dw (B : Nat) (w : World) (d : Dv) (c : List Ce) : Prop where
  ox : w.ownsRow B 9 1 (.slice (some ⟨d.gx, 0, none⟩) c.length d.cx) c.length (xsV c)
  ou : w.ownsRow B 4 1 (.slice (some ⟨d.gu, 0, none⟩) c.length d.cu) c.length (usV c)
  ot : w.ownsRow B 4 1 (.slice (some ⟨d.gt, 0, none⟩) c.length d.ct) c.length (tsV c)
  ne : d.gu ≠ d.gt
def Dv.cs (d : Dv) (n h : Nat) : Array Value := #[.slice (some ⟨d.gx, 0, none⟩) n d.cx, .slice (some ⟨d.gu, 0, none⟩) n d.cu, .slice (some ⟨d.gt, 0, none⟩) n d.ct, .int .i64 (h : Nat)]
/-- The value of the document's slots. -/
def dV (d : Dv) (M : Ms) : Value := .agg (d.cs M.c.length M.h)
theorem dV_eq (d : Dv) (M : Ms) : dV d M = .agg #[.slice (some ⟨d.gx, 0, none⟩) M.c.length d.cx, .slice (some ⟨d.gu, 0, none⟩) M.c.length d.cu, .slice (some ⟨d.gt, 0, none⟩) M.c.length d.ct, .int .i64 (M.h : Nat)] := rfl
theorem Dw.below {B : Nat} {w w' : World} {d : Dv} {c : List Ce} (h : Dw B w d c) (hb : Below w.heap.size w w') : Dw B w' d c := ⟨ownR_below h.ox hb, ownR_below h.ou hb, ownR_below h.ot hb, h.ne⟩
theorem own_eq {w w' : World} {B : Nat} {e : TypeId} {k g n cap : Nat} {xs : List Value} (h : w.ownsRow B e k (.slice (some ⟨g, 0, none⟩) n cap) n xs) (hg : w'.heap[g]? = w.heap[g]?) : w'.ownsRow B e k (.slice (some ⟨g, 0, none⟩) n cap) n xs := by
  refine ⟨h.1, ?_⟩
  rcases h.2 with ⟨h1, _⟩ | ⟨g', cap', cur, h1, h2, h3, h4⟩
  · cases h1
  · cases h1; exact .inr ⟨g, cap, cur, rfl, h2, hg.trans h3, h4⟩
theorem own_base {w : World} {B : Nat} {e : TypeId} {k g n cap : Nat} {xs : List Value} (h : w.ownsRow B e k (.slice (some ⟨g, 0, none⟩) n cap) n xs) : B ≤ g ∧ g < w.heap.size := by
  rcases h.2 with ⟨h1, _⟩ | ⟨g', cap', cur, h1, h2, h3, h4⟩
  · cases h1
  · cases h1; exact ⟨h2, heap_lt h3⟩
theorem own_blk {w : World} {B : Nat} {e : TypeId} {k g n cap : Nat} {xs : List Value} (h : w.ownsRow B e k (.slice (some ⟨g, 0, none⟩) n cap) n xs) : ∃ cur, Blk w g e cur := by
  rcases h.2 with ⟨h1, _⟩ | ⟨g', cap', cur, h1, h2, h3, h4⟩
  · cases h1
  · cases h1; exact ⟨cur, h3⟩
theorem own_mono {w : World} {B B' : Nat} {e : TypeId} {k : Nat} {v : Value} {n : Nat} {xs : List Value} (h : w.ownsRow B e k v n xs) (hB : B' ≤ B) : w.ownsRow B' e k v n xs := by
  refine ⟨h.1, ?_⟩
  rcases h.2 with h1 | ⟨g, cap, cur, h1, h2, h3, h4⟩
  · exact .inl h1
  · exact .inr ⟨g, cap, cur, h1, by omega, h3, h4⟩
/-- What a deed of the program's leaves: the document's slots, which lie above. -/
theorem Dw.fp {g b B : Nat} {w w' : World} {d : Dv} {c : List Ce} (h : Dw B w d c) (hf : Fp g b w w') (hB : g < B) : Dw B w' d c :=
  ⟨own_eq h.ox (hf.high _ (by have := own_base h.ox; omega) (own_base h.ox).2), own_eq h.ou (hf.high _ (by have := own_base h.ou; omega) (own_base h.ou).2), own_eq h.ot (hf.high _ (by have := own_base h.ot; omega) (own_base h.ot).2), h.ne⟩
theorem Dw.mono {B B' : Nat} {w : World} {d : Dv} {c : List Ce} (h : Dw B w d c) (hB : B' ≤ B) : Dw B' w d c := ⟨own_mono h.ox hB, own_mono h.ou hB, own_mono h.ot hB, h.ne⟩
theorem xsV_at (c : List Ce) (k : Nat) (hk : k < c.length) : (xsV c)[k]? = some (.string (c.getD k Z0).x) := by simp [xsV, hk]
theorem usV_at (c : List Ce) (k : Nat) (hk : k < c.length) : (usV c)[k]? = some (.bool (us c k)) := by simp [usV, us, hk]
theorem tsV_at (c : List Ce) (k : Nat) (hk : k < c.length) : (tsV c)[k]? = some (.bool (ts c k)) := by simp [tsV, ts, hk]
section
variable {B : Nat} {w : World} {d : Dv} {c : List Ce}
theorem Dw.e0 (h : Dw B w d c) {k : Nat} (hk : k < c.length) : w.cell? ⟨d.gx, k, none⟩ = some (.string (c.getD k Z0).x) := (h.ox.cellAt k (by omega)).trans (xsV_at c k hk)
theorem Dw.e1 (h : Dw B w d c) {k : Nat} (hk : k < c.length) : w.cell? ⟨d.gu, k, none⟩ = some (.bool (us c k)) := (h.ou.cellAt k (by omega)).trans (usV_at c k hk)
theorem Dw.e2 (h : Dw B w d c) {k : Nat} (hk : k < c.length) : w.cell? ⟨d.gt, k, none⟩ = some (.bool (ts c k)) := (h.ot.cellAt k (by omega)).trans (tsV_at c k hk)
end
theorem infoD : (Try.prog.info? 30).map (·.size) = some 4 := by kernel_rfl
theorem load_d (w : World) (g : Nat) (a b c e : Value) (hg : w.heap[g]? = some (.cells #[a, b, c, e] 30 (0, 0))) : (loadVar 30 ⟨g, 0, none⟩).run Try.prog w = .ok (.agg #[a, b, c, e]) w :=
  run_loadVar_row w g 30 30 #[a, b, c, e] (0, 0) _ hg Try.underlying30 rfl infoD
theorem ret_d {w : World} {fn : Func} {p : Tmp} {R : Ending → World → Prop} {a : Act} {g : Nat} {x y z u : Value} (h : fn.results = #[.cell p 30]) (hp : a.tmps.getD p undef = .pointer (some ⟨g, 0, none⟩)) (hd : a.defers = [])
    (hg : w.heap[g]? = some (.cells #[x, y, z, u] 30 (0, 0))) (hR : R (.returned (.agg #[x, y, z, u])) w) : bodyPost Try.prog fn R .ret a w :=
  bodyPost_ret (results_cell_row h _ w g 30 #[x, y, z, u] (0, 0) _ hp hg Try.underlying30 rfl infoD) hd hR
theorem ret_d2 {w : World} {fn : Func} {p q : Tmp} {R : Ending → World → Prop} {a : Act} {g : Nat} {x y z u v : Value} (h : fn.results = #[.cell p 30, .tmp q]) (hp : a.tmps.getD p undef = .pointer (some ⟨g, 0, none⟩)) (hq : a.tmps.getD q undef = v) (hd : a.defers = [])
    (hg : w.heap[g]? = some (.cells #[x, y, z, u] 30 (0, 0))) (hR : R (.returned (.tuple #[.agg #[x, y, z, u], v])) w) : bodyPost Try.prog fn R .ret a w := by
  refine bodyPost_ret (v := .tuple #[.agg #[x, y, z, u], v]) ?_ hd hR
  rw [results_cell_tmp h, hp, hq]
  simp [asAddr, Result.andThen, load_d w g x y z u hg]
theorem results_cell_tmp2 {fn : Func} {p q r : Tmp} {ty : TypeId} (h : fn.results = #[.cell p ty, .tmp q, .tmp r]) (tmps : Array Value) (P : Program) (w : World) :
    (results fn tmps).run P w =
      ((asAddr (tmps.getD p undef)).run P w).andThen fun a w₁ => ((loadVar ty a).run P w₁).andThen fun v w₂ => .ok (.tuple #[v, tmps.getD q undef, tmps.getD r undef]) w₂ := by
  simp only [results, h]
  simp [Sem.run_bind, Result.andThen]
theorem ret_d3 {w : World} {fn : Func} {p q r : Tmp} {R : Ending → World → Prop} {a : Act} {g : Nat} {x y z u v t : Value} (h : fn.results = #[.cell p 30, .tmp q, .tmp r]) (hp : a.tmps.getD p undef = .pointer (some ⟨g, 0, none⟩)) (hq : a.tmps.getD q undef = v) (hr : a.tmps.getD r undef = t) (hd : a.defers = [])
    (hg : w.heap[g]? = some (.cells #[x, y, z, u] 30 (0, 0))) (hR : R (.returned (.tuple #[.agg #[x, y, z, u], v, t])) w) : bodyPost Try.prog fn R .ret a w := by
  refine bodyPost_ret (v := .tuple #[.agg #[x, y, z, u], v, t]) ?_ hd hR
  rw [results_cell_tmp2 h, hp, hq, hr]
  simp [asAddr, Result.andThen, load_d w g x y z u hg]

set_option maxHeartbeats 1000000 in
theorem there_any (B : Nat) (i : Int) (d : Dv) (M : Ms) (hok : M.Ok) (w : World) (h : Dw B w d M.c) : Calls Try.prog 34 #[dV d M, .int .i64 i] w fun e w' => e = .returned (.bool (hasM M i)) ∧ Below w.heap.size w w' := by
  rw [dV_eq]
  have hb := (Below.refl w.heap.size w).alloc (Nat.le_refl _) (Obj.cells #[.slice (some ⟨d.gx, 0, none⟩) M.c.length d.cx, .slice (some ⟨d.gu, 0, none⟩) M.c.length d.cu, .slice (some ⟨d.gt, 0, none⟩) M.c.length d.ct, .int .i64 (M.h : Nat)] 30)
  have HB := Lib.hid hb
  have h64 := hok.n64
  by_cases h0 : 0 ≤ i
  · have d0 : decide (0 ≤ i) = true := by simpa using h0
    by_cases h1 : i < M.c.length
    · obtain ⟨k, rfl⟩ : ∃ k : Nat, i = k := ⟨i.toNat, by omega⟩
      have hk : k < M.c.length := by omega
      have e1 := (h.below hb).e1 hk
      have d1 : decide ((k : Int) < M.c.length) = true := by simpa using hk
      have s0 : (0 : Int) ≤ (k : Nat) := by omega
      rw [has_nat hk]
      generalize us M.c k = u at *
      generalize M.h = hh at *
      clear h hok hb
      generalize M.c.length = n at *
      go_enter Try.func34, Try.ntmps34
      go_wp2_with fail
      go_ret
      exact ⟨rfl, HB.out⟩
    · have d1 : decide (i < M.c.length) = false := by simpa using h1
      have e : hasM M i = false := by unfold hasM; simp; omega
      rw [e]
      generalize M.h = hh at *
      clear h hok hb
      generalize M.c.length = n at *
      go_enter Try.func34, Try.ntmps34
      go_wp2_with fail
      go_ret
      exact ⟨rfl, HB.out⟩
  · have d0 : decide (0 ≤ i) = false := by simpa using h0
    have e : hasM M i = false := by unfold hasM; simp; omega
    rw [e]
    generalize M.h = hh at *
    clear h hok hb
    generalize M.c.length = n at *
    go_enter Try.func34, Try.ntmps34
    go_wp2_with fail
    go_ret
    exact ⟨rfl, HB.out⟩

set_option maxRecDepth 100000 in
set_option maxHeartbeats 1000000 in
theorem rget_any (B : Nat) (i : Int) (d : Dv) (M : Ms) (hok : M.Ok) (w : World) (h : Dw B w d M.c) : Calls Try.prog 26 #[dV d M, .int .i64 i] w fun e w' => e = .returned (.tuple #[.string (getM M i).1, .bool (getM M i).2]) ∧ Below w.heap.size w w' := by
  have hb := (Below.refl w.heap.size w).alloc (Nat.le_refl _) (Obj.cells #[.slice (some ⟨d.gx, 0, none⟩) M.c.length d.cx, .slice (some ⟨d.gu, 0, none⟩) M.c.length d.cu, .slice (some ⟨d.gt, 0, none⟩) M.c.length d.ct, .int .i64 (M.h : Nat)] 30)
  have HC := Lib.hid (there_any B i d M hok _ (h.below hb))
  have HX := Lib.hid (Blk.new w 30 #[.slice (some ⟨d.gx, 0, none⟩) M.c.length d.cx, .slice (some ⟨d.gu, 0, none⟩) M.c.length d.cu, .slice (some ⟨d.gt, 0, none⟩) M.c.length d.ct, .int .i64 (M.h : Nat)])
  have HB := Lib.hid hb
  have HD := Lib.hid (h.below hb)
  have h64 := hok.n64
  rw [dV_eq] at HC ⊢
  clear h hb
  cases hi : hasM M i with
  | false =>
    rw [hi] at HC
    rw [show getM M i = (⟨#[]⟩, false) by unfold getM; rw [hi]; rfl]
    go_enter Try.func26, Try.ntmps26
    go_upto_region 1 with (fail)
    generalize w.alloc (Obj.cells #[.slice (some ⟨d.gx, 0, none⟩) M.c.length d.cx, .slice (some ⟨d.gu, 0, none⟩) M.c.length d.cu, .slice (some ⟨d.gt, 0, none⟩) M.c.length d.ct, .int .i64 (M.h : Nat)] 30) = w1 at *
    generalize M.h = hh at *
    generalize M.c.length = n at *
    clear hok hi
    go_wp2_with (first | (refine wpList_load_row rfl 30 _ rfl w.heap.size rfl 30 _ _ _ HX.out Try.underlying30 rfl infoD ?_) | (go_at_call 34; with_reducible (refine HC.out.mono ?_); rintro e w3 ⟨rfl, hb3⟩; have HF := Lib.hid (HB.out.trans (hb3.mono HB.out.size)); clear hb3))
    go_ret2
    exact ⟨rfl, HF.out⟩
  | true =>
    rw [hi] at HC
    rw [show getM M i = ((atM M i).x, true) by unfold getM; rw [hi]; rfl]
    obtain ⟨k, rfl, hk, hu⟩ := has_of hi
    have s0 : (0 : Int) ≤ (k : Nat) := by omega
    have s1 : (k : Int) < M.c.length := by omega
    have e : (atM M k).x = (M.c.getD k Z0).x := by unfold atM; simp
    rw [e]
    have HE := Lib.hid (show ∀ W, Below (w.alloc (Obj.cells #[.slice (some ⟨d.gx, 0, none⟩) M.c.length d.cx, .slice (some ⟨d.gu, 0, none⟩) M.c.length d.cu, .slice (some ⟨d.gt, 0, none⟩) M.c.length d.ct, .int .i64 (M.h : Nat)] 30)).heap.size (w.alloc (Obj.cells #[.slice (some ⟨d.gx, 0, none⟩) M.c.length d.cx, .slice (some ⟨d.gu, 0, none⟩) M.c.length d.cu, .slice (some ⟨d.gt, 0, none⟩) M.c.length d.ct, .int .i64 (M.h : Nat)] 30)) W → W.cell? ⟨w.heap.size, 0, none⟩ = some (.slice (some ⟨d.gx, 0, none⟩) M.c.length d.cx) ∧ W.cell? ⟨d.gx, k, none⟩ = some (.string (M.c.getD k Z0).x) from fun W hW => ⟨(HX.out.eq (hW.block _ HX.out.lt)).cell 0, (HD.out.below hW).e0 hk⟩)
    have HX0 := Lib.hid (HX.out.cell 0)
    generalize (M.c.getD k Z0).x = x at *
    go_enter Try.func26, Try.ntmps26
    go_upto_region 1 with (fail)
    generalize w.alloc (Obj.cells #[.slice (some ⟨d.gx, 0, none⟩) M.c.length d.cx, .slice (some ⟨d.gu, 0, none⟩) M.c.length d.cu, .slice (some ⟨d.gt, 0, none⟩) M.c.length d.ct, .int .i64 (M.h : Nat)] 30) = w1 at *
    clear hok hi hu e HD
    generalize M.h = hh at *
    generalize M.c.length = n at *
    go_wp2_with (first | (refine wpList_load_row rfl 30 _ rfl w.heap.size rfl 30 _ _ _ HX.out Try.underlying30 rfl infoD ?_) | (go_at_call 34; with_reducible (refine HC.out.mono ?_); rintro e w3 ⟨rfl, hb3⟩; have HF := Lib.hid (HB.out.trans (hb3.mono HB.out.size)); obtain ⟨c0, e0⟩ := HE.out w3 hb3; clear hb3))
    go_ret2
    exact ⟨rfl, HF.out⟩

set_option maxRecDepth 100000 in
set_option maxHeartbeats 1000000 in
theorem rall_any (B : Nat) (d : Dv) (M : Ms) (hok : M.Ok) (w : World) (h : Dw B w d M.c) : Calls Try.prog 16 #[dV d M] w fun e w' => ∃ A cap, e = .returned (.slice A (allM M).length cap) ∧ Ns .i64 w' A (allM M) ∧ Below w.heap.size w w' := by
  obtain ⟨i0, hi, hz0, hz1, hz2⟩ := el_of elI
  have hb := (Below.refl w.heap.size w).alloc (Nat.le_refl _) (Obj.cells #[.slice (some ⟨d.gx, 0, none⟩) M.c.length d.cx, .slice (some ⟨d.gu, 0, none⟩) M.c.length d.cu, .slice (some ⟨d.gt, 0, none⟩) M.c.length d.ct, .int .i64 (M.h : Nat)] 30)
  have HX := Lib.hid (Blk.new w 30 #[.slice (some ⟨d.gx, 0, none⟩) M.c.length d.cx, .slice (some ⟨d.gu, 0, none⟩) M.c.length d.cu, .slice (some ⟨d.gt, 0, none⟩) M.c.length d.ct, .int .i64 (M.h : Nat)])
  have HB := Lib.hid hb
  have HD := Lib.hid (h.below hb)
  have h64 := hok.n64
  unfold allM
  rw [dV_eq]
  clear h hb hok
  generalize M.h = hh at *
  generalize hn : M.c.length = n at *
  have HN := Lib.hid hn
  clear hn
  go_enter Try.func16, Try.ntmps16
  go_upto_region 1 with (fail)
  generalize w.alloc (Obj.cells #[.slice (some ⟨d.gx, 0, none⟩) n d.cx, .slice (some ⟨d.gu, 0, none⟩) n d.cu, .slice (some ⟨d.gt, 0, none⟩) n d.ct, .int .i64 (hh : Nat)] 30) = w1 at *
  go_wp2_with fail
  go_loopw [3, 4] (fun v x wr => ∃ j : Nat, j ≤ n ∧ x = .int .i64 j ∧ wr.ownsRow w1.heap.size 3 1 v (allC M.c j).length (vals (allC M.c j)) ∧ Below w1.heap.size w1 wr) (fun _ x _ => n - (intOf x).toNat)
  case atStart => exact ⟨0, Nat.zero_le _, rfl, World.ownsRow_nil _ _ _ _, Below.refl _ _⟩
  case round =>
    obtain ⟨j, hj, rfl, hown, hbel⟩ := hrel
    obtain ⟨Av, cv, rfl⟩ := ownR_form hown
    have hX := HX.out.eq (hbel.block _ HX.out.lt)
    have c0 := hX.cell 0
    have c1 := hX.cell 1
    simp only [List.getElem?_toArray, List.getElem?_cons_zero, List.getElem?_cons_succ] at c0 c1
    by_cases hlt : j < n
    · have d1 : decide ((j : Int) < n) = true := by simp; omega
      have hjn : j < M.c.length := by rw [HN.out]; exact hlt
      have e1 := (HD.out.below hbel).e1 hjn
      have s0 : (0 : Int) ≤ (j : Nat) := by omega
      have s1 : (j : Int) < (n : Nat) := by omega
      have hle := allC_le M.c j
      cases hu : us M.c j with
      | false =>
        rw [hu] at e1
        have ht2 : allC M.c (j + 1) = allC M.c j := by rw [allC_succ, hu]; rfl
        have HT2 := Lib.hid ht2
        have HO := Lib.hid (And.intro hown hbel)
        clear hown hbel hX hu ht2
        go_wp2_with fail
        go_roundw
        case rel => exact ⟨j + 1, hlt, by go_num, by rw [HT2.out]; exact HO.out.1, HO.out.2⟩
        case measure => simp [intOf]; omega
      | true =>
        rw [hu] at e1
        have ht2 : allC M.c (j + 1) = allC M.c j ++ [j] := by rw [allC_succ, hu]; rfl
        have HT2 := Lib.hid ht2
        have ho3 := hown.alloc (Obj.cells #[.int .i64 (j : Nat)] 3)
        have hb3 := hbel.alloc hbel.size (Obj.cells #[.int .i64 (j : Nat)] 3)
        have HO3 := Lib.hid ho3
        have HB3 := Lib.hid hb3
        have HV := Lib.hid (vals_snoc (allC M.c j) j)
        clear hown hbel hX hu ho3 hb3 ht2
        generalize allC M.c j = l at *
        go_wp2_with (at_builtin; (refine wpList_append_own _ rfl _ _ 37 rfl w1.heap.size 3 i0 (.int .i64 0) 1 8 Try.underlying37 hi hz0 hz1 hz2 rfl (by decide) _ _ _ rfl HO3.out ⟨wr.heap.size, 0, none⟩ 1 1 [Value.int .i64 (j : Nat)] rfl rfl (newI wr j) ?q3 ?q4 ?q5 HB3.out.size ?_))
        case q3 => intro u hu; simp at hu; subst hu; rfl
        case q4 => unfold maxLen; omega
        case q5 => omega
        intro v' w3 hown2 hgrow hnil
        have hb4 := HB3.out.grown hgrow HB3.out.size (fun k hk => (HO3.out.lt k hk).1)
        rw [← HV.out, show l.length + 1 = (l ++ [j]).length by simp, ← HT2.out] at hown2
        have HF := Lib.hid (And.intro hown2 hb4)
        clear hown2 hgrow hnil hb4
        go_wp2_with fail
        go_roundw
        case rel => exact ⟨j + 1, hlt, by go_num, HF.out.1, HF.out.2⟩
        case measure => simp [intOf]; omega
    · obtain rfl : j = n := by omega
      have d1 : decide ((j : Int) < j) = false := by simp
      have HF := Lib.hid (And.intro (ns_own hown) (HB.out.trans (hbel.mono HB.out.size)))
      clear hown hbel hX
      go_wp2_with fail
      go_ret
      exact ⟨Av, cv, rfl, HF.out.1, HF.out.2⟩

set_option maxRecDepth 100000 in
set_option maxHeartbeats 1000000 in
theorem ints_yes (A : Option Addr) (cap : Nat) (A2 : Option Addr) (cap2 : Nat) (l : List Nat) (hl : l.length ≤ 1000) (w : World) (hI : Ns .i64 w A l) (hJ : Ns .i64 w A2 l) :
    Calls Try.prog 14 #[.slice A l.length cap, .slice A2 l.length cap2] w fun e w' => e = .returned (.bool true) ∧ Below w.heap.size w w' := by
  have HI := Lib.hid hI
  have HJ := Lib.hid hJ
  clear hI hJ
  go_enter Try.func14, Try.ntmps14
  go_wp2_with fail
  go_loopw [5] (fun i wr => ∃ j : Nat, j ≤ l.length ∧ i = .int .i64 j ∧ Below w.heap.size w wr) (fun i _ => l.length - (intOf i).toNat)
  case atStart => exact ⟨0, Nat.zero_le _, rfl, Below.refl _ _⟩
  case round =>
    obtain ⟨j, hj, rfl, hbel⟩ := hrel
    by_cases hlt : j < l.length
    · obtain ⟨b, off, rfl, c0⟩ := (HI.out.below hbel) j hlt
      obtain ⟨b', off', rfl, d0⟩ := (HJ.out.below hbel) j hlt
      have HB := Lib.hid hbel
      clear hbel
      generalize l[j] = r at *
      go_upto_region 6 with (fail)
      first | (go_region_with (fail)) | fail
      all_goals
        go_wp2_with fail
        go_roundw
        case rel => exact ⟨j + 1, hlt, by go_num, HB.out.drew⟩
        case measure => simp [intOf]; omega
    · obtain rfl : j = l.length := by omega
      have HB := Lib.hid hbel
      clear hbel
      go_wp2_with fail
      go_ret
      exact ⟨rfl, HB.out⟩
end Go.Proofs.Ytpoienhmnaeaiaa
