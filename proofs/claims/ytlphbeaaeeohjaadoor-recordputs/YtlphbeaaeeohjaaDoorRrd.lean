/- The contract of rdata.read: one part of data at an offset. -/
import Derived.Test.YtlphbeaaeeohjaaDoorRst
import Derived.Laws.ResultCell
namespace Go.Proofs.YtlphbeaaeeohjaaDoor
open Go.RowKit
set_option linter.unusedVariables false

/-- How many bytes are read. -/
def rdM (p e : Nat) (q : Int) : Int := if q = -3 then (e : Int) - p else q
def rdB (s : ByteArray) (p e : Nat) (q : Int) : ByteArray := if q = -1 then tkS s p else if q = -2 then rsS s p e else Oc.sx s p (rdM p e q)
def rdX (s : ByteArray) (p e : Nat) (q : Int) : Int := if q = -1 then (tkX s p : Nat) else if q = -2 then (rsX s p e : Nat) else Oc.so s p (rdM p e q)
def rdE (s : ByteArray) (p e : Nat) (q : Int) : Int := if q = -1 then (tkE s p : Nat) else if q = -2 then (rsE s p e : Nat) else Oc.se s p (rdM p e q)
def rdN (q : Int) : Bool := decide (q = -1)

theorem info65 : (Tryd.prog.info? 120).map (·.size) = some 2 := by kernel_rfl
theorem one2 (b : ByteArray) (c : Bool) : (#[Value.string b, .bool c] : Array Value).all (·.oneCell') = true := by kernel_rfl
theorem load_piece (w : World) (g : Nat) (a b : Value) (hg : w.heap[g]? = some (.cells #[a, b] 120 (0, 0))) : (loadVar 120 ⟨g, 0, none⟩).run Tryd.prog w = .ok (.agg #[a, b]) w :=
  run_loadVar_row w g 120 120 #[a, b] (0, 0) _ hg Tryd.underlying120 rfl info65
theorem results_cell_tmp2 {fn : Func} {p u v : Tmp} {ty : TypeId} (h : fn.results = #[.cell p ty, .tmp u, .tmp v]) (tmps : Array Value) (P : Program) (w : World) :
    (results fn tmps).run P w =
      ((asAddr (tmps.getD p undef)).run P w).andThen fun a w₁ => ((loadVar ty a).run P w₁).andThen fun x w₂ => .ok (.tuple #[x, tmps.getD u undef, tmps.getD v undef]) w₂ := by
  simp only [results, h]
  simp [Sem.run_bind, Result.andThen]
theorem ret_piece {w : World} {fn : Func} {p u v : Tmp} {R : Ending → World → Prop} {a : Act} {g : Nat} {x y z t : Value} (h : fn.results = #[.cell p 120, .tmp u, .tmp v]) (hp : a.tmps.getD p undef = .pointer (some ⟨g, 0, none⟩)) (hu : a.tmps.getD u undef = z) (hv : a.tmps.getD v undef = t) (hd : a.defers = [])
    (hg : w.heap[g]? = some (.cells #[x, y] 120 (0, 0))) (hR : R (.returned (.tuple #[.agg #[x, y], z, t])) w) : bodyPost Tryd.prog fn R .ret a w := by
  refine bodyPost_ret (v := .tuple #[.agg #[x, y], z, t]) ?_ hd hR
  rw [results_cell_tmp2 h, hp, hu, hv]
  simp [asAddr, Result.andThen, load_piece w g x y hg]

set_option maxRecDepth 100000 in
set_option maxHeartbeats 1000000 in
theorem read_any (s : ByteArray) (p e : Nat) (q : Int) (hs : s.size ≤ 140737488355328) (hp : p ≤ 140737488355328) (he : e ≤ 140737488355328) (hq : -3 ≤ q) (w : World) :
    Calls Tryd.prog 93 #[.string s, .int .i64 (p : Nat), .int .i64 (e : Nat), .int .i64 q] w fun en w' => en = .returned (.tuple #[.agg #[.string (rdB s p e q), .bool (rdN q)], .int .i64 (rdX s p e q), .int .i64 (rdE s p e q)]) ∧ Below w.heap.size w w' := by
  have hs' : s.size ≤ maxLen := by unfold maxLen; omega
  have hp' : (p : Int) ≤ maxLen := by unfold maxLen; omega
  have HS := Lib.hid (And.intro hs' hp')
  have H0 := Lib.hid ((Below.refl w.heap.size w).alloc (Nat.le_refl _) (Obj.cells #[Value.string ⟨#[]⟩, Value.bool false] 120))
  have HN := Lib.hid (World.alloc_heap_new w (Obj.cells #[Value.string ⟨#[]⟩, Value.bool false] 120))
  clear hs' hp'
  by_cases h1 : q = -1
  · subst h1
    have e1 : rdB s p e (-1) = tkS s p := rfl
    have e2 : rdX s p e (-1) = (tkX s p : Nat) := rfl
    have e3 : rdE s p e (-1) = (tkE s p : Nat) := rfl
    have e4 : rdN (-1) = true := rfl
    rw [e1, e2, e3, e4]
    clear e1 e2 e3 e4
    have hc := fun w' => take_any s p hs HS.out.2 w'
    generalize tkS s p = B at hc ⊢
    generalize tkX s p = X at hc ⊢
    generalize tkE s p = E at hc ⊢
    have HK := Lib.hid hc
    clear hc
    go_enter Tryd.func93, Tryd.ntmps93
    go_wp2_with fail
    refine (HK.out _).mono ?_
    rintro en w1 ⟨rfl, hb1⟩
    have HC := Lib.hid ((hb1.block w.heap.size (by simp)).trans HN.out)
    have HB := Lib.hid (H0.out.trans (hb1.mono H0.out.size))
    clear hb1
    clear HK HN H0 HS
    go_wp2_with (refine wpList_store_row rfl 120 _ _ rfl w.heap.size #[.string B, .bool true] rfl rfl 120 _ HC.out info65 rfl (one2 _ _) ?_)
    refine ret_piece (g := w.heap.size) (x := .string B) (y := .bool true) (z := .int .i64 (X : Nat)) (t := .int .i64 (E : Nat)) rfl rfl rfl rfl rfl ?_ ?_
    · exact setRow_heap _ _ _ _ _ _ HC.out
    · exact ⟨rfl, setRow_below HB.out (Nat.le_refl _) _⟩
  · by_cases h2 : q = -2
    · subst h2
      have e1 : rdB s p e (-2) = rsS s p e := rfl
      have e2 : rdX s p e (-2) = (rsX s p e : Nat) := rfl
      have e3 : rdE s p e (-2) = (rsE s p e : Nat) := rfl
      have e4 : rdN (-2) = false := rfl
      rw [e1, e2, e3, e4]
      clear e1 e2 e3 e4 h1
      have hc := fun w' => strings_any s p e hs hp he w'
      generalize rsS s p e = B at hc ⊢
      generalize rsX s p e = X at hc ⊢
      generalize rsE s p e = E at hc ⊢
      have HK := Lib.hid hc
      clear hc
      go_enter Tryd.func93, Tryd.ntmps93
      go_wp2_with fail
      refine (HK.out _).mono ?_
      rintro en w1 ⟨rfl, hb1⟩
      have HC := Lib.hid ((hb1.block w.heap.size (by simp)).trans HN.out)
      have HB := Lib.hid (H0.out.trans (hb1.mono H0.out.size))
      clear hb1
      clear HK HN H0 HS
      go_wp2_with (refine wpList_store_row rfl 120 _ _ rfl w.heap.size #[.string B, .bool false] rfl rfl 120 _ HC.out info65 rfl (one2 _ _) ?_)
      refine ret_piece (g := w.heap.size) (x := .string B) (y := .bool false) (z := .int .i64 (X : Nat)) (t := .int .i64 (E : Nat)) rfl rfl rfl rfl rfl ?_ ?_
      · exact setRow_heap _ _ _ _ _ _ HC.out
      · exact ⟨rfl, setRow_below HB.out (Nat.le_refl _) _⟩
    · have e1 : rdB s p e q = Oc.sx s p (rdM p e q) := by unfold rdB; rw [if_neg h1, if_neg h2]
      have e2 : rdX s p e q = Oc.so s p (rdM p e q) := by unfold rdX; rw [if_neg h1, if_neg h2]
      have e3 : rdE s p e q = Oc.se s p (rdM p e q) := by unfold rdE; rw [if_neg h1, if_neg h2]
      have e4 : rdN q = false := by unfold rdN; simp [h1]
      rw [e1, e2, e3, e4]
      by_cases h3 : q = -3
      · subst h3
        have e5 : rdM p e (-3) = (e : Int) - p := rfl
        rw [e5]
        clear e1 e2 e3 e4 e5 h1 h2 hq
        have hc := fun w' => Oc.some_any s p ((e : Int) - p) w' HS.out.1 HS.out.2
        generalize Oc.sx s p ((e : Int) - p) = B at hc ⊢
        generalize Oc.so s p ((e : Int) - p) = X at hc ⊢
        generalize Oc.se s p ((e : Int) - p) = E at hc ⊢
        have HK := Lib.hid hc
        clear hc
        go_enter Tryd.func93, Tryd.ntmps93
        go_wp2_with fail
        refine (HK.out _).mono ?_
        rintro en w1 ⟨rfl, rfl⟩
        have HC := Lib.hid HN.out
        have HB := Lib.hid H0.out
        clear HK HN H0 HS
        go_wp2_with (refine wpList_store_row rfl 120 _ _ rfl w.heap.size #[.string B, .bool false] rfl rfl 120 _ HC.out info65 rfl (one2 _ _) ?_)
        refine ret_piece (g := w.heap.size) (x := .string B) (y := .bool false) (z := .int .i64 X) (t := .int .i64 E) rfl rfl rfl rfl rfl ?_ ?_
        · exact setRow_heap _ _ _ _ _ _ HC.out
        · exact ⟨rfl, setRow_below HB.out (Nat.le_refl _) _⟩
      · have e5 : rdM p e q = q := by unfold rdM; rw [if_neg h3]
        rw [e5]
        have b1 : (q == -1) = false := by simpa using h1
        have b2 : (q == -2) = false := by simpa using h2
        have b3 : (q == -3) = false := by simpa using h3
        clear e1 e2 e3 e4 e5 h1 h2 h3
        have hc := fun w' => Oc.some_any s p q w' HS.out.1 HS.out.2
        generalize Oc.sx s p q = B at hc ⊢
        generalize Oc.so s p q = X at hc ⊢
        generalize Oc.se s p q = E at hc ⊢
        have HK := Lib.hid hc
        clear hc
        go_enter Tryd.func93, Tryd.ntmps93
        go_wp2_with fail
        refine (HK.out _).mono ?_
        rintro en w1 ⟨rfl, rfl⟩
        have HC := Lib.hid HN.out
        have HB := Lib.hid H0.out
        clear HK HN H0 HS
        go_wp2_with (refine wpList_store_row rfl 120 _ _ rfl w.heap.size #[.string B, .bool false] rfl rfl 120 _ HC.out info65 rfl (one2 _ _) ?_)
        refine ret_piece (g := w.heap.size) (x := .string B) (y := .bool false) (z := .int .i64 X) (t := .int .i64 E) rfl rfl rfl rfl rfl ?_ ?_
        · exact setRow_heap _ _ _ _ _ _ HC.out
        · exact ⟨rfl, setRow_below HB.out (Nat.le_refl _) _⟩
end Go.Proofs.YtlphbeaaeeohjaaDoor
