/- The contracts of record's generic function, at questions and at records, as far as those of the parts are given. -/
import Derived.Test.YtlphbeaaeeohjaaDoorRqc
namespace Go.Proofs.YtlphbeaaeeohjaaDoor
open Go.RowKit
set_option linter.unusedVariables false

/-- What the generic function tells of three steps: the first that fails, or the last. -/
def cmbW (E1 E2 E3 : Int) (Z W : Value) : Value := if E1 = 0 ∧ E2 = 0 ∧ E3 = 0 then W else Z
def cmbX (E1 E2 E3 : Int) (P : Int) : Int := if E1 = 0 ∧ E2 = 0 ∧ E3 = 0 then P else 0
def cmbE (E1 E2 E3 : Int) : Int := if E1 = 0 then (if E2 = 0 then E3 else E2) else E1

/-- The blocks of the generic function: its parts, its result, the whole that is none, and the whole so far. -/
structure Cmb (w : World) (g : Nat) (tf t : TypeId) (fs zs cs : Array Value) (W : World) : Prop where
  bel : Below w.heap.size w W
  fs : W.heap[g]? = some (.cells fs tf (0, 0))
  res : W.heap[w.heap.size]? = some (.cells zs t (0, 0))
  non : W.heap[w.heap.size + 1]? = some (.cells zs t (0, 0))
  who : W.heap[w.heap.size + 1 + 1]? = some (.cells cs t (0, 0))
section
variable {w W W' : World} {g : Nat} {tf t : TypeId} {fs zs cs : Array Value}
theorem Cmb.start (hg : w.heap[g]? = some (.cells fs tf (0, 0))) : Cmb w g tf t fs zs zs (((w.alloc (Obj.cells zs t)).alloc (Obj.cells zs t)).alloc (Obj.cells zs t)) := by
  have hb3 : Below w.heap.size w (((w.alloc (Obj.cells zs t)).alloc (Obj.cells zs t)).alloc (Obj.cells zs t)) := (((Below.refl w.heap.size w).alloc (Nat.le_refl _) _).alloc (by simp) _).alloc (by simp; omega) _
  refine ⟨hb3, (hb3.block g (heap_lt hg)).trans hg, ?_, ?_, ?_⟩
  · rw [heap_alloc_old _ _ (by simp; omega), heap_alloc_old _ _ (by simp)]; exact World.alloc_heap_new w _
  · rw [heap_alloc_old _ _ (by simp)]; exact heap_alloc2_new w _ _
  · have := World.alloc_heap_new ((w.alloc (Obj.cells zs t)).alloc (Obj.cells zs t)) (Obj.cells zs t); simpa using this
theorem Cmb.call (h : Cmb w g tf t fs zs cs W) (hb : Below W.heap.size W W') : Cmb w g tf t fs zs cs W' :=
  ⟨h.bel.trans (hb.mono h.bel.size), (hb.block _ (heap_lt h.fs)).trans h.fs, (hb.block _ (heap_lt h.res)).trans h.res, (hb.block _ (heap_lt h.non)).trans h.non, (hb.block _ (heap_lt h.who)).trans h.who⟩
theorem Cmb.set_ (h : Cmb w g tf t fs zs cs W) (hg : g < w.heap.size) (ds : Array Value) : Cmb w g tf t fs zs ds (W.setRow (w.heap.size + 1 + 1) ds) :=
  ⟨setRow_below h.bel (by omega) _, (setRow_other W _ g ds (by omega)).trans h.fs, (setRow_other W _ _ ds (by omega)).trans h.res, (setRow_other W _ _ ds (by omega)).trans h.non, setRow_heap _ _ _ _ _ _ h.who⟩
end

/-- A step: what a function makes of a whole at an offset. -/
def StepQ (f : Nat) (s : ByteArray) (p : Int) (v : Array Value) (p' : Int) (v' : Array Value) (e : Int) (w : World) : Prop :=
  Calls Tryd.prog f #[.agg v, .string s, .int .i64 p] w fun en w' => en = .returned (.tuple #[.agg v', .int .i64 p', .int .i64 e]) ∧ Below w.heap.size w w'

set_option maxRecDepth 100000 in
set_option maxHeartbeats 1000000 in
theorem combineq_any (s : ByteArray) (p0 p1 p2 p3 e1 e2 e3 : Int) (n1 n2 n3 : ByteArray) (k1 k2 k3 c1 c2 c3 : Int) (g : Nat)
    (w : World) (h1 : ∀ w', Below w.heap.size w w' → StepQ 36 s p0 #[.string ⟨#[]⟩, .int .u16 0, .int .u16 0] p1 #[.string n1, .int .u16 k1, .int .u16 c1] e1 w') (h2 : ∀ w', Below w.heap.size w w' → StepQ 37 s p1 #[.string n1, .int .u16 k1, .int .u16 c1] p2 #[.string n2, .int .u16 k2, .int .u16 c2] e2 w') (h3 : ∀ w', Below w.heap.size w w' → StepQ 38 s p2 #[.string n2, .int .u16 k2, .int .u16 c2] p3 #[.string n3, .int .u16 k3, .int .u16 c3] e3 w')
    (hg : w.heap[g]? = some (.cells #[.func (.func 36) #[] #[], .func (.func 37) #[] #[], .func (.func 38) #[] #[]] 69 (0, 0))) :
    Calls Tryd.prog 35 #[.string s, .int .i64 p0, .slice (some ⟨g, 0, none⟩) 3 3] w fun en w' => en = .returned (.tuple #[cmbW e1 e2 e3 (.agg #[.string ⟨#[]⟩, .int .u16 0, .int .u16 0]) (.agg #[.string n3, .int .u16 k3, .int .u16 c3]), .int .i64 (cmbX e1 e2 e3 p3), .int .i64 (cmbE e1 e2 e3)]) ∧ Below w.heap.size w w' := by
  have hlt := heap_lt hg
  have hs : Cmb w g 69 29 #[.func (.func 36) #[] #[], .func (.func 37) #[] #[], .func (.func 38) #[] #[]] #[.string ⟨#[]⟩, .int .u16 0, .int .u16 0] #[.string ⟨#[]⟩, .int .u16 0, .int .u16 0] (((w.alloc (Obj.cells #[.string ⟨#[]⟩, .int .u16 0, .int .u16 0] 29)).alloc (Obj.cells #[.string ⟨#[]⟩, .int .u16 0, .int .u16 0] 29)).alloc (Obj.cells #[.string ⟨#[]⟩, .int .u16 0, .int .u16 0] 29)) := Cmb.start hg
  obtain ⟨W1, hW1⟩ : ∃ W, W = (((w.alloc (Obj.cells #[.string ⟨#[]⟩, .int .u16 0, .int .u16 0] 29)).alloc (Obj.cells #[.string ⟨#[]⟩, .int .u16 0, .int .u16 0] 29)).alloc (Obj.cells #[.string ⟨#[]⟩, .int .u16 0, .int .u16 0] 29)) := ⟨_, rfl⟩
  rw [← hW1] at hs
  have HC1 := Lib.hid hs
  have HH := Lib.hid hW1
  have H1 := Lib.hid h1
  have H2 := Lib.hid h2
  have H3 := Lib.hid h3
  clear h1 h2 h3 hs hW1 hg
  go_enter Tryd.func35, Tryd.ntmps35
  go_wp2_with fail
  refine wp_loop_rounds 4 ?_
  rw [← HH.out]
  clear HH
  rw [rounds_succ]
  have d1 : W1.cell? ⟨g, 0, none⟩ = some (.func (.func 36) #[] #[]) := blk_cell HC1.out.fs 0
  go_wp2_with (refine wpList_load_row rfl 29 _ rfl (w.heap.size + 1 + 1) rfl 29 _ _ _ HC1.out.who Tryd.underlying29 rfl infoQ ?_)
  refine Calls.mono (H1.out _ HC1.out.bel) ?_
  rintro en v1 ⟨rfl, hb⟩
  have HD1 := Lib.hid (HC1.out.call hb)
  have HE1 := Lib.hid (HD1.out.set_ hlt #[.string n1, .int .u16 k1, .int .u16 c1])
  clear hb d1 HC1 H1
  by_cases h0 : e1 = 0
  case neg =>
    have hb : (e1 != 0) = true := by simpa using h0
    have HN := Lib.hid h0
    clear h0
    go_wp2_with (first | (refine wpList_store_row rfl 29 _ _ rfl (w.heap.size + 1 + 1) #[.string n1, .int .u16 k1, .int .u16 c1] rfl rfl 29 _ HD1.out.who infoQ rfl (all3 _ _ _) ?_) | (refine wpList_load_row rfl 29 _ rfl (w.heap.size + 1) rfl 29 _ _ _ HE1.out.non Tryd.underlying29 rfl infoQ ?_) | (refine wpList_store_row rfl 29 _ _ rfl w.heap.size _ rfl rfl 29 _ HE1.out.res infoQ rfl (all3 _ _ _) ?_))
    refine ret_q3 (g := w.heap.size) rfl rfl rfl rfl rfl (setRow_heap _ _ _ _ _ _ HE1.out.res) ⟨?_, setRow_below HE1.out.bel (Nat.le_refl _) _⟩
    have hn := HN.out
    simp [cmbW, cmbX, cmbE, hn]
  subst h0
  go_wp2_with (refine wpList_store_row rfl 29 _ _ rfl (w.heap.size + 1 + 1) #[.string n1, .int .u16 k1, .int .u16 c1] rfl rfl 29 _ HD1.out.who infoQ rfl (all3 _ _ _) ?_)
  obtain ⟨W2, hW⟩ : ∃ W, W = v1.setRow (w.heap.size + 1 + 1) #[.string n1, .int .u16 k1, .int .u16 c1] := ⟨_, rfl⟩
  have HC2 := HE1
  rw [← hW] at HC2 ⊢
  clear hW HD1 HE1
  rw [rounds_succ]
  have d2 : W2.cell? ⟨g, 1, none⟩ = some (.func (.func 37) #[] #[]) := blk_cell HC2.out.fs 1
  go_wp2_with (refine wpList_load_row rfl 29 _ rfl (w.heap.size + 1 + 1) rfl 29 _ _ _ HC2.out.who Tryd.underlying29 rfl infoQ ?_)
  refine Calls.mono (H2.out _ HC2.out.bel) ?_
  rintro en v2 ⟨rfl, hb⟩
  have HD2 := Lib.hid (HC2.out.call hb)
  have HE2 := Lib.hid (HD2.out.set_ hlt #[.string n2, .int .u16 k2, .int .u16 c2])
  clear hb d2 HC2 H2
  by_cases h0 : e2 = 0
  case neg =>
    have hb : (e2 != 0) = true := by simpa using h0
    have HN := Lib.hid h0
    clear h0
    go_wp2_with (first | (refine wpList_store_row rfl 29 _ _ rfl (w.heap.size + 1 + 1) #[.string n2, .int .u16 k2, .int .u16 c2] rfl rfl 29 _ HD2.out.who infoQ rfl (all3 _ _ _) ?_) | (refine wpList_load_row rfl 29 _ rfl (w.heap.size + 1) rfl 29 _ _ _ HE2.out.non Tryd.underlying29 rfl infoQ ?_) | (refine wpList_store_row rfl 29 _ _ rfl w.heap.size _ rfl rfl 29 _ HE2.out.res infoQ rfl (all3 _ _ _) ?_))
    refine ret_q3 (g := w.heap.size) rfl rfl rfl rfl rfl (setRow_heap _ _ _ _ _ _ HE2.out.res) ⟨?_, setRow_below HE2.out.bel (Nat.le_refl _) _⟩
    have hn := HN.out
    simp [cmbW, cmbX, cmbE, hn]
  subst h0
  go_wp2_with (refine wpList_store_row rfl 29 _ _ rfl (w.heap.size + 1 + 1) #[.string n2, .int .u16 k2, .int .u16 c2] rfl rfl 29 _ HD2.out.who infoQ rfl (all3 _ _ _) ?_)
  obtain ⟨W3, hW⟩ : ∃ W, W = v2.setRow (w.heap.size + 1 + 1) #[.string n2, .int .u16 k2, .int .u16 c2] := ⟨_, rfl⟩
  have HC3 := HE2
  rw [← hW] at HC3 ⊢
  clear hW HD2 HE2
  rw [rounds_succ]
  have d3 : W3.cell? ⟨g, 2, none⟩ = some (.func (.func 38) #[] #[]) := blk_cell HC3.out.fs 2
  go_wp2_with (refine wpList_load_row rfl 29 _ rfl (w.heap.size + 1 + 1) rfl 29 _ _ _ HC3.out.who Tryd.underlying29 rfl infoQ ?_)
  refine Calls.mono (H3.out _ HC3.out.bel) ?_
  rintro en v3 ⟨rfl, hb⟩
  have HD3 := Lib.hid (HC3.out.call hb)
  have HE3 := Lib.hid (HD3.out.set_ hlt #[.string n3, .int .u16 k3, .int .u16 c3])
  clear hb d3 HC3 H3
  by_cases h0 : e3 = 0
  case neg =>
    have hb : (e3 != 0) = true := by simpa using h0
    have HN := Lib.hid h0
    clear h0
    go_wp2_with (first | (refine wpList_store_row rfl 29 _ _ rfl (w.heap.size + 1 + 1) #[.string n3, .int .u16 k3, .int .u16 c3] rfl rfl 29 _ HD3.out.who infoQ rfl (all3 _ _ _) ?_) | (refine wpList_load_row rfl 29 _ rfl (w.heap.size + 1) rfl 29 _ _ _ HE3.out.non Tryd.underlying29 rfl infoQ ?_) | (refine wpList_store_row rfl 29 _ _ rfl w.heap.size _ rfl rfl 29 _ HE3.out.res infoQ rfl (all3 _ _ _) ?_))
    refine ret_q3 (g := w.heap.size) rfl rfl rfl rfl rfl (setRow_heap _ _ _ _ _ _ HE3.out.res) ⟨?_, setRow_below HE3.out.bel (Nat.le_refl _) _⟩
    have hn := HN.out
    simp [cmbW, cmbX, cmbE, hn]
  subst h0
  go_wp2_with (refine wpList_store_row rfl 29 _ _ rfl (w.heap.size + 1 + 1) #[.string n3, .int .u16 k3, .int .u16 c3] rfl rfl 29 _ HD3.out.who infoQ rfl (all3 _ _ _) ?_)
  obtain ⟨W4, hW⟩ : ∃ W, W = v3.setRow (w.heap.size + 1 + 1) #[.string n3, .int .u16 k3, .int .u16 c3] := ⟨_, rfl⟩
  have HC4 := HE3
  rw [← hW] at HC4 ⊢
  clear hW HD3 HE3
  rw [rounds_succ]
  go_wp2_with (first | (refine wpList_load_row rfl 29 _ rfl (w.heap.size + 1 + 1) rfl 29 _ _ _ HC4.out.who Tryd.underlying29 rfl infoQ ?_) | (refine wpList_store_row rfl 29 _ _ rfl w.heap.size _ rfl rfl 29 _ HC4.out.res infoQ rfl (all3 _ _ _) ?_))
  refine ret_q3 (g := w.heap.size) rfl rfl rfl rfl rfl (setRow_heap _ _ _ _ _ _ HC4.out.res) ⟨?_, setRow_below HC4.out.bel (Nat.le_refl _) _⟩
  simp [cmbW, cmbX, cmbE]

/-- A step: what a function makes of a whole at an offset. -/
def StepR (f : Nat) (s : ByteArray) (p : Int) (v : Array Value) (p' : Int) (v' : Array Value) (e : Int) (w : World) : Prop :=
  Calls Tryd.prog f #[.agg v, .string s, .int .i64 p] w fun en w' => en = .returned (.tuple #[.agg v', .int .i64 p', .int .i64 e]) ∧ Below w.heap.size w w'

set_option maxRecDepth 100000 in
set_option maxHeartbeats 1000000 in
theorem combiner_any (s : ByteArray) (p0 p1 p2 p3 e1 e2 e3 : Int) (n1 n2 n3 d1 d2 d3 : ByteArray) (k1 k2 k3 c1 c2 c3 t1 t2 t3 : Int) (g : Nat)
    (w : World) (h1 : ∀ w', Below w.heap.size w w' → StepR 29 s p0 #[.string ⟨#[]⟩, .int .u16 0, .int .u16 0, .int .u32 0, .string ⟨#[]⟩] p1 #[.string n1, .int .u16 k1, .int .u16 c1, .int .u32 t1, .string d1] e1 w') (h2 : ∀ w', Below w.heap.size w w' → StepR 30 s p1 #[.string n1, .int .u16 k1, .int .u16 c1, .int .u32 t1, .string d1] p2 #[.string n2, .int .u16 k2, .int .u16 c2, .int .u32 t2, .string d2] e2 w') (h3 : ∀ w', Below w.heap.size w w' → StepR 31 s p2 #[.string n2, .int .u16 k2, .int .u16 c2, .int .u32 t2, .string d2] p3 #[.string n3, .int .u16 k3, .int .u16 c3, .int .u32 t3, .string d3] e3 w')
    (hg : w.heap[g]? = some (.cells #[.func (.func 29) #[] #[], .func (.func 30) #[] #[], .func (.func 31) #[] #[]] 61 (0, 0))) :
    Calls Tryd.prog 28 #[.string s, .int .i64 p0, .slice (some ⟨g, 0, none⟩) 3 3] w fun en w' => en = .returned (.tuple #[cmbW e1 e2 e3 (.agg #[.string ⟨#[]⟩, .int .u16 0, .int .u16 0, .int .u32 0, .string ⟨#[]⟩]) (.agg #[.string n3, .int .u16 k3, .int .u16 c3, .int .u32 t3, .string d3]), .int .i64 (cmbX e1 e2 e3 p3), .int .i64 (cmbE e1 e2 e3)]) ∧ Below w.heap.size w w' := by
  have hlt := heap_lt hg
  have hs : Cmb w g 61 25 #[.func (.func 29) #[] #[], .func (.func 30) #[] #[], .func (.func 31) #[] #[]] #[.string ⟨#[]⟩, .int .u16 0, .int .u16 0, .int .u32 0, .string ⟨#[]⟩] #[.string ⟨#[]⟩, .int .u16 0, .int .u16 0, .int .u32 0, .string ⟨#[]⟩] (((w.alloc (Obj.cells #[.string ⟨#[]⟩, .int .u16 0, .int .u16 0, .int .u32 0, .string ⟨#[]⟩] 25)).alloc (Obj.cells #[.string ⟨#[]⟩, .int .u16 0, .int .u16 0, .int .u32 0, .string ⟨#[]⟩] 25)).alloc (Obj.cells #[.string ⟨#[]⟩, .int .u16 0, .int .u16 0, .int .u32 0, .string ⟨#[]⟩] 25)) := Cmb.start hg
  obtain ⟨W1, hW1⟩ : ∃ W, W = (((w.alloc (Obj.cells #[.string ⟨#[]⟩, .int .u16 0, .int .u16 0, .int .u32 0, .string ⟨#[]⟩] 25)).alloc (Obj.cells #[.string ⟨#[]⟩, .int .u16 0, .int .u16 0, .int .u32 0, .string ⟨#[]⟩] 25)).alloc (Obj.cells #[.string ⟨#[]⟩, .int .u16 0, .int .u16 0, .int .u32 0, .string ⟨#[]⟩] 25)) := ⟨_, rfl⟩
  rw [← hW1] at hs
  have HC1 := Lib.hid hs
  have HH := Lib.hid hW1
  have H1 := Lib.hid h1
  have H2 := Lib.hid h2
  have H3 := Lib.hid h3
  clear h1 h2 h3 hs hW1 hg
  go_enter Tryd.func28, Tryd.ntmps28
  go_wp2_with fail
  refine wp_loop_rounds 4 ?_
  rw [← HH.out]
  clear HH
  rw [rounds_succ]
  have x1 : W1.cell? ⟨g, 0, none⟩ = some (.func (.func 29) #[] #[]) := blk_cell HC1.out.fs 0
  go_wp2_with (refine wpList_load_row rfl 25 _ rfl (w.heap.size + 1 + 1) rfl 25 _ _ _ HC1.out.who Tryd.underlying25 rfl infoR ?_)
  refine Calls.mono (H1.out _ HC1.out.bel) ?_
  rintro en v1 ⟨rfl, hb⟩
  have HD1 := Lib.hid (HC1.out.call hb)
  have HE1 := Lib.hid (HD1.out.set_ hlt #[.string n1, .int .u16 k1, .int .u16 c1, .int .u32 t1, .string d1])
  clear hb x1 HC1 H1
  by_cases h0 : e1 = 0
  case neg =>
    have hb : (e1 != 0) = true := by simpa using h0
    have HN := Lib.hid h0
    clear h0
    go_wp2_with (first | (refine wpList_store_row rfl 25 _ _ rfl (w.heap.size + 1 + 1) #[.string n1, .int .u16 k1, .int .u16 c1, .int .u32 t1, .string d1] rfl rfl 25 _ HD1.out.who infoR rfl (all5 _ _ _ _ _) ?_) | (refine wpList_load_row rfl 25 _ rfl (w.heap.size + 1) rfl 25 _ _ _ HE1.out.non Tryd.underlying25 rfl infoR ?_) | (refine wpList_store_row rfl 25 _ _ rfl w.heap.size _ rfl rfl 25 _ HE1.out.res infoR rfl (all5 _ _ _ _ _) ?_))
    refine ret_r3 (g := w.heap.size) rfl rfl rfl rfl rfl (setRow_heap _ _ _ _ _ _ HE1.out.res) ⟨?_, setRow_below HE1.out.bel (Nat.le_refl _) _⟩
    have hn := HN.out
    simp [cmbW, cmbX, cmbE, hn]
  subst h0
  go_wp2_with (refine wpList_store_row rfl 25 _ _ rfl (w.heap.size + 1 + 1) #[.string n1, .int .u16 k1, .int .u16 c1, .int .u32 t1, .string d1] rfl rfl 25 _ HD1.out.who infoR rfl (all5 _ _ _ _ _) ?_)
  obtain ⟨W2, hW⟩ : ∃ W, W = v1.setRow (w.heap.size + 1 + 1) #[.string n1, .int .u16 k1, .int .u16 c1, .int .u32 t1, .string d1] := ⟨_, rfl⟩
  have HC2 := HE1
  rw [← hW] at HC2 ⊢
  clear hW HD1 HE1
  rw [rounds_succ]
  have x2 : W2.cell? ⟨g, 1, none⟩ = some (.func (.func 30) #[] #[]) := blk_cell HC2.out.fs 1
  go_wp2_with (refine wpList_load_row rfl 25 _ rfl (w.heap.size + 1 + 1) rfl 25 _ _ _ HC2.out.who Tryd.underlying25 rfl infoR ?_)
  refine Calls.mono (H2.out _ HC2.out.bel) ?_
  rintro en v2 ⟨rfl, hb⟩
  have HD2 := Lib.hid (HC2.out.call hb)
  have HE2 := Lib.hid (HD2.out.set_ hlt #[.string n2, .int .u16 k2, .int .u16 c2, .int .u32 t2, .string d2])
  clear hb x2 HC2 H2
  by_cases h0 : e2 = 0
  case neg =>
    have hb : (e2 != 0) = true := by simpa using h0
    have HN := Lib.hid h0
    clear h0
    go_wp2_with (first | (refine wpList_store_row rfl 25 _ _ rfl (w.heap.size + 1 + 1) #[.string n2, .int .u16 k2, .int .u16 c2, .int .u32 t2, .string d2] rfl rfl 25 _ HD2.out.who infoR rfl (all5 _ _ _ _ _) ?_) | (refine wpList_load_row rfl 25 _ rfl (w.heap.size + 1) rfl 25 _ _ _ HE2.out.non Tryd.underlying25 rfl infoR ?_) | (refine wpList_store_row rfl 25 _ _ rfl w.heap.size _ rfl rfl 25 _ HE2.out.res infoR rfl (all5 _ _ _ _ _) ?_))
    refine ret_r3 (g := w.heap.size) rfl rfl rfl rfl rfl (setRow_heap _ _ _ _ _ _ HE2.out.res) ⟨?_, setRow_below HE2.out.bel (Nat.le_refl _) _⟩
    have hn := HN.out
    simp [cmbW, cmbX, cmbE, hn]
  subst h0
  go_wp2_with (refine wpList_store_row rfl 25 _ _ rfl (w.heap.size + 1 + 1) #[.string n2, .int .u16 k2, .int .u16 c2, .int .u32 t2, .string d2] rfl rfl 25 _ HD2.out.who infoR rfl (all5 _ _ _ _ _) ?_)
  obtain ⟨W3, hW⟩ : ∃ W, W = v2.setRow (w.heap.size + 1 + 1) #[.string n2, .int .u16 k2, .int .u16 c2, .int .u32 t2, .string d2] := ⟨_, rfl⟩
  have HC3 := HE2
  rw [← hW] at HC3 ⊢
  clear hW HD2 HE2
  rw [rounds_succ]
  have x3 : W3.cell? ⟨g, 2, none⟩ = some (.func (.func 31) #[] #[]) := blk_cell HC3.out.fs 2
  go_wp2_with (refine wpList_load_row rfl 25 _ rfl (w.heap.size + 1 + 1) rfl 25 _ _ _ HC3.out.who Tryd.underlying25 rfl infoR ?_)
  refine Calls.mono (H3.out _ HC3.out.bel) ?_
  rintro en v3 ⟨rfl, hb⟩
  have HD3 := Lib.hid (HC3.out.call hb)
  have HE3 := Lib.hid (HD3.out.set_ hlt #[.string n3, .int .u16 k3, .int .u16 c3, .int .u32 t3, .string d3])
  clear hb x3 HC3 H3
  by_cases h0 : e3 = 0
  case neg =>
    have hb : (e3 != 0) = true := by simpa using h0
    have HN := Lib.hid h0
    clear h0
    go_wp2_with (first | (refine wpList_store_row rfl 25 _ _ rfl (w.heap.size + 1 + 1) #[.string n3, .int .u16 k3, .int .u16 c3, .int .u32 t3, .string d3] rfl rfl 25 _ HD3.out.who infoR rfl (all5 _ _ _ _ _) ?_) | (refine wpList_load_row rfl 25 _ rfl (w.heap.size + 1) rfl 25 _ _ _ HE3.out.non Tryd.underlying25 rfl infoR ?_) | (refine wpList_store_row rfl 25 _ _ rfl w.heap.size _ rfl rfl 25 _ HE3.out.res infoR rfl (all5 _ _ _ _ _) ?_))
    refine ret_r3 (g := w.heap.size) rfl rfl rfl rfl rfl (setRow_heap _ _ _ _ _ _ HE3.out.res) ⟨?_, setRow_below HE3.out.bel (Nat.le_refl _) _⟩
    have hn := HN.out
    simp [cmbW, cmbX, cmbE, hn]
  subst h0
  go_wp2_with (refine wpList_store_row rfl 25 _ _ rfl (w.heap.size + 1 + 1) #[.string n3, .int .u16 k3, .int .u16 c3, .int .u32 t3, .string d3] rfl rfl 25 _ HD3.out.who infoR rfl (all5 _ _ _ _ _) ?_)
  obtain ⟨W4, hW⟩ : ∃ W, W = v3.setRow (w.heap.size + 1 + 1) #[.string n3, .int .u16 k3, .int .u16 c3, .int .u32 t3, .string d3] := ⟨_, rfl⟩
  have HC4 := HE3
  rw [← hW] at HC4 ⊢
  clear hW HD3 HE3
  rw [rounds_succ]
  go_wp2_with (first | (refine wpList_load_row rfl 25 _ rfl (w.heap.size + 1 + 1) rfl 25 _ _ _ HC4.out.who Tryd.underlying25 rfl infoR ?_) | (refine wpList_store_row rfl 25 _ _ rfl w.heap.size _ rfl rfl 25 _ HC4.out.res infoR rfl (all5 _ _ _ _ _) ?_))
  refine ret_r3 (g := w.heap.size) rfl rfl rfl rfl rfl (setRow_heap _ _ _ _ _ _ HC4.out.res) ⟨?_, setRow_below HC4.out.bel (Nat.le_refl _) _⟩
  simp [cmbW, cmbX, cmbE]
end Go.Proofs.YtlphbeaaeeohjaaDoor
