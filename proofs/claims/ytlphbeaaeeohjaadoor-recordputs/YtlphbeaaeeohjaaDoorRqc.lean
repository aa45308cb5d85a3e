/- The contracts of the parts that record combines: takeName, takeType, takeClass, takeKey, takeTTL, takeData. -/
import Derived.Test.YtlphbeaaeeohjaaDoorRqa
namespace Go.Proofs.YtlphbeaaeeohjaaDoor
open Go.RowKit
set_option linter.unusedVariables false

theorem all3 (a : ByteArray) (k c : Int) : (#[Value.string a, .int .u16 k, .int .u16 c] : Array Value).all (·.oneCell') = true := by kernel_rfl
theorem all5 (a : ByteArray) (k c t : Int) (d : ByteArray) : (#[Value.string a, .int .u16 k, .int .u16 c, .int .u32 t, .string d] : Array Value).all (·.oneCell') = true := by kernel_rfl
/-- Two blocks that the call made, behind what another call did: a field of the first is written, the first is read, the second is written. -/
theorem two_blocks {w w1 : World} {cs zs : Array Value} {t : TypeId} (hb : Below (w.heap.size + 2) ((w.alloc (Obj.cells cs t)).alloc (Obj.cells zs t)) w1) :
    w1.heap[w.heap.size]? = some (.cells cs t (0, 0)) ∧ w1.heap[w.heap.size + 1]? = some (.cells zs t (0, 0)) ∧ Below w.heap.size w w1 := by
  have e1 : ((w.alloc (Obj.cells cs t)).alloc (Obj.cells zs t)).heap[w.heap.size]? = some (Obj.cells cs t) := by
    rw [heap_alloc_old _ _ (by simp)]
    exact World.alloc_heap_new w _
  have e2 := heap_alloc2_new w (Obj.cells cs t) (Obj.cells zs t)
  refine ⟨(hb.block _ (by omega)).trans e1, (hb.block _ (by omega)).trans e2, ?_⟩
  exact (((Below.refl w.heap.size w).alloc (Nat.le_refl _) _).alloc (by simp) _).trans (hb.mono (by omega))
theorem blk_other {w : World} {g b i : Nat} {o : Obj} (u : Value) (h : w.heap[g]? = some o) (hne : g ≠ b) : (w.setCell ⟨b, i, none⟩ u).heap[g]? = some o := (Below.heap_setCell w ⟨b, i, none⟩ u g hne).trans h

set_option maxRecDepth 100000 in
theorem takename_any (n s : ByteArray) (k c p : Int) (hs : s.size ≤ 140737488355328) (hp : p ≤ maxLen) (w : World) :
    Calls Tryd.prog 36 #[.agg #[.string n, .int .u16 k, .int .u16 c], .string s, .int .i64 p] w fun e w' => e = .returned (.tuple #[.agg #[.string (tkS s p), .int .u16 k, .int .u16 c], .int .i64 (tkX s p : Nat), .int .i64 (tkE s p : Nat)]) ∧ Below w.heap.size w w' := by
  have hc := fun w' => take_any s p hs hp w'
  generalize tkS s p = B at hc ⊢
  generalize tkX s p = X at hc ⊢
  generalize tkE s p = E at hc ⊢
  have HK := Lib.hid hc
  clear hc
  go_enter Tryd.func36, Tryd.ntmps36
  go_wp2_with fail
  refine (HK.out _).mono ?_
  rintro en w1 ⟨rfl, hb1⟩
  obtain ⟨hx, hz, hbw⟩ := two_blocks (hb1.mono (by simp))
  have c0 : w1.cell? ⟨w.heap.size, 0, none⟩ = some (.string n) := blk_cell hx 0
  have f0 := blk_frozen hx 0
  have HX := Lib.hid (show (w1.setCell ⟨w.heap.size, 0, none⟩ (.string B)).heap[w.heap.size]? = some (.cells #[.string B, .int .u16 k, .int .u16 c] 29 (0, 0)) from blk_set hx 0 _)
  have HZ := Lib.hid (blk_other (i := 0) (.string B) hz (show w.heap.size + 1 ≠ w.heap.size by omega))
  have HB := Lib.hid (hbw.setCell (p := ⟨w.heap.size, 0, none⟩) (Nat.le_refl _) (.string B))
  clear hx hz hbw hb1 HK
  go_wp2_with (first | (refine wpList_load_row rfl 29 _ rfl w.heap.size rfl 29 _ _ _ HX.out Tryd.underlying29 rfl infoQ ?_) | (refine wpList_store_row rfl 29 _ _ rfl (w.heap.size + 1) #[.string B, .int .u16 k, .int .u16 c] rfl rfl 29 _ HZ.out infoQ rfl (all3 _ _ _) ?_))
  refine ret_q3 (g := w.heap.size + 1) rfl rfl rfl rfl rfl (setRow_heap _ _ _ _ _ _ HZ.out) ⟨rfl, setRow_below HB.out (by omega) _⟩

set_option maxRecDepth 100000 in
theorem taketype_any (n s : ByteArray) (k c p : Int) (hs : s.size ≤ maxLen) (hp : p ≤ maxLen) (w : World) :
    Calls Tryd.prog 37 #[.agg #[.string n, .int .u16 k, .int .u16 c], .string s, .int .i64 p] w fun e w' => e = .returned (.tuple #[.agg #[.string n, .int .u16 (Oc.un s p 2), .int .u16 c], .int .i64 (Oc.so s p 2), .int .i64 (Oc.se s p 2)]) ∧ Below w.heap.size w w' := by
  have hc := fun w' => Oc.u16_any s p w' hs hp
  generalize Oc.un s p 2 = B at hc ⊢
  generalize Oc.so s p 2 = X at hc ⊢
  generalize Oc.se s p 2 = E at hc ⊢
  have HK := Lib.hid hc
  clear hc
  go_enter Tryd.func37, Tryd.ntmps37
  go_wp2_with fail
  refine (HK.out _).mono ?_
  rintro en w1 ⟨rfl, hb1⟩
  obtain ⟨hx, hz, hbw⟩ := two_blocks (hb1.mono (by simp))
  have c0 : w1.cell? ⟨w.heap.size, 1, none⟩ = some (.int .u16 k) := blk_cell hx 1
  have f0 := blk_frozen hx 1
  have HX := Lib.hid (show (w1.setCell ⟨w.heap.size, 1, none⟩ (.int .u16 B)).heap[w.heap.size]? = some (.cells #[.string n, .int .u16 B, .int .u16 c] 29 (0, 0)) from blk_set hx 1 _)
  have HZ := Lib.hid (blk_other (i := 1) (.int .u16 B) hz (show w.heap.size + 1 ≠ w.heap.size by omega))
  have HB := Lib.hid (hbw.setCell (p := ⟨w.heap.size, 1, none⟩) (Nat.le_refl _) (.int .u16 B))
  clear hx hz hbw hb1 HK
  go_wp2_with (first | (refine wpList_load_row rfl 29 _ rfl w.heap.size rfl 29 _ _ _ HX.out Tryd.underlying29 rfl infoQ ?_) | (refine wpList_store_row rfl 29 _ _ rfl (w.heap.size + 1) #[.string n, .int .u16 B, .int .u16 c] rfl rfl 29 _ HZ.out infoQ rfl (all3 _ _ _) ?_))
  refine ret_q3 (g := w.heap.size + 1) rfl rfl rfl rfl rfl (setRow_heap _ _ _ _ _ _ HZ.out) ⟨rfl, setRow_below HB.out (by omega) _⟩

set_option maxRecDepth 100000 in
theorem takeclass_any (n s : ByteArray) (k c p : Int) (hs : s.size ≤ maxLen) (hp : p ≤ maxLen) (w : World) :
    Calls Tryd.prog 38 #[.agg #[.string n, .int .u16 k, .int .u16 c], .string s, .int .i64 p] w fun e w' => e = .returned (.tuple #[.agg #[.string n, .int .u16 k, .int .u16 (Oc.un s p 2)], .int .i64 (Oc.so s p 2), .int .i64 (Oc.se s p 2)]) ∧ Below w.heap.size w w' := by
  have hc := fun w' => Oc.u16_any s p w' hs hp
  generalize Oc.un s p 2 = B at hc ⊢
  generalize Oc.so s p 2 = X at hc ⊢
  generalize Oc.se s p 2 = E at hc ⊢
  have HK := Lib.hid hc
  clear hc
  go_enter Tryd.func38, Tryd.ntmps38
  go_wp2_with fail
  refine (HK.out _).mono ?_
  rintro en w1 ⟨rfl, hb1⟩
  obtain ⟨hx, hz, hbw⟩ := two_blocks (hb1.mono (by simp))
  have c0 : w1.cell? ⟨w.heap.size, 2, none⟩ = some (.int .u16 c) := blk_cell hx 2
  have f0 := blk_frozen hx 2
  have HX := Lib.hid (show (w1.setCell ⟨w.heap.size, 2, none⟩ (.int .u16 B)).heap[w.heap.size]? = some (.cells #[.string n, .int .u16 k, .int .u16 B] 29 (0, 0)) from blk_set hx 2 _)
  have HZ := Lib.hid (blk_other (i := 2) (.int .u16 B) hz (show w.heap.size + 1 ≠ w.heap.size by omega))
  have HB := Lib.hid (hbw.setCell (p := ⟨w.heap.size, 2, none⟩) (Nat.le_refl _) (.int .u16 B))
  clear hx hz hbw hb1 HK
  go_wp2_with (first | (refine wpList_load_row rfl 29 _ rfl w.heap.size rfl 29 _ _ _ HX.out Tryd.underlying29 rfl infoQ ?_) | (refine wpList_store_row rfl 29 _ _ rfl (w.heap.size + 1) #[.string n, .int .u16 k, .int .u16 B] rfl rfl 29 _ HZ.out infoQ rfl (all3 _ _ _) ?_))
  refine ret_q3 (g := w.heap.size + 1) rfl rfl rfl rfl rfl (setRow_heap _ _ _ _ _ _ HZ.out) ⟨rfl, setRow_below HB.out (by omega) _⟩

set_option maxRecDepth 100000 in
theorem takettl_any (n d s : ByteArray) (k c t p : Int) (hs : s.size ≤ maxLen) (hp : p ≤ maxLen) (w : World) :
    Calls Tryd.prog 30 #[.agg #[.string n, .int .u16 k, .int .u16 c, .int .u32 t, .string d], .string s, .int .i64 p] w fun e w' => e = .returned (.tuple #[.agg #[.string n, .int .u16 k, .int .u16 c, .int .u32 (Oc.un s p 4), .string d], .int .i64 (Oc.so s p 4), .int .i64 (Oc.se s p 4)]) ∧ Below w.heap.size w w' := by
  have hc := fun w' => Oc.u32_any s p w' hs hp
  generalize Oc.un s p 4 = B at hc ⊢
  generalize Oc.so s p 4 = X at hc ⊢
  generalize Oc.se s p 4 = E at hc ⊢
  have HK := Lib.hid hc
  clear hc
  go_enter Tryd.func30, Tryd.ntmps30
  go_wp2_with fail
  refine (HK.out _).mono ?_
  rintro en w1 ⟨rfl, hb1⟩
  obtain ⟨hx, hz, hbw⟩ := two_blocks (hb1.mono (by simp))
  have c0 : w1.cell? ⟨w.heap.size, 3, none⟩ = some (.int .u32 t) := blk_cell hx 3
  have f0 := blk_frozen hx 3
  have HX := Lib.hid (show (w1.setCell ⟨w.heap.size, 3, none⟩ (.int .u32 B)).heap[w.heap.size]? = some (.cells #[.string n, .int .u16 k, .int .u16 c, .int .u32 B, .string d] 25 (0, 0)) from blk_set hx 3 _)
  have HZ := Lib.hid (blk_other (i := 3) (.int .u32 B) hz (show w.heap.size + 1 ≠ w.heap.size by omega))
  have HB := Lib.hid (hbw.setCell (p := ⟨w.heap.size, 3, none⟩) (Nat.le_refl _) (.int .u32 B))
  clear hx hz hbw hb1 HK
  go_wp2_with (first | (refine wpList_load_row rfl 25 _ rfl w.heap.size rfl 25 _ _ _ HX.out Tryd.underlying25 rfl infoR ?_) | (refine wpList_store_row rfl 25 _ _ rfl (w.heap.size + 1) #[.string n, .int .u16 k, .int .u16 c, .int .u32 B, .string d] rfl rfl 25 _ HZ.out infoR rfl (all5 _ _ _ _ _) ?_))
  refine ret_r3 (g := w.heap.size + 1) rfl rfl rfl rfl rfl (setRow_heap _ _ _ _ _ _ HZ.out) ⟨rfl, setRow_below HB.out (by omega) _⟩
end Go.Proofs.YtlphbeaaeeohjaaDoor
