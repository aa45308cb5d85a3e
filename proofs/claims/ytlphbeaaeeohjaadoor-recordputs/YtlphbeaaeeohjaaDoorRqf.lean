/- The contracts of record: takeKey, takeData and Take. -/
import Derived.Test.YtlphbeaaeeohjaaDoorRqe
import Derived.Test.YtlphbeaaeeohjaaDoorLve
import Derived.RegionTactic
namespace Go.Proofs.YtlphbeaaeeohjaaDoor
open Go.RowKit
set_option linter.unusedVariables false

/-- Three fields of a block are written, in whatever order. -/
theorem blk_set3 {w : World} {b i j k : Nat} {cs ds : Array Value} {t : TypeId} (x y z : Value) (h : w.heap[b]? = some (.cells cs t (0, 0))) (hd : ((cs.setIfInBounds i x).setIfInBounds j y).setIfInBounds k z = ds) :
    (((w.setCell ⟨b, i, none⟩ x).setCell ⟨b, j, none⟩ y).setCell ⟨b, k, none⟩ z).heap[b]? = some (.cells ds t (0, 0)) := by
  rw [← hd]
  exact blk_set (blk_set (blk_set h i x) j y) k z
theorem blk_other3 {w : World} {g b i j k : Nat} {o : Obj} (x y z : Value) (h : w.heap[g]? = some o) (hne : g ≠ b) : (((w.setCell ⟨b, i, none⟩ x).setCell ⟨b, j, none⟩ y).setCell ⟨b, k, none⟩ z).heap[g]? = some o :=
  blk_other z (blk_other y (blk_other x h hne) hne) hne
theorem below_set3 {B : Nat} {w0 w : World} {b i j k : Nat} (x y z : Value) (h : Below B w0 w) (hB : B ≤ b) : Below B w0 (((w.setCell ⟨b, i, none⟩ x).setCell ⟨b, j, none⟩ y).setCell ⟨b, k, none⟩ z) :=
  ((h.setCell (p := ⟨b, i, none⟩) hB x).setCell (p := ⟨b, j, none⟩) hB y).setCell (p := ⟨b, k, none⟩) hB z

set_option maxRecDepth 100000 in
set_option maxHeartbeats 1000000 in
theorem takekey_any (n d s : ByteArray) (k c t p : Int) (hs : s.size ≤ 1073741824) (hp : p ≤ maxLen) (w : World) :
    Calls Tryd.prog 29 #[.agg #[.string n, .int .u16 k, .int .u16 c, .int .u32 t, .string d], .string s, .int .i64 p] w fun e w' => e = .returned (.tuple #[.agg #[.string (qR s p).n, .int .u16 ((qR s p).k : Nat), .int .u16 ((qR s p).c : Nat), .int .u32 t, .string d], .int .i64 (qX s p : Nat), .int .i64 (qE s p : Nat)]) ∧ Below w.heap.size w w' := by
  have hc := fun w' => takeq_any s p hs hp w'
  generalize (qR s p).n = N at hc ⊢
  generalize (((qR s p).k : Nat) : Int) = K at hc ⊢
  generalize (((qR s p).c : Nat) : Int) = C at hc ⊢
  generalize qX s p = X at hc ⊢
  generalize qE s p = E at hc ⊢
  have HK := Lib.hid hc
  clear hc
  go_enter Tryd.func29, Tryd.ntmps29
  go_wp2_with fail
  refine (HK.out _).mono ?_
  rintro en w1 ⟨rfl, hb1⟩
  obtain ⟨hx, hz, hbw⟩ := two_blocks (hb1.mono (by simp))
  have HW := Lib.hid (Nat.le_of_lt_succ (Nat.lt_succ_of_lt (heap_lt hz)))
  have hzz := heap_lt hz
  have hx2 : (w1.alloc (Obj.cells #[.string N, .int .u16 K, .int .u16 C] 29)).heap[w.heap.size]? = _ := (heap_alloc_old _ _ (by omega)).trans hx
  have hz2 : (w1.alloc (Obj.cells #[.string N, .int .u16 K, .int .u16 C] 29)).heap[w.heap.size + 1]? = _ := (heap_alloc_old _ _ (by omega)).trans hz
  have hq2 := World.alloc_heap_new w1 (Obj.cells #[.string N, .int .u16 K, .int .u16 C] 29)
  have hb2 := hbw.alloc (by omega) (Obj.cells #[.string N, .int .u16 K, .int .u16 C] 29)
  obtain ⟨w2, hw2⟩ : ∃ w2, w2 = w1.alloc (Obj.cells #[.string N, .int .u16 K, .int .u16 C] 29) := ⟨_, rfl⟩
  rw [← hw2] at hx2 hz2 hq2 hb2
  have HX := Lib.hid hx2
  have HZ := Lib.hid hz2
  have HB := Lib.hid hb2
  have HH := Lib.hid hw2
  have c0 : w2.cell? ⟨w.heap.size, 0, none⟩ = some (.string n) := blk_cell hx2 0
  have c1 : w2.cell? ⟨w.heap.size, 1, none⟩ = some (.int .u16 k) := blk_cell hx2 1
  have c2 : w2.cell? ⟨w.heap.size, 2, none⟩ = some (.int .u16 c) := blk_cell hx2 2
  have f0 := blk_frozen hx2 0
  have f1 := blk_frozen hx2 1
  have f2 := blk_frozen hx2 2
  have d0 : w2.cell? ⟨w1.heap.size, 0, none⟩ = some (.string N) := blk_cell hq2 0
  have d1 : w2.cell? ⟨w1.heap.size, 1, none⟩ = some (.int .u16 K) := blk_cell hq2 1
  have d2 : w2.cell? ⟨w1.heap.size, 2, none⟩ = some (.int .u16 C) := blk_cell hq2 2
  have hne : w1.heap.size ≠ w.heap.size := by omega
  clear hx hz hbw hb1 hx2 hz2 hq2 hb2 hw2 hzz HK
  go_wp2_with fail
  rw [← HH.out]
  go_region
  have HX3 := Lib.hid (show (((w2.setCell ⟨w.heap.size, 0, none⟩ (.string N)).setCell ⟨w.heap.size, 1, none⟩ (.int .u16 K)).setCell ⟨w.heap.size, 2, none⟩ (.int .u16 C)).drew.heap[w.heap.size]? = some (.cells #[.string N, .int .u16 K, .int .u16 C, .int .u32 t, .string d] 25 (0, 0)) from blk_set3 _ _ _ HX.out rfl)
  have HZ3 := Lib.hid (show (((w2.setCell ⟨w.heap.size, 0, none⟩ (.string N)).setCell ⟨w.heap.size, 1, none⟩ (.int .u16 K)).setCell ⟨w.heap.size, 2, none⟩ (.int .u16 C)).drew.heap[w.heap.size + 1]? = some (.cells #[.string ⟨#[]⟩, .int .u16 0, .int .u16 0, .int .u32 0, .string ⟨#[]⟩] 25 (0, 0)) from blk_other3 _ _ _ HZ.out (by omega))
  have HB3 := Lib.hid (below_set3 (b := w.heap.size) (i := 0) (j := 1) (k := 2) (.string N) (.int .u16 K) (.int .u16 C) HB.out (Nat.le_refl _)).drew
  clear c0 c1 c2 f0 f1 f2 d0 d1 d2 HX HZ HB HH
  go_wp2_with (first | (refine wpList_load_row rfl 25 _ rfl w.heap.size rfl 25 _ _ _ HX3.out Tryd.underlying25 rfl infoR ?_) | (refine wpList_store_row rfl 25 _ _ rfl (w.heap.size + 1) _ rfl rfl 25 _ HZ3.out infoR rfl (all5 _ _ _ _ _) ?_))
  exact ret_r3 (g := w.heap.size + 1) rfl rfl rfl rfl rfl (setRow_heap _ _ _ _ _ _ HZ3.out) ⟨rfl, setRow_below HB3.out (by omega) _⟩

/-- What takeData tells. -/
def dS (s : ByteArray) (p : Int) (k : Nat) : ByteArray := if Oc.se s p 2 = 0 then tdS s (Oc.so s p 2) (Oc.un s p 2) k else ⟨#[]⟩
def dX (s : ByteArray) (p : Int) : Int := if Oc.se s p 2 = 0 then Oc.so s p 2 + Oc.un s p 2 else 0
def dE (s : ByteArray) (p : Int) (k : Nat) : Int := if Oc.se s p 2 = 0 then tdE s (Oc.so s p 2) (Oc.un s p 2) k else Oc.se s p 2

set_option maxRecDepth 100000 in
set_option maxHeartbeats 1000000 in
theorem takedata_any (n s : ByteArray) (k : Nat) (c t p : Int) (hs : s.size ≤ 1073741824) (hp : p ≤ maxLen) (hk : k < 65536) (w : World) (hL : Lay w) :
    Calls Tryd.prog 31 #[.agg #[.string n, .int .u16 (k : Nat), .int .u16 c, .int .u32 t, .string ⟨#[]⟩], .string s, .int .i64 p] w fun e w' => e = .returned (.tuple #[.agg #[.string n, .int .u16 (k : Nat), .int .u16 c, .int .u32 t, .string (dS s p k)], .int .i64 (dX s p), .int .i64 (dE s p k)]) ∧ Below w.heap.size w w' := by
  have hs' : s.size ≤ maxLen := by unfold maxLen; omega
  have hc := fun w' => Oc.u16_any s p w' hs' hp
  have hso := Oc.so_le s p 2 hs'
  have hso0 : 0 ≤ Oc.so s p 2 ∧ Oc.so s p 2 ≤ 1073741824 := by
    unfold Oc.so
    split
    · rename_i h; unfold Oc.okS at h; omega
    · omega
  have hun := Oc.un_lt16 s p
  have ht := fun w' hL' => rtake_any s (Oc.so s p 2) (Oc.un s p 2) k hs hso hk w' hL'
  have HL := Lib.hid hL
  have H0 := Lib.hid (lay_lt hL)
  clear hL
  unfold dS dX dE
  generalize Oc.un s p 2 = M at hc hun ht ⊢
  generalize Oc.so s p 2 = X at hc hso0 ht ⊢
  generalize Oc.se s p 2 = E at hc ⊢
  generalize tdS s X M k = D at ht ⊢
  generalize tdE s X M k = F at ht ⊢
  have HK := Lib.hid hc
  have HT := Lib.hid ht
  clear hc ht hso
  by_cases h0 : E = 0
  · subst h0
    simp only [if_true]
    go_enter Tryd.func31, Tryd.ntmps31
    go_wp2_with fail
    refine (HK.out _).mono ?_
    rintro en w1 ⟨rfl, hb1⟩
    obtain ⟨hx, hz, hbw⟩ := two_blocks (hb1.mono (by simp))
    have HX := Lib.hid hx
    have HZ := Lib.hid hz
    have HB := Lib.hid hbw
    have HL1 := Lib.hid (HL.out.below H0.out hbw)
    have c1 : w1.cell? ⟨w.heap.size, 1, none⟩ = some (.int .u16 (k : Nat)) := blk_cell hx 1
    clear hx hz hbw hb1 HK
    go_wp2_with fail
    refine (HT.out _ HL1.out).mono ?_
    rintro en w2 ⟨rfl, hb2⟩
    have hx2 := (hb2.block _ (heap_lt HX.out)).trans HX.out
    have hz2 := (hb2.block _ (heap_lt HZ.out)).trans HZ.out
    have hbw2 := HB.out.trans (hb2.mono HB.out.size)
    have d0 : w2.cell? ⟨w.heap.size, 4, none⟩ = some (.string ⟨#[]⟩) := blk_cell hx2 4
    have f0 := blk_frozen hx2 4
    have HX3 := Lib.hid (show (w2.setCell ⟨w.heap.size, 4, none⟩ (.string D)).heap[w.heap.size]? = some (.cells #[.string n, .int .u16 (k : Nat), .int .u16 c, .int .u32 t, .string D] 25 (0, 0)) from blk_set hx2 4 _)
    have HZ3 := Lib.hid (blk_other (i := 4) (.string D) hz2 (show w.heap.size + 1 ≠ w.heap.size by omega))
    have HB3 := Lib.hid (hbw2.setCell (p := ⟨w.heap.size, 4, none⟩) (Nat.le_refl _) (.string D))
    clear hx2 hz2 hbw2 hb2 HX HZ HB HL1 c1 HT
    go_wp2_with (first | (refine wpList_load_row rfl 25 _ rfl w.heap.size rfl 25 _ _ _ HX3.out Tryd.underlying25 rfl infoR ?_) | (refine wpList_store_row rfl 25 _ _ rfl (w.heap.size + 1) _ rfl rfl 25 _ HZ3.out infoR rfl (all5 _ _ _ _ _) ?_))
    exact ret_r3 (g := w.heap.size + 1) rfl rfl rfl rfl rfl (setRow_heap _ _ _ _ _ _ HZ3.out) ⟨rfl, setRow_below HB3.out (by omega) _⟩
  · have hb : (E != 0) = true := by simpa using h0
    simp only [if_neg h0]
    clear h0
    go_enter Tryd.func31, Tryd.ntmps31
    go_wp2_with fail
    refine (HK.out _).mono ?_
    rintro en w1 ⟨rfl, hb1⟩
    obtain ⟨hx, hz, hbw⟩ := two_blocks (hb1.mono (by simp))
    have HX3 := Lib.hid hx
    have HZ3 := Lib.hid hz
    have HB3 := Lib.hid hbw
    clear hx hz hbw hb1 HK HT
    go_wp2_with (first | (refine wpList_load_row rfl 25 _ rfl w.heap.size rfl 25 _ _ _ HX3.out Tryd.underlying25 rfl infoR ?_) | (refine wpList_store_row rfl 25 _ _ rfl (w.heap.size + 1) _ rfl rfl 25 _ HZ3.out infoR rfl (all5 _ _ _ _ _) ?_))
    exact ret_r3 (g := w.heap.size + 1) rfl rfl rfl rfl rfl (setRow_heap _ _ _ _ _ _ HZ3.out) ⟨rfl, setRow_below HB3.out (by omega) _⟩
end Go.Proofs.YtlphbeaaeeohjaaDoor
