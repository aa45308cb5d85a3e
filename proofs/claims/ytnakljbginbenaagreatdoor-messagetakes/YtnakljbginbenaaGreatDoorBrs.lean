/- Joined texts: Rqf Rqg. -/
import Derived.Test.YtnakljbginbenaaGreatDoorBrq
import Derived.Test.YtnakljbginbenaaGreatDoorBrd
import Derived.RegionTactic

/- The contracts of record: takeKey, takeData and Take. -/
namespace Go.Proofs.YtnakljbginbenaaGreatDoor
open Go.RowKit
set_option linter.unusedVariables false

/-- Three fields of a block are written, in whatever order. -/
theorem blk_set3 {w : World} {b i j k : Nat} {cs ds : Array Value} {t : TypeId} (x y z : Value) (h : w.heap[b]? = some (.cells cs t (0, 0))) (hd : ((cs.setIfInBounds i x).setIfInBounds j y).setIfInBounds k z = ds) :
    (((w.setCell ⟨b, i, none⟩ x).setCell ⟨b, j, none⟩ y).setCell ⟨b, k, none⟩ z).heap[b]? = some (.cells ds t (0, 0)) := by
  rw [← hd]
  exact blk_set (blk_set (blk_set h i x) j y) k z
theorem blk_other3 {w : World} {g b i j k : Nat} {o : Obj} (x y z : Value) (h : w.heap[g]? = some o) (hne : g ≠ b) : (((w.setCell ⟨b, i, none⟩ x).setCell ⟨b, j, none⟩ y).setCell ⟨b, k, none⟩ z).heap[g]? = some o :=
  blk_other z (blk_other y (blk_other x h hne) hne) hne
theorem below_set3 {B : Nat} {w0 w : World} {b i j k : Nat} (x y z : Value) (h : Below B w0 w) (hB : B ≤ b) : Below B w0 (((w.setCell ⟨b, i, none⟩ x).setCell ⟨b, j, none⟩ y).setCell ⟨b, k, none⟩ z) :=
  ((h.setCell (p := ⟨b, i, none⟩) hB x).setCell (p := ⟨b, j, none⟩) hB y).setCell (p := ⟨b, k, none⟩) hB z

set_option maxRecDepth 100000 in
set_option maxHeartbeats 1000000 in
theorem takekey_any (n d s : ByteArray) (k c t p : Int) (hs : s.size ≤ 1073741824) (hp : p ≤ maxLen) (w : World) :
    Calls Tryz.prog 66 #[.agg #[.string n, .int .u16 k, .int .u16 c, .int .u32 t, .string d], .string s, .int .i64 p] w fun e w' => e = .returned (.tuple #[.agg #[.string (qR s p).n, .int .u16 ((qR s p).k : Nat), .int .u16 ((qR s p).c : Nat), .int .u32 t, .string d], .int .i64 (qX s p : Nat), .int .i64 (qE s p : Nat)]) ∧ Below w.heap.size w w' := by
  have hc := fun w' => takeq_any s p hs hp w'
  generalize (qR s p).n = N at hc ⊢
  generalize (((qR s p).k : Nat) : Int) = K at hc ⊢
  generalize (((qR s p).c : Nat) : Int) = C at hc ⊢
  generalize qX s p = X at hc ⊢
  generalize qE s p = E at hc ⊢
  have HK := Lib.hid hc
  clear hc
  go_enter Tryz.func66, Tryz.ntmps66
  go_wp2_with fail
  refine (HK.out _).mono ?_
  rintro en w1 ⟨rfl, hb1⟩
  obtain ⟨hx, hz, hbw⟩ := two_blocks (hb1.mono (by simp))
  have HW := Lib.hid (Nat.le_of_lt_succ (Nat.lt_succ_of_lt (heap_lt hz)))
  have hzz := heap_lt hz
  have hx2 : (w1.alloc (Obj.cells #[.string N, .int .u16 K, .int .u16 C] 48)).heap[w.heap.size]? = _ := (heapOld _ (by omega)).trans hx
  have hz2 : (w1.alloc (Obj.cells #[.string N, .int .u16 K, .int .u16 C] 48)).heap[w.heap.size + 1]? = _ := (heapOld _ (by omega)).trans hz
  have hq2 := World.alloc_heap_new w1 (Obj.cells #[.string N, .int .u16 K, .int .u16 C] 48)
  have hb2 := hbw.alloc (by omega) (Obj.cells #[.string N, .int .u16 K, .int .u16 C] 48)
  obtain ⟨w2, hw2⟩ : ∃ w2, w2 = w1.alloc (Obj.cells #[.string N, .int .u16 K, .int .u16 C] 48) := ⟨_, rfl⟩
  rw [← hw2] at hx2 hz2 hq2 hb2
  have HX := Lib.hid hx2
  have HZ := Lib.hid hz2
  have HB := Lib.hid hb2
  have HH := Lib.hid hw2
  have c0 : w2.cell? ⟨w.heap.size, 0, none⟩ = some (.string n) := blk_cell hx2 0
  have c1 : w2.cell? ⟨w.heap.size, 1, none⟩ = some (.int .u16 k) := blk_cell hx2 1
  have c2 : w2.cell? ⟨w.heap.size, 2, none⟩ = some (.int .u16 c) := blk_cell hx2 2
  have f0 := blk_frozen hx2 0
  have f1 := blk_frozen hx2 1
  have f2 := blk_frozen hx2 2
  have d0 : w2.cell? ⟨w1.heap.size, 0, none⟩ = some (.string N) := blk_cell hq2 0
  have d1 : w2.cell? ⟨w1.heap.size, 1, none⟩ = some (.int .u16 K) := blk_cell hq2 1
  have d2 : w2.cell? ⟨w1.heap.size, 2, none⟩ = some (.int .u16 C) := blk_cell hq2 2
  have hne : w1.heap.size ≠ w.heap.size := by omega
  clear hx hz hbw hb1 hx2 hz2 hq2 hb2 hw2 hzz HK
  go_wp2_with fail
  rw [← HH.out]
  go_region
  have HX3 := Lib.hid (show (((w2.setCell ⟨w.heap.size, 0, none⟩ (.string N)).setCell ⟨w.heap.size, 1, none⟩ (.int .u16 K)).setCell ⟨w.heap.size, 2, none⟩ (.int .u16 C)).drew.heap[w.heap.size]? = some (.cells #[.string N, .int .u16 K, .int .u16 C, .int .u32 t, .string d] 46 (0, 0)) from blk_set3 _ _ _ HX.out rfl)
  have HZ3 := Lib.hid (show (((w2.setCell ⟨w.heap.size, 0, none⟩ (.string N)).setCell ⟨w.heap.size, 1, none⟩ (.int .u16 K)).setCell ⟨w.heap.size, 2, none⟩ (.int .u16 C)).drew.heap[w.heap.size + 1]? = some (.cells #[.string ⟨#[]⟩, .int .u16 0, .int .u16 0, .int .u32 0, .string ⟨#[]⟩] 46 (0, 0)) from blk_other3 _ _ _ HZ.out (by omega))
  have HB3 := Lib.hid (below_set3 (b := w.heap.size) (i := 0) (j := 1) (k := 2) (.string N) (.int .u16 K) (.int .u16 C) HB.out (Nat.le_refl _)).drew
  clear c0 c1 c2 f0 f1 f2 d0 d1 d2 HX HZ HB HH
  go_wp2_with (first | (refine wpList_load_row rfl 46 _ rfl w.heap.size rfl 46 _ _ _ HX3.out Tryz.underlying46 rfl infoR ?_) | (refine wpList_store_row rfl 46 _ _ rfl (w.heap.size + 1) _ rfl rfl 46 _ HZ3.out infoR rfl (all5 _ _ _ _ _) ?_))
  exact ret_r3 (g := w.heap.size + 1) rfl rfl rfl rfl rfl (setRow_heap _ _ _ _ _ _ HZ3.out) ⟨rfl, setRow_below HB3.out (by omega) _⟩

/-- What takeData tells. -/
def dS (s : ByteArray) (p : Int) (k : Nat) : ByteArray := if Oc.se s p 2 = 0 then tdS s (Oc.so s p 2) (Oc.un s p 2) k else ⟨#[]⟩
def dX (s : ByteArray) (p : Int) : Int := if Oc.se s p 2 = 0 then Oc.so s p 2 + Oc.un s p 2 else 0
def dE (s : ByteArray) (p : Int) (k : Nat) : Int := if Oc.se s p 2 = 0 then tdE s (Oc.so s p 2) (Oc.un s p 2) k else Oc.se s p 2

set_option maxRecDepth 100000 in
set_option maxHeartbeats 1000000 in
theorem takedata_any (n s : ByteArray) (k : Nat) (c t p : Int) (hs : s.size ≤ 1073741824) (hp : p ≤ maxLen) (hk : k < 65536) (w : World) (hL : Lay w) :
    Calls Tryz.prog 68 #[.agg #[.string n, .int .u16 (k : Nat), .int .u16 c, .int .u32 t, .string ⟨#[]⟩], .string s, .int .i64 p] w fun e w' => e = .returned (.tuple #[.agg #[.string n, .int .u16 (k : Nat), .int .u16 c, .int .u32 t, .string (dS s p k)], .int .i64 (dX s p), .int .i64 (dE s p k)]) ∧ Below w.heap.size w w' := by
  have hs' : s.size ≤ maxLen := by unfold maxLen; omega
  have hc := fun w' => Oc.u16_any s p w' hs' hp
  have hso := Oc.so_le s p 2 hs'
  have hso0 : 0 ≤ Oc.so s p 2 ∧ Oc.so s p 2 ≤ 1073741824 := by
    unfold Oc.so
    split
    · rename_i h; unfold Oc.okS at h; omega
    · omega
  have hun := Oc.un_lt16 s p
  have ht := fun w' hL' => rtake_any s (Oc.so s p 2) (Oc.un s p 2) k hs hso hk w' hL'
  have HL := Lib.hid hL
  have H0 := Lib.hid (lay_lt hL)
  clear hL
  unfold dS dX dE
  generalize Oc.un s p 2 = M at hc hun ht ⊢
  generalize Oc.so s p 2 = X at hc hso0 ht ⊢
  generalize Oc.se s p 2 = E at hc ⊢
  generalize tdS s X M k = D at ht ⊢
  generalize tdE s X M k = F at ht ⊢
  have HK := Lib.hid hc
  have HT := Lib.hid ht
  clear hc ht hso
  by_cases h0 : E = 0
  · subst h0
    simp only [if_true]
    go_enter Tryz.func68, Tryz.ntmps68
    go_wp2_with fail
    refine (HK.out _).mono ?_
    rintro en w1 ⟨rfl, hb1⟩
    obtain ⟨hx, hz, hbw⟩ := two_blocks (hb1.mono (by simp))
    have HX := Lib.hid hx
    have HZ := Lib.hid hz
    have HB := Lib.hid hbw
    have HL1 := Lib.hid (HL.out.below H0.out hbw)
    have c1 : w1.cell? ⟨w.heap.size, 1, none⟩ = some (.int .u16 (k : Nat)) := blk_cell hx 1
    clear hx hz hbw hb1 HK
    go_wp2_with fail
    refine (HT.out _ HL1.out).mono ?_
    rintro en w2 ⟨rfl, hb2⟩
    have hx2 := (hb2.block _ (heap_lt HX.out)).trans HX.out
    have hz2 := (hb2.block _ (heap_lt HZ.out)).trans HZ.out
    have hbw2 := HB.out.trans (hb2.mono HB.out.size)
    have d0 : w2.cell? ⟨w.heap.size, 4, none⟩ = some (.string ⟨#[]⟩) := blk_cell hx2 4
    have f0 := blk_frozen hx2 4
    have HX3 := Lib.hid (show (w2.setCell ⟨w.heap.size, 4, none⟩ (.string D)).heap[w.heap.size]? = some (.cells #[.string n, .int .u16 (k : Nat), .int .u16 c, .int .u32 t, .string D] 46 (0, 0)) from blk_set hx2 4 _)
    have HZ3 := Lib.hid (blk_other (i := 4) (.string D) hz2 (show w.heap.size + 1 ≠ w.heap.size by omega))
    have HB3 := Lib.hid (hbw2.setCell (p := ⟨w.heap.size, 4, none⟩) (Nat.le_refl _) (.string D))
    clear hx2 hz2 hbw2 hb2 HX HZ HB HL1 c1 HT
    go_wp2_with (first | (refine wpList_load_row rfl 46 _ rfl w.heap.size rfl 46 _ _ _ HX3.out Tryz.underlying46 rfl infoR ?_) | (refine wpList_store_row rfl 46 _ _ rfl (w.heap.size + 1) _ rfl rfl 46 _ HZ3.out infoR rfl (all5 _ _ _ _ _) ?_))
    exact ret_r3 (g := w.heap.size + 1) rfl rfl rfl rfl rfl (setRow_heap _ _ _ _ _ _ HZ3.out) ⟨rfl, setRow_below HB3.out (by omega) _⟩
  · have hb : (E != 0) = true := by simpa using h0
    simp only [if_neg h0]
    clear h0
    go_enter Tryz.func68, Tryz.ntmps68
    go_wp2_with fail
    refine (HK.out _).mono ?_
    rintro en w1 ⟨rfl, hb1⟩
    obtain ⟨hx, hz, hbw⟩ := two_blocks (hb1.mono (by simp))
    have HX3 := Lib.hid hx
    have HZ3 := Lib.hid hz
    have HB3 := Lib.hid hbw
    clear hx hz hbw hb1 HK HT
    go_wp2_with (first | (refine wpList_load_row rfl 46 _ rfl w.heap.size rfl 46 _ _ _ HX3.out Tryz.underlying46 rfl infoR ?_) | (refine wpList_store_row rfl 46 _ _ rfl (w.heap.size + 1) _ rfl rfl 46 _ HZ3.out infoR rfl (all5 _ _ _ _ _) ?_))
    exact ret_r3 (g := w.heap.size + 1) rfl rfl rfl rfl rfl (setRow_heap _ _ _ _ _ _ HZ3.out) ⟨rfl, setRow_below HB3.out (by omega) _⟩
end Go.Proofs.YtnakljbginbenaaGreatDoor

/- The contract of record.Take. -/
namespace Go.Proofs.YtnakljbginbenaaGreatDoor
open Go.RowKit
set_option linter.unusedVariables false

/-- What Take tells. -/
def rR (s : ByteArray) (p : Int) : Rc := match tkR s p with | some r => r.1 | none => Rc.zero
def rX (s : ByteArray) (p : Int) : Nat := match tkR s p with | some r => r.2 | none => 0
def rE (s : ByteArray) (p : Int) : Nat := match tkR s p with | some _ => 0 | none => 2
theorem r_some {s : ByteArray} {p : Int} {r : Rc × Nat} (h : tkR s p = some r) : rR s p = r.1 ∧ rX s p = r.2 ∧ rE s p = 0 := by unfold rR rX rE; rw [h]; exact ⟨rfl, rfl, rfl⟩
theorem r_none {s : ByteArray} {p : Int} (h : tkR s p = none) : rR s p = Rc.zero ∧ rX s p = 0 ∧ rE s p = 2 := by unfold rR rX rE; rw [h]; exact ⟨rfl, rfl, rfl⟩
theorem r_cases (s : ByteArray) (p : Int) : (tkR s p = none ∧ rR s p = Rc.zero ∧ rX s p = 0 ∧ rE s p = 2) ∨ (∃ r, tkR s p = some r ∧ rR s p = r.1 ∧ rX s p = r.2 ∧ rE s p = 0) := by
  cases h : tkR s p with
  | none => exact .inl ⟨rfl, r_none h⟩
  | some r => exact .inr ⟨r, rfl, r_some h⟩
theorem rR_ok (s : ByteArray) (p : Int) : (rR s p).Ok := by
  rcases r_cases s p with ⟨_, h, _⟩ | ⟨r, h, h1, _⟩
  · rw [h]; exact Rc.zero_ok
  · rw [h1]; exact (tkR_is h).1

/-- The program's parts of a record are the document's. -/
theorem r_parts (s : ByteArray) (p : Int) :
    cmbW (qE s p : Nat) (Oc.se s (qX s p : Nat) 4) (dE s (Oc.so s (qX s p : Nat) 4) (qR s p).k) (.agg #[.string ⟨#[]⟩, .int .u16 0, .int .u16 0, .int .u32 0, .string ⟨#[]⟩]) (.agg #[.string (qR s p).n, .int .u16 ((qR s p).k : Nat), .int .u16 ((qR s p).c : Nat), .int .u32 (Oc.un s (qX s p : Nat) 4), .string (dS s (Oc.so s (qX s p : Nat) 4) (qR s p).k)]) =
      .agg #[.string (rR s p).n, .int .u16 ((rR s p).k : Nat), .int .u16 ((rR s p).c : Nat), .int .u32 ((rR s p).t : Nat), .string (rR s p).d] ∧
    cmbX (qE s p : Nat) (Oc.se s (qX s p : Nat) 4) (dE s (Oc.so s (qX s p : Nat) 4) (qR s p).k) (dX s (Oc.so s (qX s p : Nat) 4)) = (rX s p : Nat) ∧
    cmbE (qE s p : Nat) (Oc.se s (qX s p : Nat) 4) (dE s (Oc.so s (qX s p : Nat) 4) (qR s p).k) = (rE s p : Nat) := by
  have h4 : ((4 : Nat) : Int) = 4 := rfl
  have h2 : ((2 : Nat) : Int) = 2 := rfl
  rcases q_cases s p with ⟨hq, a1, a2, a3⟩ | ⟨q, hq, a1, a2, a3, a4⟩
  · have hr : tkR s p = none := by unfold tkR; rw [hq]; rfl
    obtain ⟨b1, b2, b3⟩ := r_none hr
    rw [b1, b2, b3, a3]
    exact ⟨rfl, rfl, rfl⟩
  · rw [a1, a2, a3]
    rw [a2] at a4
    have no : tkR s p = none → (∀ (W : Value) (P e2 e3 : Int), ¬ (e2 = 0 ∧ e3 = 0) → (e2 = 0 ∨ e2 = 2) → (e2 = 0 → e3 = 2) → cmbW ((0 : Nat) : Int) e2 e3 (.agg #[.string ⟨#[]⟩, .int .u16 0, .int .u16 0, .int .u32 0, .string ⟨#[]⟩]) W = .agg #[.string (rR s p).n, .int .u16 ((rR s p).k : Nat), .int .u16 ((rR s p).c : Nat), .int .u32 ((rR s p).t : Nat), .string (rR s p).d] ∧ cmbX ((0 : Nat) : Int) e2 e3 P = (rX s p : Nat) ∧ cmbE ((0 : Nat) : Int) e2 e3 = (rE s p : Nat)) := by
      intro hr W P e2 e3 hne h02 h3
      obtain ⟨b1, b2, b3⟩ := r_none hr
      rw [b1, b2, b3]
      refine ⟨?_, ?_, ?_⟩
      · unfold cmbW
        rw [if_neg (fun x => hne x.2)]
        rfl
      · unfold cmbX
        rw [if_neg (fun x => hne x.2)]
        rfl
      · unfold cmbE
        rw [if_pos (show ((0 : Nat) : Int) = 0 from rfl)]
        split
        · rename_i h; exact h3 h
        · rename_i h; rcases h02 with h' | h'
          · exact absurd h' h
          · exact h'
    by_cases c1 : q.2 + 4 ≤ s.size
    · have e2 : Oc.se s (q.2 : Nat) 4 = 0 := by rw [← h4, se_nat, if_pos c1]
      have o2 : Oc.so s (q.2 : Nat) 4 = (q.2 + 4 : Nat) := by rw [← h4]; exact so_nat c1
      rw [o2, e2]
      by_cases c2 : q.2 + 4 + 2 ≤ s.size
      · have e3 : Oc.se s (q.2 + 4 : Nat) 2 = 0 := by rw [← h2, se_nat, if_pos c2]
        have o3 : Oc.so s (q.2 + 4 : Nat) 2 = (q.2 + 4 + 2 : Nat) := by rw [← h2]; exact so_nat c2
        have hm := g16_lt s (q.2 + 4) c2
        have hO := tdO_eq (s := s) (p := q.2 + 4 + 2) (m := g16 s (q.2 + 4)) (k := q.1.k) (by omega)
        unfold dE dS dX
        rw [e3, if_pos rfl, if_pos rfl, if_pos rfl, o3, un16 c2]
        by_cases c3 : q.2 + 4 + 2 + g16 s (q.2 + 4) ≤ s.size
        · rw [if_pos c3] at hO
          cases hT : takeD s (q.2 + 4 + 2) (g16 s (q.2 + 4)) q.1.k with
          | none =>
            rw [hT] at hO
            rw [(td_none hO).2]
            refine no ?_ _ _ _ _ (by omega) (.inl rfl) (fun _ => rfl)
            unfold tkR
            rw [hq]
            simp only [Option.bind_some]
            rw [if_pos (by omega), hT]
            rfl
          | some d =>
            rw [hT] at hO
            rw [(td_some hO).2, (td_some hO).1]
            have hr : tkR s p = some (⟨q.1.n, q.1.k, q.1.c, g32 s q.2, ⟨d.toArray⟩⟩, q.2 + 6 + g16 s (q.2 + 4)) := by
              unfold tkR
              rw [hq]
              simp only [Option.bind_some]
              rw [if_pos (by omega), hT]
              rfl
            obtain ⟨b1, b2, b3⟩ := r_some hr
            rw [b1, b2, b3, ← h4, show ((q.2 : Nat) : Int) = ((q.2 : Nat) : Int) from rfl, h4, un32 c1]
            refine ⟨rfl, ?_, rfl⟩
            unfold cmbX
            rw [if_pos ⟨rfl, rfl, rfl⟩]
            simp only
            omega
        · rw [if_neg c3] at hO
          rw [(td_none hO).2]
          refine no ?_ _ _ _ _ (by omega) (.inl rfl) (fun _ => rfl)
          unfold tkR
          rw [hq]
          simp only [Option.bind_some]
          rw [if_neg (by omega)]
      · have e3 : Oc.se s (q.2 + 4 : Nat) 2 = 2 := by rw [← h2, se_nat, if_neg c2]; rfl
        have e4 : dE s (q.2 + 4 : Nat) q.1.k = 2 := by unfold dE; rw [e3, if_neg (by decide)]
        rw [e4]
        refine no ?_ _ _ _ _ (by omega) (.inl rfl) (fun _ => rfl)
        unfold tkR
        rw [hq]
        simp only [Option.bind_some]
        rw [if_neg (by omega)]
    · have e2 : Oc.se s (q.2 : Nat) 4 = 2 := by rw [← h4, se_nat, if_neg c1]
      rw [e2]
      refine no ?_ _ _ _ _ (by omega) (.inr rfl) (fun x => by cases x)
      unfold tkR
      rw [hq]
      simp only [Option.bind_some]
      rw [if_neg (by omega)]

set_option maxRecDepth 100000 in
set_option maxHeartbeats 1000000 in
theorem taker_any (s : ByteArray) (p : Int) (hs : s.size ≤ 1073741824) (hp : p ≤ maxLen) (w : World) (hL : Lay w) :
    Calls Tryz.prog 39 #[.string s, .int .i64 p] w fun en w' => en = .returned (.tuple #[.agg #[.string (rR s p).n, .int .u16 ((rR s p).k : Nat), .int .u16 ((rR s p).c : Nat), .int .u32 ((rR s p).t : Nat), .string (rR s p).d], .int .i64 (rX s p : Nat), .int .i64 (rE s p : Nat)]) ∧ Below w.heap.size w w' := by
  have hs' : s.size ≤ maxLen := by unfold maxLen; omega
  have hx1 : ((qX s p : Nat) : Int) ≤ maxLen := by have := qX_le s p; unfold maxLen at *; omega
  have hx2 := Oc.so_le s (qX s p : Nat) 4 hs'
  have hk := (qR_ok s p).k
  obtain ⟨a1, a2, a3⟩ := r_parts s p
  have hc := fun (g : Nat) (w' : World) (hL' : Lay w') hg => combiner_any s p (qX s p : Nat) (Oc.so s (qX s p : Nat) 4) (dX s (Oc.so s (qX s p : Nat) 4)) (qE s p : Nat) (Oc.se s (qX s p : Nat) 4) (dE s (Oc.so s (qX s p : Nat) 4) (qR s p).k) (qR s p).n (qR s p).n (qR s p).n ⟨#[]⟩ ⟨#[]⟩ (dS s (Oc.so s (qX s p : Nat) 4) (qR s p).k) ((qR s p).k : Nat) ((qR s p).k : Nat) ((qR s p).k : Nat) ((qR s p).c : Nat) ((qR s p).c : Nat) ((qR s p).c : Nat) 0 (Oc.un s (qX s p : Nat) 4) (Oc.un s (qX s p : Nat) 4) g w'
    (fun w'' _ => takekey_any _ _ _ _ _ _ _ hs hp w'') (fun w'' _ => takettl_any _ _ _ _ _ _ _ hs' hx1 w'') (fun w'' hb => takedata_any _ _ _ _ _ _ hs hx2 hk w'' (hL'.below (lay_lt hL') hb)) hg
  rw [a1, a2, a3] at hc
  generalize (rR s p).n = N at hc ⊢
  generalize (rR s p).k = K at hc ⊢
  generalize (rR s p).c = C at hc ⊢
  generalize (rR s p).t = T at hc ⊢
  generalize (rR s p).d = D at hc ⊢
  generalize rX s p = X at hc ⊢
  generalize rE s p = E at hc ⊢
  have HK := Lib.hid hc
  have HL := Lib.hid hL
  have H0 := Lib.hid (lay_lt hL)
  clear hc a1 a2 a3 hx1 hx2 hk hL
  have HF := Lib.hid (heap_alloc2_new w (Obj.cells #[.string ⟨#[]⟩, .int .u16 0, .int .u16 0, .int .u32 0, .string ⟨#[]⟩] 46) (Obj.cells #[.func (.func 66) #[] #[], .func (.func 67) #[] #[], .func (.func 68) #[] #[]] 104))
  have HN := Lib.hid (show ((w.alloc (Obj.cells #[.string ⟨#[]⟩, .int .u16 0, .int .u16 0, .int .u32 0, .string ⟨#[]⟩] 46)).alloc (Obj.cells #[.func (.func 66) #[] #[], .func (.func 67) #[] #[], .func (.func 68) #[] #[]] 104)).heap[w.heap.size]? = some (.cells #[.string ⟨#[]⟩, .int .u16 0, .int .u16 0, .int .u32 0, .string ⟨#[]⟩] 46 (0, 0)) by rw [heapOld _ (by simp)]; exact World.alloc_heap_new w _)
  have HB := Lib.hid (((Below.refl w.heap.size w).alloc (Nat.le_refl _) (Obj.cells #[.string ⟨#[]⟩, .int .u16 0, .int .u16 0, .int .u32 0, .string ⟨#[]⟩] 46)).alloc (by simp) (Obj.cells #[.func (.func 66) #[] #[], .func (.func 67) #[] #[], .func (.func 68) #[] #[]] 104))
  have HL2 := Lib.hid (HL.out.below H0.out HB.out)
  go_enter Tryz.func39, Tryz.ntmps39
  go_wp2_with fail
  refine (HK.out _ _ HL2.out HF.out).mono ?_
  rintro en w1 ⟨rfl, hb1⟩
  have HN1 := Lib.hid ((hb1.block w.heap.size (by simp; omega)).trans HN.out)
  have HB1 := Lib.hid (HB.out.trans (hb1.mono HB.out.size))
  clear hb1 HN HB HF HK HL HL2
  go_wp2_with (refine wpList_store_row rfl 46 _ _ rfl w.heap.size _ rfl rfl 46 _ HN1.out infoR rfl (all5 _ _ _ _ _) ?_)
  exact ret_r3 (g := w.heap.size) rfl rfl rfl rfl rfl (setRow_heap _ _ _ _ _ _ HN1.out) ⟨rfl, setRow_below HB1.out (Nat.le_refl _) _⟩
end Go.Proofs.YtnakljbginbenaaGreatDoor
