/- The walk of derricklaw05.RecordSame: records that say the same have the same question, and it doesn't matter how long they may be told. -/
import Derived.Test.YtlphbeaaeeohjaaDoorRqt
import Derived.Deep.DeepCutAuto
namespace Go.Proofs.YtlphbeaaeeohjaaDoor
open Go.RowKit
set_option linter.unusedVariables false

theorem same_ttl (n d : ByteArray) (k c t u : Nat) : sameR ⟨n, k, c, t, d⟩ ⟨n, k, c, u, d⟩ = true := by simp [sameR, keyR]
theorem same_more (n d : ByteArray) (k c t u : Nat) : sameR ⟨n, k, c, t, d⟩ ⟨n, k, c, u, d ++ ⟨#[120]⟩⟩ = false := by
  have h : (d.toList == (d ++ ⟨#[120]⟩).toList) = false := by
    rw [ByteArray.toList_eq, ByteArray.toList_eq, beq_eq_false_iff_ne]
    intro h
    have := congrArg List.length h
    simp at this
  simp [sameR, h]
theorem same_sym (a b : Rc) : sameR a b = sameR b a := by
  unfold sameR keyR
  have h1 : decide (a.n.toList = b.n.toList ∧ (a.k : Int) = (b.k : Int) ∧ (a.c : Int) = (b.c : Int)) = decide (b.n.toList = a.n.toList ∧ (b.k : Int) = (a.k : Int) ∧ (b.c : Int) = (a.c : Int)) := by
    apply decide_eq_decide.2
    constructor
    · rintro ⟨x, y, z⟩; exact ⟨x.symm, y.symm, z.symm⟩
    · rintro ⟨x, y, z⟩; exact ⟨x.symm, y.symm, z.symm⟩
  have h2 : (a.d.toList == b.d.toList) = (b.d.toList == a.d.toList) := by
    rw [Bool.eq_iff_iff, beq_iff_eq, beq_iff_eq]
    exact eq_comm
  rw [h1, h2]
theorem same_key {a b : Rc} (h : sameR a b = true) : a.n.toList = b.n.toList ∧ (a.k : Int) = (b.k : Int) ∧ (a.c : Int) = (b.c : Int) := by
  unfold sameR keyR at h
  rw [Bool.and_eq_true, decide_eq_true_iff] at h
  exact h.1

/-- Four records in memory. -/
structure Four (g h i j : Nat) (xs ys zs vs : Array Value) (W : World) : Prop where
  one : W.heap[g]? = some (.cells xs 25 (0, 0))
  two : W.heap[h]? = some (.cells ys 25 (0, 0))
  tri : W.heap[i]? = some (.cells zs 25 (0, 0))
  qua : W.heap[j]? = some (.cells vs 25 (0, 0))
theorem Four.call {g h i j : Nat} {xs ys zs vs : Array Value} {W W' : World} (H : Four g h i j xs ys zs vs W) (hb : Below W.heap.size W W') : Four g h i j xs ys zs vs W' :=
  ⟨(hb.block _ (heap_lt H.one)).trans H.one, (hb.block _ (heap_lt H.two)).trans H.two, (hb.block _ (heap_lt H.tri)).trans H.tri, (hb.block _ (heap_lt H.qua)).trans H.qua⟩
theorem Four.drew {g h i j : Nat} {xs ys zs vs : Array Value} {W : World} (H : Four g h i j xs ys zs vs W) : Four g h i j xs ys zs vs W.drew := ⟨H.one, H.two, H.tri, H.qua⟩
theorem Four.start {w0 w : World} {xs ys : Array Value} (H : Bx w0 xs ys w) (zs vs : Array Value) : Four w0.heap.size (w0.heap.size + 1) w.heap.size (w.heap.size + 1) xs ys zs vs ((w.alloc (Obj.cells zs 25)).alloc (Obj.cells vs 25)) ∧ Below w0.heap.size w0 ((w.alloc (Obj.cells zs 25)).alloc (Obj.cells vs 25)) := by
  obtain ⟨a, b, c⟩ := two_blocks (w := w) (cs := zs) (zs := vs) (t := 25) (Below.refl _ _)
  exact ⟨⟨(c.block _ (heap_lt H.one)).trans H.one, (c.block _ (heap_lt H.two)).trans H.two, a, b⟩, H.bel.trans (c.mono H.bel.size)⟩

set_option maxRecDepth 100000 in
set_option maxHeartbeats 2000000 in
theorem same_walk (n n' d d' : ByteArray) (k k' c c' t t' u : Nat) (hk : k < 65536) (hc : c < 65536) (ht : t < 4294967296) (hu : u < 4294967296) (w : World) (hL : Lay w) :
    Calls Tryd.prog 7 #[.agg #[.string n, .int .u16 (k : Nat), .int .u16 (c : Nat), .int .u32 (t : Nat), .string d], .agg #[.string n', .int .u16 (k' : Nat), .int .u16 (c' : Nat), .int .u32 (t' : Nat), .string d'], .int .u32 (u : Nat)] w fun e w' => e = .returned (.bool true) ∧ Below w.heap.size w w' := by
  have HL := Lib.hid hL
  have H0 := Lib.hid (lay_lt hL)
  clear hL
  have HS := Lib.hid (Bx.start w #[.string n, .int .u16 (k : Nat), .int .u16 (c : Nat), .int .u32 (t : Nat), .string d] #[.string n', .int .u16 (k' : Nat), .int .u16 (c' : Nat), .int .u32 (t' : Nat), .string d'])
  have HLs := Lib.hid (HL.out.below H0.out HS.out.bel)
  go_enter Tryd.func7, Tryd.ntmps7
  go_wp2_with fail
  refine (rshown_any _ HLs.out).mono ?_
  rintro e w1 ⟨rfl, hb1⟩
  have HS1 := Lib.hid (HS.out.call hb1)
  clear hb1 HS HLs
  have hfa := few_any ⟨n, k, c, t, d⟩
  have hfb := few_any ⟨n', k', c', t', d'⟩
  have a0 : w1.cell? ⟨w.heap.size, 0, none⟩ = some (.string n) := blk_cell HS1.out.one 0
  have a1 : w1.cell? ⟨w.heap.size, 1, none⟩ = some (.int .u16 (k : Nat)) := blk_cell HS1.out.one 1
  have a2 : w1.cell? ⟨w.heap.size, 2, none⟩ = some (.int .u16 (c : Nat)) := blk_cell HS1.out.one 2
  have a3 : w1.cell? ⟨w.heap.size, 3, none⟩ = some (.int .u32 (t : Nat)) := blk_cell HS1.out.one 3
  have a4 : w1.cell? ⟨w.heap.size, 4, none⟩ = some (.string d) := blk_cell HS1.out.one 4
  cases ha : fewR ⟨n, k, c, t, d⟩ with
  | false =>
    rw [ha] at hfa
    have HFa := Lib.hid hfa
    clear hfa hfb
    go_wp2_with fail
    refine (HFa.out _).mono ?_
    rintro e w2 ⟨rfl, hb2⟩
    have HS2 := Lib.hid (HS1.out.call hb2)
    clear hb2
    go_wp2_with fail
    go_ret
    exact ⟨rfl, HS2.out.bel⟩
  | true =>
    rw [ha] at hfa
    have HFa := Lib.hid hfa
    clear hfa
    cases hb : fewR ⟨n', k', c', t', d'⟩ with
    | false =>
      rw [hb] at hfb
      have HFb := Lib.hid hfb
      clear hfb
      go_wp2_with fail
      refine (HFa.out _).mono ?_
      rintro e w2 ⟨rfl, hb2⟩
      have HS2 := Lib.hid (HS1.out.call hb2)
      clear hb2
      have b0 : w2.cell? ⟨w.heap.size + 1, 0, none⟩ = some (.string n') := blk_cell HS2.out.two 0
      have b1 : w2.cell? ⟨w.heap.size + 1, 1, none⟩ = some (.int .u16 (k' : Nat)) := blk_cell HS2.out.two 1
      have b2 : w2.cell? ⟨w.heap.size + 1, 2, none⟩ = some (.int .u16 (c' : Nat)) := blk_cell HS2.out.two 2
      have b3 : w2.cell? ⟨w.heap.size + 1, 3, none⟩ = some (.int .u32 (t' : Nat)) := blk_cell HS2.out.two 3
      have b4 : w2.cell? ⟨w.heap.size + 1, 4, none⟩ = some (.string d') := blk_cell HS2.out.two 4
      go_wp2_with fail
      refine (HFb.out _).mono ?_
      rintro e w3 ⟨rfl, hb3⟩
      have HS3 := Lib.hid (HS2.out.call hb3)
      clear hb3
      go_wp2_with fail
      go_ret
      exact ⟨rfl, HS3.out.bel⟩
    | true =>
      rw [hb] at hfb
      have HFb := Lib.hid hfb
      have hds : n.size ≤ 700 ∧ d.size ≤ 700 := by unfold fewR at ha; simpa using ha
      obtain ⟨MM, hMM⟩ : ∃ M, mayR ⟨n, k, c, t, d⟩ = M := ⟨_, rfl⟩
      have hMu : mayR ⟨n, k, c, u, d⟩ = MM := hMM
      have HMt := Lib.hid (show ∀ w', Lay w' → Calls Tryd.prog 15 #[.agg #[.string n, .int .u16 (k : Nat), .int .u16 (c : Nat), .int .u32 (t : Nat), .string d]] w' (fun e w'' => e = .returned (.bool MM) ∧ Below w'.heap.size w' w'') from fun w' hL' => by have := mayr_any ⟨n, k, c, t, d⟩ (by simp only; omega) (by simp only; omega) ⟨hk, hc, ht⟩ w' hL'; rw [hMM] at this; exact this)
      have HMu := Lib.hid (show ∀ w', Lay w' → Calls Tryd.prog 15 #[.agg #[.string n, .int .u16 (k : Nat), .int .u16 (c : Nat), .int .u32 (u : Nat), .string d]] w' (fun e w'' => e = .returned (.bool MM) ∧ Below w'.heap.size w' w'') from fun w' hL' => by have := mayr_any ⟨n, k, c, u, d⟩ (by simp only; omega) (by simp only; omega) ⟨hk, hc, hu⟩ w' hL'; rw [hMu] at this; exact this)
      clear hMM hMu
      clear hfb
      go_wp2_with fail
      refine (HFa.out _).mono ?_
      rintro e w2 ⟨rfl, hb2⟩
      have HS2 := Lib.hid (HS1.out.call hb2)
      clear hb2
      have b0 : w2.cell? ⟨w.heap.size + 1, 0, none⟩ = some (.string n') := blk_cell HS2.out.two 0
      have b1 : w2.cell? ⟨w.heap.size + 1, 1, none⟩ = some (.int .u16 (k' : Nat)) := blk_cell HS2.out.two 1
      have b2 : w2.cell? ⟨w.heap.size + 1, 2, none⟩ = some (.int .u16 (c' : Nat)) := blk_cell HS2.out.two 2
      have b3 : w2.cell? ⟨w.heap.size + 1, 3, none⟩ = some (.int .u32 (t' : Nat)) := blk_cell HS2.out.two 3
      have b4 : w2.cell? ⟨w.heap.size + 1, 4, none⟩ = some (.string d') := blk_cell HS2.out.two 4
      go_wp2_with fail
      refine (HFb.out _).mono ?_
      rintro e w3 ⟨rfl, hb3⟩
      have HS3 := Lib.hid (HS2.out.call hb3)
      clear hb3 HS2 HS1 HFa HFb
      clear b0 b1 b2 b3 b4 a0 a1 a2 a3 a4
      have a0 : w3.cell? ⟨w.heap.size, 0, none⟩ = some (.string n) := blk_cell HS3.out.one 0
      have a1 : w3.cell? ⟨w.heap.size, 1, none⟩ = some (.int .u16 (k : Nat)) := blk_cell HS3.out.one 1
      have a2 : w3.cell? ⟨w.heap.size, 2, none⟩ = some (.int .u16 (c : Nat)) := blk_cell HS3.out.one 2
      have a3 : w3.cell? ⟨w.heap.size, 3, none⟩ = some (.int .u32 (t : Nat)) := blk_cell HS3.out.one 3
      have a4 : w3.cell? ⟨w.heap.size, 4, none⟩ = some (.string d) := blk_cell HS3.out.one 4
      have hcat : ¬ 9223372036854775807 < d.size + 1 := by omega
      go_upto_region 6 with (fail)
      obtain ⟨w5, hw5⟩ : ∃ w5, w5 = w3.alloc (Obj.cells #[.string n, .int .u16 (k : Nat), .int .u16 (c : Nat), .int .u32 (u : Nat), .string d] 25) := ⟨_, rfl⟩
      have hb5 := (Below.refl w3.heap.size w3).alloc (Nat.le_refl _) (Obj.cells #[.string n, .int .u16 (k : Nat), .int .u16 (c : Nat), .int .u32 (u : Nat), .string d] 25)
      rw [← hw5] at hb5 ⊢
      have HS5 := Lib.hid (HS3.out.call hb5)
      have hsz5 : w5.heap.size = w3.heap.size + 1 := by rw [hw5]; simp
      have HW5 := Lib.hid (And.intro hw5 hsz5)
      clear hb5 hw5 hsz5 a0 a1 a2 a3 a4
      have x0 : w5.cell? ⟨w.heap.size, 0, none⟩ = some (.string n) := blk_cell HS5.out.one 0
      have x1 : w5.cell? ⟨w.heap.size, 1, none⟩ = some (.int .u16 (k : Nat)) := blk_cell HS5.out.one 1
      have x2 : w5.cell? ⟨w.heap.size, 2, none⟩ = some (.int .u16 (c : Nat)) := blk_cell HS5.out.one 2
      have x3 : w5.cell? ⟨w.heap.size, 3, none⟩ = some (.int .u32 (t : Nat)) := blk_cell HS5.out.one 3
      have x4 : w5.cell? ⟨w.heap.size, 4, none⟩ = some (.string d) := blk_cell HS5.out.one 4
      go_upto_region 7 with (fail)
      obtain ⟨w6, hw6⟩ : ∃ w6, w6 = w5.alloc (Obj.cells #[.string n, .int .u16 (k : Nat), .int .u16 (c : Nat), .int .u32 (t : Nat), .string d] 25) := ⟨_, rfl⟩
      have hb6 := (Below.refl w5.heap.size w5).alloc (Nat.le_refl _) (Obj.cells #[.string n, .int .u16 (k : Nat), .int .u16 (c : Nat), .int .u32 (t : Nat), .string d] 25)
      have hy6 := World.alloc_heap_new w5 (Obj.cells #[.string n, .int .u16 (k : Nat), .int .u16 (c : Nat), .int .u32 (t : Nat), .string d] 25)
      rw [← hw6] at hb6 hy6 ⊢
      have HS6 := Lib.hid (HS5.out.call hb6)
      have HW6 := Lib.hid hw6
      have HY6 := Lib.hid hy6
      have a4 : w6.cell? ⟨w.heap.size, 4, none⟩ = some (.string d) := blk_cell HS6.out.one 4
      have y4 : w6.cell? ⟨w5.heap.size, 4, none⟩ = some (.string d) := blk_cell hy6 4
      have f4 := blk_frozen hy6 4
      clear hb6 hw6 hy6
      go_upto_region 8 with (fail)
      obtain ⟨w7, hw7⟩ : ∃ w7, w7 = w6.setCell ⟨w5.heap.size, 4, none⟩ (.string (d ++ ⟨#[120]⟩)) := ⟨_, rfl⟩
      have hx5 : w5.heap[w3.heap.size]? = some (.cells #[.string n, .int .u16 (k : Nat), .int .u16 (c : Nat), .int .u32 (u : Nat), .string d] 25 (0, 0)) := by rw [HW5.out.1]; exact World.alloc_heap_new w3 _
      have hx6 : w6.heap[w3.heap.size]? = some (.cells #[.string n, .int .u16 (k : Nat), .int .u16 (c : Nat), .int .u32 (u : Nat), .string d] 25 (0, 0)) := by rw [HW6.out, heap_alloc_old _ _ (heap_lt hx5)]; exact hx5
      have HF := Lib.hid (show Four w.heap.size (w.heap.size + 1) w3.heap.size w5.heap.size #[.string n, .int .u16 (k : Nat), .int .u16 (c : Nat), .int .u32 (t : Nat), .string d] #[.string n', .int .u16 (k' : Nat), .int .u16 (c' : Nat), .int .u32 (t' : Nat), .string d'] #[.string n, .int .u16 (k : Nat), .int .u16 (c : Nat), .int .u32 (u : Nat), .string d] #[.string n, .int .u16 (k : Nat), .int .u16 (c : Nat), .int .u32 (t : Nat), .string (d ++ ⟨#[120]⟩)] w7.drew by
        rw [hw7]
        exact ⟨blk_other _ HS6.out.one (Nat.ne_of_lt (heap_lt HS5.out.one)), blk_other _ HS6.out.two (Nat.ne_of_lt (heap_lt HS5.out.two)), blk_other _ hx6 (Nat.ne_of_lt (heap_lt hx5)), blk_set HY6.out 4 _⟩)
      have HB := Lib.hid (show Below w.heap.size w w7.drew by rw [hw7]; exact (HS6.out.bel.setCell (p := ⟨w5.heap.size, 4, none⟩) HS5.out.bel.size (.string (d ++ ⟨#[120]⟩))).drew)
      have HU := Lib.hid (And.intro ht hu)
      rw [← hw7]
      clear hx5 hx6 hw7 HS3 HS5 HS6 HW5 HW6 HY6 a4 y4 f4 x0 x1 x2 x3 x4 ht hu hcat
      refine wp_region_held_drew (S := fun w' => Four w.heap.size (w.heap.size + 1) w3.heap.size w5.heap.size #[.string n, .int .u16 (k : Nat), .int .u16 (c : Nat), .int .u32 (t : Nat), .string d] #[.string n', .int .u16 (k' : Nat), .int .u16 (c' : Nat), .int .u32 (t' : Nat), .string d'] #[.string n, .int .u16 (k : Nat), .int .u16 (c : Nat), .int .u32 (u : Nat), .string d] #[.string n, .int .u16 (k : Nat), .int .u16 (c : Nat), .int .u32 (t : Nat), .string (d ++ ⟨#[120]⟩)] w') (by kernel_rfl) HF.out (fun hHeld => ?_)
      cases hsm : sameR ⟨n, k, c, t, d⟩ ⟨n', k', c', t', d'⟩ with
      | true =>
        have HE1 := Lib.hid (show ∀ w', Calls Tryd.prog 19 #[.agg #[.string n, .int .u16 (k : Nat), .int .u16 (c : Nat), .int .u32 (t : Nat), .string d], .agg #[.string n, .int .u16 (k : Nat), .int .u16 (c : Nat), .int .u32 (u : Nat), .string d]] w' (fun e w'' => e = .returned (.bool true) ∧ Below w'.heap.size w' w'') from fun w' => by have := same_any ⟨n, k, c, t, d⟩ ⟨n, k, c, u, d⟩ w'; rw [same_ttl] at this; exact this)
        have HE2 := Lib.hid (show ∀ w', Calls Tryd.prog 19 #[.agg #[.string n, .int .u16 (k : Nat), .int .u16 (c : Nat), .int .u32 (t : Nat), .string d], .agg #[.string n, .int .u16 (k : Nat), .int .u16 (c : Nat), .int .u32 (t : Nat), .string (d ++ ⟨#[120]⟩)]] w' (fun e w'' => e = .returned (.bool false) ∧ Below w'.heap.size w' w'') from fun w' => by have := same_any ⟨n, k, c, t, d⟩ ⟨n, k, c, t, d ++ ⟨#[120]⟩⟩ w'; rw [same_more] at this; exact this)
        have HE3 := Lib.hid (show ∀ w', Calls Tryd.prog 19 #[.agg #[.string n, .int .u16 (k : Nat), .int .u16 (c : Nat), .int .u32 (t : Nat), .string d], .agg #[.string n', .int .u16 (k' : Nat), .int .u16 (c' : Nat), .int .u32 (t' : Nat), .string d']] w' (fun e w'' => e = .returned (.bool true) ∧ Below w'.heap.size w' w'') from fun w' => by have := same_any ⟨n, k, c, t, d⟩ ⟨n', k', c', t', d'⟩ w'; rw [hsm] at this; exact this)
        have HE4 := Lib.hid (show ∀ w', Calls Tryd.prog 19 #[.agg #[.string n', .int .u16 (k' : Nat), .int .u16 (c' : Nat), .int .u32 (t' : Nat), .string d'], .agg #[.string n, .int .u16 (k : Nat), .int .u16 (c : Nat), .int .u32 (t : Nat), .string d]] w' (fun e w'' => e = .returned (.bool true) ∧ Below w'.heap.size w' w'') from fun w' => by have := same_any ⟨n', k', c', t', d'⟩ ⟨n, k, c, t, d⟩ w'; rw [same_sym, hsm] at this; exact this)
        have HQ := Lib.hid (same_key hsm)
        clear hsm
        refine wpAnyH_take (i := 0) (v := ?_) rfl (by kernel_rfl) (by kernel_rfl) (by kernel_rfl) (fun _ _ _ h => h) (Or.inl ⟨by rfl, ?_⟩) (by assumption) ?_
        rotate_left
        · (intro wq hSw; go_simp; try (with_reducible rfl))
        simp only [Act.put, List.getElem_toArray, List.getElem_cons_zero, List.setIfInBounds_toArray, List.set_cons_zero, List.set_cons_succ]
        refine wpAnyH_take (i := 1) (v := ?_) rfl (by kernel_rfl) (by kernel_rfl) (by kernel_rfl) (fun _ _ _ h => h) (Or.inl ⟨by rfl, ?_⟩) (by assumption) ?_
        rotate_left
        · (intro wq hSw; go_simp; try (with_reducible rfl))
        simp only [Act.put, List.getElem_toArray, List.getElem_cons_zero, List.getElem_cons_succ, List.setIfInBounds_toArray, List.set_cons_zero, List.set_cons_succ]
        refine wpAnyH_take (i := 2) (v := .agg #[.string n, .int .u16 (k : Nat), .int .u16 (c : Nat), .int .u32 (t : Nat), .string d]) rfl (by kernel_rfl) (by kernel_rfl) (by kernel_rfl) (fun _ _ _ h => h) (Or.inl ⟨by rfl, ?_⟩) (by assumption) ?_
        · (intro wq hSw; have e0 : wq.cell? ⟨w.heap.size, 0, none⟩ = some (.string n) := blk_cell hSw.one 0; have e1 : wq.cell? ⟨w.heap.size, 1, none⟩ = some (.int .u16 (k : Nat)) := blk_cell hSw.one 1; have e2 : wq.cell? ⟨w.heap.size, 2, none⟩ = some (.int .u16 (c : Nat)) := blk_cell hSw.one 2; have e3 : wq.cell? ⟨w.heap.size, 3, none⟩ = some (.int .u32 (t : Nat)) := blk_cell hSw.one 3; have e4 : wq.cell? ⟨w.heap.size, 4, none⟩ = some (.string d) := blk_cell hSw.one 4; go_simp)
        simp only [Act.put, List.getElem_toArray, List.getElem_cons_zero, List.getElem_cons_succ, List.setIfInBounds_toArray, List.set_cons_zero, List.set_cons_succ]
        refine wpAnyH_take (i := 3) (v := .agg #[.string n, .int .u16 (k : Nat), .int .u16 (c : Nat), .int .u32 (u : Nat), .string d]) rfl (by kernel_rfl) (by kernel_rfl) (by kernel_rfl) (fun _ _ _ h => h) (Or.inl ⟨by rfl, ?_⟩) (by assumption) ?_
        · (intro wq hSw; have e0 : wq.cell? ⟨w3.heap.size, 0, none⟩ = some (.string n) := blk_cell hSw.tri 0; have e1 : wq.cell? ⟨w3.heap.size, 1, none⟩ = some (.int .u16 (k : Nat)) := blk_cell hSw.tri 1; have e2 : wq.cell? ⟨w3.heap.size, 2, none⟩ = some (.int .u16 (c : Nat)) := blk_cell hSw.tri 2; have e3 : wq.cell? ⟨w3.heap.size, 3, none⟩ = some (.int .u32 (u : Nat)) := blk_cell hSw.tri 3; have e4 : wq.cell? ⟨w3.heap.size, 4, none⟩ = some (.string d) := blk_cell hSw.tri 4; go_simp)
        simp only [Act.put, List.getElem_toArray, List.getElem_cons_zero, List.getElem_cons_succ, List.setIfInBounds_toArray, List.set_cons_zero, List.set_cons_succ]
        refine wpAnyH_ready (rs := [4]) (by kernel_rfl) (by simp) ?_
        refine AllReadyH.cons rfl (fun K hK => ?_) AllReadyH.nil
        go_simp
        go_wp2_with (go_at_call 19; refine Calls.mono (HE1.out _) ?_; rintro e v1 ⟨rfl, hb⟩)
        have HF1 := Lib.hid (HF.out.call hb)
        have HB1 := Lib.hid (HB.out.trans (hb.mono HB.out.size))
        clear HF HB hb hHeld
        have HF := HF1
        have HB := HB1
        clear HF1 HB1
        refine hK.out _ _ HF.out (fun hHeld => ?_)
        clear hK K
        refine wpAnyH_take (i := 5) (v := ?_) rfl (by kernel_rfl) (by kernel_rfl) (by kernel_rfl) (fun _ _ _ h => h) (Or.inl ⟨by rfl, ?_⟩) (by assumption) ?_
        rotate_left
        · (intro wq hSw; go_simp; try (with_reducible rfl))
        simp only [Act.put, List.getElem_toArray, List.getElem_cons_zero, List.getElem_cons_succ, List.setIfInBounds_toArray, List.set_cons_zero, List.set_cons_succ]
        refine wpAnyH_take (i := 6) (v := ?_) rfl (by kernel_rfl) (by kernel_rfl) (by kernel_rfl) (fun _ _ _ h => h) (Or.inl ⟨by rfl, ?_⟩) (by assumption) ?_
        rotate_left
        · (intro wq hSw; go_simp; try (with_reducible rfl))
        simp only [Act.put, List.getElem_toArray, List.getElem_cons_zero, List.getElem_cons_succ, List.setIfInBounds_toArray, List.set_cons_zero, List.set_cons_succ]
        refine wpAnyH_take (i := 7) (v := .agg #[.string n, .int .u16 (k : Nat), .int .u16 (c : Nat), .int .u32 (t : Nat), .string d]) rfl (by kernel_rfl) (by kernel_rfl) (by kernel_rfl) (fun _ _ _ h => h) (Or.inl ⟨by rfl, ?_⟩) (by assumption) ?_
        · (intro wq hSw; have e0 : wq.cell? ⟨w.heap.size, 0, none⟩ = some (.string n) := blk_cell hSw.one 0; have e1 : wq.cell? ⟨w.heap.size, 1, none⟩ = some (.int .u16 (k : Nat)) := blk_cell hSw.one 1; have e2 : wq.cell? ⟨w.heap.size, 2, none⟩ = some (.int .u16 (c : Nat)) := blk_cell hSw.one 2; have e3 : wq.cell? ⟨w.heap.size, 3, none⟩ = some (.int .u32 (t : Nat)) := blk_cell hSw.one 3; have e4 : wq.cell? ⟨w.heap.size, 4, none⟩ = some (.string d) := blk_cell hSw.one 4; go_simp)
        simp only [Act.put, List.getElem_toArray, List.getElem_cons_zero, List.getElem_cons_succ, List.setIfInBounds_toArray, List.set_cons_zero, List.set_cons_succ]
        refine wpAnyH_take (i := 8) (v := .agg #[.string n, .int .u16 (k : Nat), .int .u16 (c : Nat), .int .u32 (t : Nat), .string (d ++ ⟨#[120]⟩)]) rfl (by kernel_rfl) (by kernel_rfl) (by kernel_rfl) (fun _ _ _ h => h) (Or.inl ⟨by rfl, ?_⟩) (by assumption) ?_
        · (intro wq hSw; have e0 : wq.cell? ⟨w5.heap.size, 0, none⟩ = some (.string n) := blk_cell hSw.qua 0; have e1 : wq.cell? ⟨w5.heap.size, 1, none⟩ = some (.int .u16 (k : Nat)) := blk_cell hSw.qua 1; have e2 : wq.cell? ⟨w5.heap.size, 2, none⟩ = some (.int .u16 (c : Nat)) := blk_cell hSw.qua 2; have e3 : wq.cell? ⟨w5.heap.size, 3, none⟩ = some (.int .u32 (t : Nat)) := blk_cell hSw.qua 3; have e4 : wq.cell? ⟨w5.heap.size, 4, none⟩ = some (.string (d ++ ⟨#[120]⟩)) := blk_cell hSw.qua 4; go_simp)
        simp only [Act.put, List.getElem_toArray, List.getElem_cons_zero, List.getElem_cons_succ, List.setIfInBounds_toArray, List.set_cons_zero, List.set_cons_succ]
        refine wpAnyH_ready (rs := [9]) (by kernel_rfl) (by simp) ?_
        refine AllReadyH.cons rfl (fun K hK => ?_) AllReadyH.nil
        go_simp
        go_wp2_with (go_at_call 19; refine Calls.mono (HE2.out _) ?_; rintro e v2 ⟨rfl, hb⟩)
        have HF2 := Lib.hid (HF.out.call hb)
        have HB2 := Lib.hid (HB.out.trans (hb.mono HB.out.size))
        clear HF HB hb hHeld
        have HF := HF2
        have HB := HB2
        clear HF2 HB2
        refine hK.out _ _ HF.out (fun hHeld => ?_)
        clear hK K
        refine wpAnyH_take (i := 10) (v := ?_) rfl (by kernel_rfl) (by kernel_rfl) (by kernel_rfl) (fun _ _ _ h => h) (Or.inl ⟨by rfl, ?_⟩) (by assumption) ?_
        rotate_left
        · (intro wq hSw; go_simp; try (with_reducible rfl))
        simp only [Act.put, List.getElem_toArray, List.getElem_cons_zero, List.getElem_cons_succ, List.setIfInBounds_toArray, List.set_cons_zero, List.set_cons_succ]
        refine wpAnyH_take (i := 11) (v := ?_) rfl (by kernel_rfl) (by kernel_rfl) (by kernel_rfl) (fun _ _ _ h => h) (Or.inl ⟨by rfl, ?_⟩) (by assumption) ?_
        rotate_left
        · (intro wq hSw; go_simp; try (with_reducible rfl))
        simp only [Act.put, List.getElem_toArray, List.getElem_cons_zero, List.getElem_cons_succ, List.setIfInBounds_toArray, List.set_cons_zero, List.set_cons_succ]
        refine wpAnyH_take (i := 12) (v := ?_) rfl (by kernel_rfl) (by kernel_rfl) (by kernel_rfl) (fun _ _ _ h => h) (Or.inl ⟨by rfl, ?_⟩) (by assumption) ?_
        rotate_left
        · (intro wq hSw; go_simp; try (with_reducible rfl))
        simp only [Act.put, List.getElem_toArray, List.getElem_cons_zero, List.getElem_cons_succ, List.setIfInBounds_toArray, List.set_cons_zero, List.set_cons_succ]
        refine wpAnyH_take (i := 13) (v := .agg #[.string n, .int .u16 (k : Nat), .int .u16 (c : Nat), .int .u32 (t : Nat), .string d]) rfl (by kernel_rfl) (by kernel_rfl) (by kernel_rfl) (fun _ _ _ h => h) (Or.inl ⟨by rfl, ?_⟩) (by assumption) ?_
        · (intro wq hSw; have e0 : wq.cell? ⟨w.heap.size, 0, none⟩ = some (.string n) := blk_cell hSw.one 0; have e1 : wq.cell? ⟨w.heap.size, 1, none⟩ = some (.int .u16 (k : Nat)) := blk_cell hSw.one 1; have e2 : wq.cell? ⟨w.heap.size, 2, none⟩ = some (.int .u16 (c : Nat)) := blk_cell hSw.one 2; have e3 : wq.cell? ⟨w.heap.size, 3, none⟩ = some (.int .u32 (t : Nat)) := blk_cell hSw.one 3; have e4 : wq.cell? ⟨w.heap.size, 4, none⟩ = some (.string d) := blk_cell hSw.one 4; go_simp)
        simp only [Act.put, List.getElem_toArray, List.getElem_cons_zero, List.getElem_cons_succ, List.setIfInBounds_toArray, List.set_cons_zero, List.set_cons_succ]
        refine wpAnyH_take (i := 14) (v := .agg #[.string n', .int .u16 (k' : Nat), .int .u16 (c' : Nat), .int .u32 (t' : Nat), .string d']) rfl (by kernel_rfl) (by kernel_rfl) (by kernel_rfl) (fun _ _ _ h => h) (Or.inl ⟨by rfl, ?_⟩) (by assumption) ?_
        · (intro wq hSw; have e0 : wq.cell? ⟨(w.heap.size + 1), 0, none⟩ = some (.string n') := blk_cell hSw.two 0; have e1 : wq.cell? ⟨(w.heap.size + 1), 1, none⟩ = some (.int .u16 (k' : Nat)) := blk_cell hSw.two 1; have e2 : wq.cell? ⟨(w.heap.size + 1), 2, none⟩ = some (.int .u16 (c' : Nat)) := blk_cell hSw.two 2; have e3 : wq.cell? ⟨(w.heap.size + 1), 3, none⟩ = some (.int .u32 (t' : Nat)) := blk_cell hSw.two 3; have e4 : wq.cell? ⟨(w.heap.size + 1), 4, none⟩ = some (.string d') := blk_cell hSw.two 4; go_simp)
        simp only [Act.put, List.getElem_toArray, List.getElem_cons_zero, List.getElem_cons_succ, List.setIfInBounds_toArray, List.set_cons_zero, List.set_cons_succ]
        refine wpAnyH_take (i := 16) (v := .agg #[.string n', .int .u16 (k' : Nat), .int .u16 (c' : Nat), .int .u32 (t' : Nat), .string d']) rfl (by kernel_rfl) (by kernel_rfl) (by kernel_rfl) (fun _ _ _ h => h) (Or.inl ⟨by rfl, ?_⟩) (by assumption) ?_
        · (intro wq hSw; have e0 : wq.cell? ⟨(w.heap.size + 1), 0, none⟩ = some (.string n') := blk_cell hSw.two 0; have e1 : wq.cell? ⟨(w.heap.size + 1), 1, none⟩ = some (.int .u16 (k' : Nat)) := blk_cell hSw.two 1; have e2 : wq.cell? ⟨(w.heap.size + 1), 2, none⟩ = some (.int .u16 (c' : Nat)) := blk_cell hSw.two 2; have e3 : wq.cell? ⟨(w.heap.size + 1), 3, none⟩ = some (.int .u32 (t' : Nat)) := blk_cell hSw.two 3; have e4 : wq.cell? ⟨(w.heap.size + 1), 4, none⟩ = some (.string d') := blk_cell hSw.two 4; go_simp)
        simp only [Act.put, List.getElem_toArray, List.getElem_cons_zero, List.getElem_cons_succ, List.setIfInBounds_toArray, List.set_cons_zero, List.set_cons_succ]
        refine wpAnyH_take (i := 17) (v := .agg #[.string n, .int .u16 (k : Nat), .int .u16 (c : Nat), .int .u32 (t : Nat), .string d]) rfl (by kernel_rfl) (by kernel_rfl) (by kernel_rfl) (fun _ _ _ h => h) (Or.inl ⟨by rfl, ?_⟩) (by assumption) ?_
        · (intro wq hSw; have e0 : wq.cell? ⟨w.heap.size, 0, none⟩ = some (.string n) := blk_cell hSw.one 0; have e1 : wq.cell? ⟨w.heap.size, 1, none⟩ = some (.int .u16 (k : Nat)) := blk_cell hSw.one 1; have e2 : wq.cell? ⟨w.heap.size, 2, none⟩ = some (.int .u16 (c : Nat)) := blk_cell hSw.one 2; have e3 : wq.cell? ⟨w.heap.size, 3, none⟩ = some (.int .u32 (t : Nat)) := blk_cell hSw.one 3; have e4 : wq.cell? ⟨w.heap.size, 4, none⟩ = some (.string d) := blk_cell hSw.one 4; go_simp)
        simp only [Act.put, List.getElem_toArray, List.getElem_cons_zero, List.getElem_cons_succ, List.setIfInBounds_toArray, List.set_cons_zero, List.set_cons_succ]
        refine wpAnyH_ready (rs := [15]) (by kernel_rfl) (by simp) ?_
        refine AllReadyH.cons rfl (fun K hK => ?_) AllReadyH.nil
        go_simp
        go_wp2_with (go_at_call 19; refine Calls.mono (HE3.out _) ?_; rintro e v3 ⟨rfl, hb⟩)
        have HF3 := Lib.hid (HF.out.call hb)
        have HB3 := Lib.hid (HB.out.trans (hb.mono HB.out.size))
        clear HF HB hb hHeld
        have HF := HF3
        have HB := HB3
        clear HF3 HB3
        refine hK.out _ _ HF.out (fun hHeld => ?_)
        clear hK K
        refine wpAnyH_ready (rs := [18]) (by kernel_rfl) (by simp) ?_
        refine AllReadyH.cons rfl (fun K hK => ?_) AllReadyH.nil
        go_simp
        go_wp2_with (go_at_call 19; refine Calls.mono (HE4.out _) ?_; rintro e v4 ⟨rfl, hb⟩)
        have HF4 := Lib.hid (HF.out.call hb)
        have HB4 := Lib.hid (HB.out.trans (hb.mono HB.out.size))
        clear HF HB hb hHeld
        have HF := HF4
        have HB := HB4
        clear HF4 HB4
        refine hK.out _ _ HF.out (fun hHeld => ?_)
        clear hK K
        refine wpAnyH_take (i := 19) (v := ?_) rfl (by kernel_rfl) (by kernel_rfl) (by kernel_rfl) (fun _ _ _ h => h) (Or.inl ⟨by rfl, ?_⟩) (by assumption) ?_
        rotate_left
        · (intro wq hSw; go_simp; try (with_reducible rfl))
        simp only [Act.put, List.getElem_toArray, List.getElem_cons_zero, List.getElem_cons_succ, List.setIfInBounds_toArray, List.set_cons_zero, List.set_cons_succ]
        refine wpAnyH_take (i := 20) (v := ?_) rfl (by kernel_rfl) (by kernel_rfl) (by kernel_rfl) (fun _ _ _ h => h) (Or.inl ⟨by rfl, ?_⟩) (by assumption) ?_
        rotate_left
        · (intro wq hSw; go_simp; try (with_reducible rfl))
        simp only [Act.put, List.getElem_toArray, List.getElem_cons_zero, List.getElem_cons_succ, List.setIfInBounds_toArray, List.set_cons_zero, List.set_cons_succ]
        refine wpAnyH_take (i := 21) (v := ?_) rfl (by kernel_rfl) (by kernel_rfl) (by kernel_rfl) (fun _ _ _ h => h) (Or.inl ⟨by rfl, ?_⟩) (by assumption) ?_
        rotate_left
        · (intro wq hSw; go_simp; try (with_reducible rfl))
        simp only [Act.put, List.getElem_toArray, List.getElem_cons_zero, List.getElem_cons_succ, List.setIfInBounds_toArray, List.set_cons_zero, List.set_cons_succ]
        refine wpAnyH_take (i := 22) (v := .agg #[.string n, .int .u16 (k : Nat), .int .u16 (c : Nat), .int .u32 (t : Nat), .string d]) rfl (by kernel_rfl) (by kernel_rfl) (by kernel_rfl) (fun _ _ _ h => h) (Or.inl ⟨by rfl, ?_⟩) (by assumption) ?_
        · (intro wq hSw; have e0 : wq.cell? ⟨w.heap.size, 0, none⟩ = some (.string n) := blk_cell hSw.one 0; have e1 : wq.cell? ⟨w.heap.size, 1, none⟩ = some (.int .u16 (k : Nat)) := blk_cell hSw.one 1; have e2 : wq.cell? ⟨w.heap.size, 2, none⟩ = some (.int .u16 (c : Nat)) := blk_cell hSw.one 2; have e3 : wq.cell? ⟨w.heap.size, 3, none⟩ = some (.int .u32 (t : Nat)) := blk_cell hSw.one 3; have e4 : wq.cell? ⟨w.heap.size, 4, none⟩ = some (.string d) := blk_cell hSw.one 4; go_simp)
        simp only [Act.put, List.getElem_toArray, List.getElem_cons_zero, List.getElem_cons_succ, List.setIfInBounds_toArray, List.set_cons_zero, List.set_cons_succ]
        refine wpAnyH_take (i := 23) (v := .agg #[.string n', .int .u16 (k' : Nat), .int .u16 (c' : Nat), .int .u32 (t' : Nat), .string d']) rfl (by kernel_rfl) (by kernel_rfl) (by kernel_rfl) (fun _ _ _ h => h) (Or.inl ⟨by rfl, ?_⟩) (by assumption) ?_
        · (intro wq hSw; have e0 : wq.cell? ⟨(w.heap.size + 1), 0, none⟩ = some (.string n') := blk_cell hSw.two 0; have e1 : wq.cell? ⟨(w.heap.size + 1), 1, none⟩ = some (.int .u16 (k' : Nat)) := blk_cell hSw.two 1; have e2 : wq.cell? ⟨(w.heap.size + 1), 2, none⟩ = some (.int .u16 (c' : Nat)) := blk_cell hSw.two 2; have e3 : wq.cell? ⟨(w.heap.size + 1), 3, none⟩ = some (.int .u32 (t' : Nat)) := blk_cell hSw.two 3; have e4 : wq.cell? ⟨(w.heap.size + 1), 4, none⟩ = some (.string d') := blk_cell hSw.two 4; go_simp)
        simp only [Act.put, List.getElem_toArray, List.getElem_cons_zero, List.getElem_cons_succ, List.setIfInBounds_toArray, List.set_cons_zero, List.set_cons_succ]
        refine wpAnyH_ready (rs := [24]) (by kernel_rfl) (by simp) ?_
        refine AllReadyH.cons rfl (fun K hK => ?_) AllReadyH.nil
        go_simp
        go_wp2_with (go_at_call 19; refine Calls.mono (HE3.out _) ?_; rintro e v5 ⟨rfl, hb⟩)
        have HF5 := Lib.hid (HF.out.call hb)
        have HB5 := Lib.hid (HB.out.trans (hb.mono HB.out.size))
        clear HF HB hb hHeld
        have HF := HF5
        have HB := HB5
        clear HF5 HB5
        refine hK.out _ _ HF.out (fun hHeld => ?_)
        clear hK K
        refine wpAnyH_take (i := 25) (v := ?_) rfl (by kernel_rfl) (by kernel_rfl) (by kernel_rfl) (fun _ _ _ h => h) (Or.inl ⟨by rfl, ?_⟩) (by assumption) ?_
        rotate_left
        · (intro wq hSw; go_simp; try (with_reducible rfl))
        simp only [Act.put, List.getElem_toArray, List.getElem_cons_zero, List.getElem_cons_succ, List.setIfInBounds_toArray, List.set_cons_zero, List.set_cons_succ]
        refine wpAnyH_take (i := 26) (v := ?_) rfl (by kernel_rfl) (by kernel_rfl) (by kernel_rfl) (fun _ _ _ h => h) (Or.inl ⟨by rfl, ?_⟩) (by assumption) ?_
        rotate_left
        · (intro wq hSw; go_simp; try (with_reducible rfl))
        simp only [Act.put, List.getElem_toArray, List.getElem_cons_zero, List.getElem_cons_succ, List.setIfInBounds_toArray, List.set_cons_zero, List.set_cons_succ]
        refine wpAnyH_take (i := 27) (v := .agg #[.string n, .int .u16 (k : Nat), .int .u16 (c : Nat), .int .u32 (t : Nat), .string d]) rfl (by kernel_rfl) (by kernel_rfl) (by kernel_rfl) (fun _ _ _ h => h) (Or.inl ⟨by rfl, ?_⟩) (by assumption) ?_
        · (intro wq hSw; have e0 : wq.cell? ⟨w.heap.size, 0, none⟩ = some (.string n) := blk_cell hSw.one 0; have e1 : wq.cell? ⟨w.heap.size, 1, none⟩ = some (.int .u16 (k : Nat)) := blk_cell hSw.one 1; have e2 : wq.cell? ⟨w.heap.size, 2, none⟩ = some (.int .u16 (c : Nat)) := blk_cell hSw.one 2; have e3 : wq.cell? ⟨w.heap.size, 3, none⟩ = some (.int .u32 (t : Nat)) := blk_cell hSw.one 3; have e4 : wq.cell? ⟨w.heap.size, 4, none⟩ = some (.string d) := blk_cell hSw.one 4; go_simp)
        simp only [Act.put, List.getElem_toArray, List.getElem_cons_zero, List.getElem_cons_succ, List.setIfInBounds_toArray, List.set_cons_zero, List.set_cons_succ]
        refine wpAnyH_take (i := 29) (v := .agg #[.string n', .int .u16 (k' : Nat), .int .u16 (c' : Nat), .int .u32 (t' : Nat), .string d']) rfl (by kernel_rfl) (by kernel_rfl) (by kernel_rfl) (fun _ _ _ h => h) (Or.inl ⟨by rfl, ?_⟩) (by assumption) ?_
        · (intro wq hSw; have e0 : wq.cell? ⟨(w.heap.size + 1), 0, none⟩ = some (.string n') := blk_cell hSw.two 0; have e1 : wq.cell? ⟨(w.heap.size + 1), 1, none⟩ = some (.int .u16 (k' : Nat)) := blk_cell hSw.two 1; have e2 : wq.cell? ⟨(w.heap.size + 1), 2, none⟩ = some (.int .u16 (c' : Nat)) := blk_cell hSw.two 2; have e3 : wq.cell? ⟨(w.heap.size + 1), 3, none⟩ = some (.int .u32 (t' : Nat)) := blk_cell hSw.two 3; have e4 : wq.cell? ⟨(w.heap.size + 1), 4, none⟩ = some (.string d') := blk_cell hSw.two 4; go_simp)
        simp only [Act.put, List.getElem_toArray, List.getElem_cons_zero, List.getElem_cons_succ, List.setIfInBounds_toArray, List.set_cons_zero, List.set_cons_succ]
        refine wpAnyH_ready (rs := [28]) (by kernel_rfl) (by simp) ?_
        refine AllReadyH.cons rfl (fun K hK => ?_) AllReadyH.nil
        go_simp
        go_wp2_with (go_at_call 10; refine Calls.mono (key_any _ _ _ _ _ _) ?_; rintro e v6 ⟨rfl, hb⟩)
        have HF6 := Lib.hid (HF.out.call hb)
        have HB6 := Lib.hid (HB.out.trans (hb.mono HB.out.size))
        clear HF HB hb hHeld
        have HF := HF6
        have HB := HB6
        clear HF6 HB6
        refine hK.out _ _ HF.out (fun hHeld => ?_)
        clear hK K
        refine wpAnyH_ready (rs := [30]) (by kernel_rfl) (by simp) ?_
        refine AllReadyH.cons rfl (fun K hK => ?_) AllReadyH.nil
        go_simp
        go_wp2_with (go_at_call 10; refine Calls.mono (key_any _ _ _ _ _ _) ?_; rintro e v7 ⟨rfl, hb⟩)
        have HF7 := Lib.hid (HF.out.call hb)
        have HB7 := Lib.hid (HB.out.trans (hb.mono HB.out.size))
        clear HF HB hb hHeld
        have HF := HF7
        have HB := HB7
        clear HF7 HB7
        refine hK.out _ _ HF.out (fun hHeld => ?_)
        clear hK K
        refine wpAnyH_take (i := 31) (v := .bool true) rfl (by kernel_rfl) (by kernel_rfl) (by kernel_rfl) (fun _ _ _ h => h) (Or.inl ⟨by rfl, ?_⟩) (by assumption) ?_
        · (intro wq hSw; have q := HQ.out; go_simp)
        simp only [Act.put, List.getElem_toArray, List.getElem_cons_zero, List.getElem_cons_succ, List.setIfInBounds_toArray, List.set_cons_zero, List.set_cons_succ]
        refine wpAnyH_take (i := 32) (v := ?_) rfl (by kernel_rfl) (by kernel_rfl) (by kernel_rfl) (fun _ _ _ h => h) (Or.inl ⟨by rfl, ?_⟩) (by assumption) ?_
        rotate_left
        · (intro wq hSw; go_simp; try (with_reducible rfl))
        simp only [Act.put, List.getElem_toArray, List.getElem_cons_zero, List.getElem_cons_succ, List.setIfInBounds_toArray, List.set_cons_zero, List.set_cons_succ]
        refine wpAnyH_take (i := 33) (v := ?_) rfl (by kernel_rfl) (by kernel_rfl) (by kernel_rfl) (fun _ _ _ h => h) (Or.inl ⟨by rfl, ?_⟩) (by assumption) ?_
        rotate_left
        · (intro wq hSw; go_simp; try (with_reducible rfl))
        simp only [Act.put, List.getElem_toArray, List.getElem_cons_zero, List.getElem_cons_succ, List.setIfInBounds_toArray, List.set_cons_zero, List.set_cons_succ]
        refine wpAnyH_take (i := 34) (v := ?_) rfl (by kernel_rfl) (by kernel_rfl) (by kernel_rfl) (fun _ _ _ h => h) (Or.inl ⟨by rfl, ?_⟩) (by assumption) ?_
        rotate_left
        · (intro wq hSw; go_simp; try (with_reducible rfl))
        simp only [Act.put, List.getElem_toArray, List.getElem_cons_zero, List.getElem_cons_succ, List.setIfInBounds_toArray, List.set_cons_zero, List.set_cons_succ]
        refine wpAnyH_take (i := 35) (v := .agg #[.string n, .int .u16 (k : Nat), .int .u16 (c : Nat), .int .u32 (t : Nat), .string d]) rfl (by kernel_rfl) (by kernel_rfl) (by kernel_rfl) (fun _ _ _ h => h) (Or.inl ⟨by rfl, ?_⟩) (by assumption) ?_
        · (intro wq hSw; have e0 : wq.cell? ⟨w.heap.size, 0, none⟩ = some (.string n) := blk_cell hSw.one 0; have e1 : wq.cell? ⟨w.heap.size, 1, none⟩ = some (.int .u16 (k : Nat)) := blk_cell hSw.one 1; have e2 : wq.cell? ⟨w.heap.size, 2, none⟩ = some (.int .u16 (c : Nat)) := blk_cell hSw.one 2; have e3 : wq.cell? ⟨w.heap.size, 3, none⟩ = some (.int .u32 (t : Nat)) := blk_cell hSw.one 3; have e4 : wq.cell? ⟨w.heap.size, 4, none⟩ = some (.string d) := blk_cell hSw.one 4; go_simp)
        simp only [Act.put, List.getElem_toArray, List.getElem_cons_zero, List.getElem_cons_succ, List.setIfInBounds_toArray, List.set_cons_zero, List.set_cons_succ]
        refine wpAnyH_take (i := 37) (v := .agg #[.string n, .int .u16 (k : Nat), .int .u16 (c : Nat), .int .u32 (u : Nat), .string d]) rfl (by kernel_rfl) (by kernel_rfl) (by kernel_rfl) (fun _ _ _ h => h) (Or.inl ⟨by rfl, ?_⟩) (by assumption) ?_
        · (intro wq hSw; have e0 : wq.cell? ⟨w3.heap.size, 0, none⟩ = some (.string n) := blk_cell hSw.tri 0; have e1 : wq.cell? ⟨w3.heap.size, 1, none⟩ = some (.int .u16 (k : Nat)) := blk_cell hSw.tri 1; have e2 : wq.cell? ⟨w3.heap.size, 2, none⟩ = some (.int .u16 (c : Nat)) := blk_cell hSw.tri 2; have e3 : wq.cell? ⟨w3.heap.size, 3, none⟩ = some (.int .u32 (u : Nat)) := blk_cell hSw.tri 3; have e4 : wq.cell? ⟨w3.heap.size, 4, none⟩ = some (.string d) := blk_cell hSw.tri 4; go_simp)
        simp only [Act.put, List.getElem_toArray, List.getElem_cons_zero, List.getElem_cons_succ, List.setIfInBounds_toArray, List.set_cons_zero, List.set_cons_succ]
        refine wpAnyH_ready (rs := [36]) (by kernel_rfl) (by simp) ?_
        refine AllReadyH.cons rfl (fun K hK => ?_) AllReadyH.nil
        go_simp
        go_wp2_with (go_at_call 15; refine Calls.mono (HMt.out _ (HL.out.below H0.out HB.out)) ?_; rintro e v8 ⟨rfl, hb⟩)
        have HF8 := Lib.hid (HF.out.call hb)
        have HB8 := Lib.hid (HB.out.trans (hb.mono HB.out.size))
        clear HF HB hb hHeld
        have HF := HF8
        have HB := HB8
        clear HF8 HB8
        refine hK.out _ _ HF.out (fun hHeld => ?_)
        clear hK K
        refine wpAnyH_ready (rs := [38]) (by kernel_rfl) (by simp) ?_
        refine AllReadyH.cons rfl (fun K hK => ?_) AllReadyH.nil
        go_simp
        go_wp2_with (go_at_call 15; refine Calls.mono (HMu.out _ (HL.out.below H0.out HB.out)) ?_; rintro e v9 ⟨rfl, hb⟩)
        have HF9 := Lib.hid (HF.out.call hb)
        have HB9 := Lib.hid (HB.out.trans (hb.mono HB.out.size))
        clear HF HB hb hHeld
        have HF := HF9
        have HB := HB9
        clear HF9 HB9
        refine hK.out _ _ HF.out (fun hHeld => ?_)
        clear hK K
        refine wpAnyH_take (i := 39) (v := ?_) rfl (by kernel_rfl) (by kernel_rfl) (by kernel_rfl) (fun _ _ _ h => h) (Or.inl ⟨by rfl, ?_⟩) (by assumption) ?_
        rotate_left
        · (intro wq hSw; go_simp; try (with_reducible rfl))
        simp only [Act.put, List.getElem_toArray, List.getElem_cons_zero, List.getElem_cons_succ, List.setIfInBounds_toArray, List.set_cons_zero, List.set_cons_succ]
        refine wpAnyH_take (i := 40) (v := ?_) rfl (by kernel_rfl) (by kernel_rfl) (by kernel_rfl) (fun _ _ _ h => h) (Or.inl ⟨by rfl, ?_⟩) (by assumption) ?_
        rotate_left
        · (intro wq hSw; go_simp; try (with_reducible rfl))
        simp only [Act.put, List.getElem_toArray, List.getElem_cons_zero, List.getElem_cons_succ, List.setIfInBounds_toArray, List.set_cons_zero, List.set_cons_succ]
        refine wpAnyH_take (i := 41) (v := ?_) rfl (by kernel_rfl) (by kernel_rfl) (by kernel_rfl) (fun _ _ _ h => h) (Or.inl ⟨by rfl, ?_⟩) (by assumption) ?_
        rotate_left
        · (intro wq hSw; go_simp; try (with_reducible rfl))
        simp only [Act.put, List.getElem_toArray, List.getElem_cons_zero, List.getElem_cons_succ, List.setIfInBounds_toArray, List.set_cons_zero, List.set_cons_succ]
        refine wpAnyH_done (by kernel_rfl) ?_ _

        go_wp2_with fail
        go_ret
        exact ⟨rfl, HB.out⟩
      | false =>
        have HE1 := Lib.hid (show ∀ w', Calls Tryd.prog 19 #[.agg #[.string n, .int .u16 (k : Nat), .int .u16 (c : Nat), .int .u32 (t : Nat), .string d], .agg #[.string n, .int .u16 (k : Nat), .int .u16 (c : Nat), .int .u32 (u : Nat), .string d]] w' (fun e w'' => e = .returned (.bool true) ∧ Below w'.heap.size w' w'') from fun w' => by have := same_any ⟨n, k, c, t, d⟩ ⟨n, k, c, u, d⟩ w'; rw [same_ttl] at this; exact this)
        have HE2 := Lib.hid (show ∀ w', Calls Tryd.prog 19 #[.agg #[.string n, .int .u16 (k : Nat), .int .u16 (c : Nat), .int .u32 (t : Nat), .string d], .agg #[.string n, .int .u16 (k : Nat), .int .u16 (c : Nat), .int .u32 (t : Nat), .string (d ++ ⟨#[120]⟩)]] w' (fun e w'' => e = .returned (.bool false) ∧ Below w'.heap.size w' w'') from fun w' => by have := same_any ⟨n, k, c, t, d⟩ ⟨n, k, c, t, d ++ ⟨#[120]⟩⟩ w'; rw [same_more] at this; exact this)
        have HE3 := Lib.hid (show ∀ w', Calls Tryd.prog 19 #[.agg #[.string n, .int .u16 (k : Nat), .int .u16 (c : Nat), .int .u32 (t : Nat), .string d], .agg #[.string n', .int .u16 (k' : Nat), .int .u16 (c' : Nat), .int .u32 (t' : Nat), .string d']] w' (fun e w'' => e = .returned (.bool false) ∧ Below w'.heap.size w' w'') from fun w' => by have := same_any ⟨n, k, c, t, d⟩ ⟨n', k', c', t', d'⟩ w'; rw [hsm] at this; exact this)
        have HE4 := Lib.hid (show ∀ w', Calls Tryd.prog 19 #[.agg #[.string n', .int .u16 (k' : Nat), .int .u16 (c' : Nat), .int .u32 (t' : Nat), .string d'], .agg #[.string n, .int .u16 (k : Nat), .int .u16 (c : Nat), .int .u32 (t : Nat), .string d]] w' (fun e w'' => e = .returned (.bool false) ∧ Below w'.heap.size w' w'') from fun w' => by have := same_any ⟨n', k', c', t', d'⟩ ⟨n, k, c, t, d⟩ w'; rw [same_sym, hsm] at this; exact this)
        clear hsm
        refine wpAnyH_take (i := 0) (v := ?_) rfl (by kernel_rfl) (by kernel_rfl) (by kernel_rfl) (fun _ _ _ h => h) (Or.inl ⟨by rfl, ?_⟩) (by assumption) ?_
        rotate_left
        · (intro wq hSw; go_simp; try (with_reducible rfl))
        simp only [Act.put, List.getElem_toArray, List.getElem_cons_zero, List.setIfInBounds_toArray, List.set_cons_zero, List.set_cons_succ]
        refine wpAnyH_take (i := 1) (v := ?_) rfl (by kernel_rfl) (by kernel_rfl) (by kernel_rfl) (fun _ _ _ h => h) (Or.inl ⟨by rfl, ?_⟩) (by assumption) ?_
        rotate_left
        · (intro wq hSw; go_simp; try (with_reducible rfl))
        simp only [Act.put, List.getElem_toArray, List.getElem_cons_zero, List.getElem_cons_succ, List.setIfInBounds_toArray, List.set_cons_zero, List.set_cons_succ]
        refine wpAnyH_take (i := 2) (v := .agg #[.string n, .int .u16 (k : Nat), .int .u16 (c : Nat), .int .u32 (t : Nat), .string d]) rfl (by kernel_rfl) (by kernel_rfl) (by kernel_rfl) (fun _ _ _ h => h) (Or.inl ⟨by rfl, ?_⟩) (by assumption) ?_
        · (intro wq hSw; have e0 : wq.cell? ⟨w.heap.size, 0, none⟩ = some (.string n) := blk_cell hSw.one 0; have e1 : wq.cell? ⟨w.heap.size, 1, none⟩ = some (.int .u16 (k : Nat)) := blk_cell hSw.one 1; have e2 : wq.cell? ⟨w.heap.size, 2, none⟩ = some (.int .u16 (c : Nat)) := blk_cell hSw.one 2; have e3 : wq.cell? ⟨w.heap.size, 3, none⟩ = some (.int .u32 (t : Nat)) := blk_cell hSw.one 3; have e4 : wq.cell? ⟨w.heap.size, 4, none⟩ = some (.string d) := blk_cell hSw.one 4; go_simp)
        simp only [Act.put, List.getElem_toArray, List.getElem_cons_zero, List.getElem_cons_succ, List.setIfInBounds_toArray, List.set_cons_zero, List.set_cons_succ]
        refine wpAnyH_take (i := 3) (v := .agg #[.string n, .int .u16 (k : Nat), .int .u16 (c : Nat), .int .u32 (u : Nat), .string d]) rfl (by kernel_rfl) (by kernel_rfl) (by kernel_rfl) (fun _ _ _ h => h) (Or.inl ⟨by rfl, ?_⟩) (by assumption) ?_
        · (intro wq hSw; have e0 : wq.cell? ⟨w3.heap.size, 0, none⟩ = some (.string n) := blk_cell hSw.tri 0; have e1 : wq.cell? ⟨w3.heap.size, 1, none⟩ = some (.int .u16 (k : Nat)) := blk_cell hSw.tri 1; have e2 : wq.cell? ⟨w3.heap.size, 2, none⟩ = some (.int .u16 (c : Nat)) := blk_cell hSw.tri 2; have e3 : wq.cell? ⟨w3.heap.size, 3, none⟩ = some (.int .u32 (u : Nat)) := blk_cell hSw.tri 3; have e4 : wq.cell? ⟨w3.heap.size, 4, none⟩ = some (.string d) := blk_cell hSw.tri 4; go_simp)
        simp only [Act.put, List.getElem_toArray, List.getElem_cons_zero, List.getElem_cons_succ, List.setIfInBounds_toArray, List.set_cons_zero, List.set_cons_succ]
        refine wpAnyH_ready (rs := [4]) (by kernel_rfl) (by simp) ?_
        refine AllReadyH.cons rfl (fun K hK => ?_) AllReadyH.nil
        go_simp
        go_wp2_with (go_at_call 19; refine Calls.mono (HE1.out _) ?_; rintro e v1 ⟨rfl, hb⟩)
        have HF1 := Lib.hid (HF.out.call hb)
        have HB1 := Lib.hid (HB.out.trans (hb.mono HB.out.size))
        clear HF HB hb hHeld
        have HF := HF1
        have HB := HB1
        clear HF1 HB1
        refine hK.out _ _ HF.out (fun hHeld => ?_)
        clear hK K
        refine wpAnyH_take (i := 5) (v := ?_) rfl (by kernel_rfl) (by kernel_rfl) (by kernel_rfl) (fun _ _ _ h => h) (Or.inl ⟨by rfl, ?_⟩) (by assumption) ?_
        rotate_left
        · (intro wq hSw; go_simp; try (with_reducible rfl))
        simp only [Act.put, List.getElem_toArray, List.getElem_cons_zero, List.getElem_cons_succ, List.setIfInBounds_toArray, List.set_cons_zero, List.set_cons_succ]
        refine wpAnyH_take (i := 6) (v := ?_) rfl (by kernel_rfl) (by kernel_rfl) (by kernel_rfl) (fun _ _ _ h => h) (Or.inl ⟨by rfl, ?_⟩) (by assumption) ?_
        rotate_left
        · (intro wq hSw; go_simp; try (with_reducible rfl))
        simp only [Act.put, List.getElem_toArray, List.getElem_cons_zero, List.getElem_cons_succ, List.setIfInBounds_toArray, List.set_cons_zero, List.set_cons_succ]
        refine wpAnyH_take (i := 7) (v := .agg #[.string n, .int .u16 (k : Nat), .int .u16 (c : Nat), .int .u32 (t : Nat), .string d]) rfl (by kernel_rfl) (by kernel_rfl) (by kernel_rfl) (fun _ _ _ h => h) (Or.inl ⟨by rfl, ?_⟩) (by assumption) ?_
        · (intro wq hSw; have e0 : wq.cell? ⟨w.heap.size, 0, none⟩ = some (.string n) := blk_cell hSw.one 0; have e1 : wq.cell? ⟨w.heap.size, 1, none⟩ = some (.int .u16 (k : Nat)) := blk_cell hSw.one 1; have e2 : wq.cell? ⟨w.heap.size, 2, none⟩ = some (.int .u16 (c : Nat)) := blk_cell hSw.one 2; have e3 : wq.cell? ⟨w.heap.size, 3, none⟩ = some (.int .u32 (t : Nat)) := blk_cell hSw.one 3; have e4 : wq.cell? ⟨w.heap.size, 4, none⟩ = some (.string d) := blk_cell hSw.one 4; go_simp)
        simp only [Act.put, List.getElem_toArray, List.getElem_cons_zero, List.getElem_cons_succ, List.setIfInBounds_toArray, List.set_cons_zero, List.set_cons_succ]
        refine wpAnyH_take (i := 8) (v := .agg #[.string n, .int .u16 (k : Nat), .int .u16 (c : Nat), .int .u32 (t : Nat), .string (d ++ ⟨#[120]⟩)]) rfl (by kernel_rfl) (by kernel_rfl) (by kernel_rfl) (fun _ _ _ h => h) (Or.inl ⟨by rfl, ?_⟩) (by assumption) ?_
        · (intro wq hSw; have e0 : wq.cell? ⟨w5.heap.size, 0, none⟩ = some (.string n) := blk_cell hSw.qua 0; have e1 : wq.cell? ⟨w5.heap.size, 1, none⟩ = some (.int .u16 (k : Nat)) := blk_cell hSw.qua 1; have e2 : wq.cell? ⟨w5.heap.size, 2, none⟩ = some (.int .u16 (c : Nat)) := blk_cell hSw.qua 2; have e3 : wq.cell? ⟨w5.heap.size, 3, none⟩ = some (.int .u32 (t : Nat)) := blk_cell hSw.qua 3; have e4 : wq.cell? ⟨w5.heap.size, 4, none⟩ = some (.string (d ++ ⟨#[120]⟩)) := blk_cell hSw.qua 4; go_simp)
        simp only [Act.put, List.getElem_toArray, List.getElem_cons_zero, List.getElem_cons_succ, List.setIfInBounds_toArray, List.set_cons_zero, List.set_cons_succ]
        refine wpAnyH_ready (rs := [9]) (by kernel_rfl) (by simp) ?_
        refine AllReadyH.cons rfl (fun K hK => ?_) AllReadyH.nil
        go_simp
        go_wp2_with (go_at_call 19; refine Calls.mono (HE2.out _) ?_; rintro e v2 ⟨rfl, hb⟩)
        have HF2 := Lib.hid (HF.out.call hb)
        have HB2 := Lib.hid (HB.out.trans (hb.mono HB.out.size))
        clear HF HB hb hHeld
        have HF := HF2
        have HB := HB2
        clear HF2 HB2
        refine hK.out _ _ HF.out (fun hHeld => ?_)
        clear hK K
        refine wpAnyH_take (i := 10) (v := ?_) rfl (by kernel_rfl) (by kernel_rfl) (by kernel_rfl) (fun _ _ _ h => h) (Or.inl ⟨by rfl, ?_⟩) (by assumption) ?_
        rotate_left
        · (intro wq hSw; go_simp; try (with_reducible rfl))
        simp only [Act.put, List.getElem_toArray, List.getElem_cons_zero, List.getElem_cons_succ, List.setIfInBounds_toArray, List.set_cons_zero, List.set_cons_succ]
        refine wpAnyH_take (i := 11) (v := ?_) rfl (by kernel_rfl) (by kernel_rfl) (by kernel_rfl) (fun _ _ _ h => h) (Or.inl ⟨by rfl, ?_⟩) (by assumption) ?_
        rotate_left
        · (intro wq hSw; go_simp; try (with_reducible rfl))
        simp only [Act.put, List.getElem_toArray, List.getElem_cons_zero, List.getElem_cons_succ, List.setIfInBounds_toArray, List.set_cons_zero, List.set_cons_succ]
        refine wpAnyH_take (i := 12) (v := ?_) rfl (by kernel_rfl) (by kernel_rfl) (by kernel_rfl) (fun _ _ _ h => h) (Or.inl ⟨by rfl, ?_⟩) (by assumption) ?_
        rotate_left
        · (intro wq hSw; go_simp; try (with_reducible rfl))
        simp only [Act.put, List.getElem_toArray, List.getElem_cons_zero, List.getElem_cons_succ, List.setIfInBounds_toArray, List.set_cons_zero, List.set_cons_succ]
        refine wpAnyH_take (i := 13) (v := .agg #[.string n, .int .u16 (k : Nat), .int .u16 (c : Nat), .int .u32 (t : Nat), .string d]) rfl (by kernel_rfl) (by kernel_rfl) (by kernel_rfl) (fun _ _ _ h => h) (Or.inl ⟨by rfl, ?_⟩) (by assumption) ?_
        · (intro wq hSw; have e0 : wq.cell? ⟨w.heap.size, 0, none⟩ = some (.string n) := blk_cell hSw.one 0; have e1 : wq.cell? ⟨w.heap.size, 1, none⟩ = some (.int .u16 (k : Nat)) := blk_cell hSw.one 1; have e2 : wq.cell? ⟨w.heap.size, 2, none⟩ = some (.int .u16 (c : Nat)) := blk_cell hSw.one 2; have e3 : wq.cell? ⟨w.heap.size, 3, none⟩ = some (.int .u32 (t : Nat)) := blk_cell hSw.one 3; have e4 : wq.cell? ⟨w.heap.size, 4, none⟩ = some (.string d) := blk_cell hSw.one 4; go_simp)
        simp only [Act.put, List.getElem_toArray, List.getElem_cons_zero, List.getElem_cons_succ, List.setIfInBounds_toArray, List.set_cons_zero, List.set_cons_succ]
        refine wpAnyH_take (i := 14) (v := .agg #[.string n', .int .u16 (k' : Nat), .int .u16 (c' : Nat), .int .u32 (t' : Nat), .string d']) rfl (by kernel_rfl) (by kernel_rfl) (by kernel_rfl) (fun _ _ _ h => h) (Or.inl ⟨by rfl, ?_⟩) (by assumption) ?_
        · (intro wq hSw; have e0 : wq.cell? ⟨(w.heap.size + 1), 0, none⟩ = some (.string n') := blk_cell hSw.two 0; have e1 : wq.cell? ⟨(w.heap.size + 1), 1, none⟩ = some (.int .u16 (k' : Nat)) := blk_cell hSw.two 1; have e2 : wq.cell? ⟨(w.heap.size + 1), 2, none⟩ = some (.int .u16 (c' : Nat)) := blk_cell hSw.two 2; have e3 : wq.cell? ⟨(w.heap.size + 1), 3, none⟩ = some (.int .u32 (t' : Nat)) := blk_cell hSw.two 3; have e4 : wq.cell? ⟨(w.heap.size + 1), 4, none⟩ = some (.string d') := blk_cell hSw.two 4; go_simp)
        simp only [Act.put, List.getElem_toArray, List.getElem_cons_zero, List.getElem_cons_succ, List.setIfInBounds_toArray, List.set_cons_zero, List.set_cons_succ]
        refine wpAnyH_take (i := 16) (v := .agg #[.string n', .int .u16 (k' : Nat), .int .u16 (c' : Nat), .int .u32 (t' : Nat), .string d']) rfl (by kernel_rfl) (by kernel_rfl) (by kernel_rfl) (fun _ _ _ h => h) (Or.inl ⟨by rfl, ?_⟩) (by assumption) ?_
        · (intro wq hSw; have e0 : wq.cell? ⟨(w.heap.size + 1), 0, none⟩ = some (.string n') := blk_cell hSw.two 0; have e1 : wq.cell? ⟨(w.heap.size + 1), 1, none⟩ = some (.int .u16 (k' : Nat)) := blk_cell hSw.two 1; have e2 : wq.cell? ⟨(w.heap.size + 1), 2, none⟩ = some (.int .u16 (c' : Nat)) := blk_cell hSw.two 2; have e3 : wq.cell? ⟨(w.heap.size + 1), 3, none⟩ = some (.int .u32 (t' : Nat)) := blk_cell hSw.two 3; have e4 : wq.cell? ⟨(w.heap.size + 1), 4, none⟩ = some (.string d') := blk_cell hSw.two 4; go_simp)
        simp only [Act.put, List.getElem_toArray, List.getElem_cons_zero, List.getElem_cons_succ, List.setIfInBounds_toArray, List.set_cons_zero, List.set_cons_succ]
        refine wpAnyH_take (i := 17) (v := .agg #[.string n, .int .u16 (k : Nat), .int .u16 (c : Nat), .int .u32 (t : Nat), .string d]) rfl (by kernel_rfl) (by kernel_rfl) (by kernel_rfl) (fun _ _ _ h => h) (Or.inl ⟨by rfl, ?_⟩) (by assumption) ?_
        · (intro wq hSw; have e0 : wq.cell? ⟨w.heap.size, 0, none⟩ = some (.string n) := blk_cell hSw.one 0; have e1 : wq.cell? ⟨w.heap.size, 1, none⟩ = some (.int .u16 (k : Nat)) := blk_cell hSw.one 1; have e2 : wq.cell? ⟨w.heap.size, 2, none⟩ = some (.int .u16 (c : Nat)) := blk_cell hSw.one 2; have e3 : wq.cell? ⟨w.heap.size, 3, none⟩ = some (.int .u32 (t : Nat)) := blk_cell hSw.one 3; have e4 : wq.cell? ⟨w.heap.size, 4, none⟩ = some (.string d) := blk_cell hSw.one 4; go_simp)
        simp only [Act.put, List.getElem_toArray, List.getElem_cons_zero, List.getElem_cons_succ, List.setIfInBounds_toArray, List.set_cons_zero, List.set_cons_succ]
        refine wpAnyH_ready (rs := [15]) (by kernel_rfl) (by simp) ?_
        refine AllReadyH.cons rfl (fun K hK => ?_) AllReadyH.nil
        go_simp
        go_wp2_with (go_at_call 19; refine Calls.mono (HE3.out _) ?_; rintro e v3 ⟨rfl, hb⟩)
        have HF3 := Lib.hid (HF.out.call hb)
        have HB3 := Lib.hid (HB.out.trans (hb.mono HB.out.size))
        clear HF HB hb hHeld
        have HF := HF3
        have HB := HB3
        clear HF3 HB3
        refine hK.out _ _ HF.out (fun hHeld => ?_)
        clear hK K
        refine wpAnyH_ready (rs := [18]) (by kernel_rfl) (by simp) ?_
        refine AllReadyH.cons rfl (fun K hK => ?_) AllReadyH.nil
        go_simp
        go_wp2_with (go_at_call 19; refine Calls.mono (HE4.out _) ?_; rintro e v4 ⟨rfl, hb⟩)
        have HF4 := Lib.hid (HF.out.call hb)
        have HB4 := Lib.hid (HB.out.trans (hb.mono HB.out.size))
        clear HF HB hb hHeld
        have HF := HF4
        have HB := HB4
        clear HF4 HB4
        refine hK.out _ _ HF.out (fun hHeld => ?_)
        clear hK K
        refine wpAnyH_take (i := 19) (v := ?_) rfl (by kernel_rfl) (by kernel_rfl) (by kernel_rfl) (fun _ _ _ h => h) (Or.inl ⟨by rfl, ?_⟩) (by assumption) ?_
        rotate_left
        · (intro wq hSw; go_simp; try (with_reducible rfl))
        simp only [Act.put, List.getElem_toArray, List.getElem_cons_zero, List.getElem_cons_succ, List.setIfInBounds_toArray, List.set_cons_zero, List.set_cons_succ]
        refine wpAnyH_take (i := 20) (v := ?_) rfl (by kernel_rfl) (by kernel_rfl) (by kernel_rfl) (fun _ _ _ h => h) (Or.inl ⟨by rfl, ?_⟩) (by assumption) ?_
        rotate_left
        · (intro wq hSw; go_simp; try (with_reducible rfl))
        simp only [Act.put, List.getElem_toArray, List.getElem_cons_zero, List.getElem_cons_succ, List.setIfInBounds_toArray, List.set_cons_zero, List.set_cons_succ]
        refine wpAnyH_take (i := 21) (v := ?_) rfl (by kernel_rfl) (by kernel_rfl) (by kernel_rfl) (fun _ _ _ h => h) (Or.inl ⟨by rfl, ?_⟩) (by assumption) ?_
        rotate_left
        · (intro wq hSw; go_simp; try (with_reducible rfl))
        simp only [Act.put, List.getElem_toArray, List.getElem_cons_zero, List.getElem_cons_succ, List.setIfInBounds_toArray, List.set_cons_zero, List.set_cons_succ]
        refine wpAnyH_take (i := 22) (v := .agg #[.string n, .int .u16 (k : Nat), .int .u16 (c : Nat), .int .u32 (t : Nat), .string d]) rfl (by kernel_rfl) (by kernel_rfl) (by kernel_rfl) (fun _ _ _ h => h) (Or.inl ⟨by rfl, ?_⟩) (by assumption) ?_
        · (intro wq hSw; have e0 : wq.cell? ⟨w.heap.size, 0, none⟩ = some (.string n) := blk_cell hSw.one 0; have e1 : wq.cell? ⟨w.heap.size, 1, none⟩ = some (.int .u16 (k : Nat)) := blk_cell hSw.one 1; have e2 : wq.cell? ⟨w.heap.size, 2, none⟩ = some (.int .u16 (c : Nat)) := blk_cell hSw.one 2; have e3 : wq.cell? ⟨w.heap.size, 3, none⟩ = some (.int .u32 (t : Nat)) := blk_cell hSw.one 3; have e4 : wq.cell? ⟨w.heap.size, 4, none⟩ = some (.string d) := blk_cell hSw.one 4; go_simp)
        simp only [Act.put, List.getElem_toArray, List.getElem_cons_zero, List.getElem_cons_succ, List.setIfInBounds_toArray, List.set_cons_zero, List.set_cons_succ]
        refine wpAnyH_take (i := 23) (v := .agg #[.string n', .int .u16 (k' : Nat), .int .u16 (c' : Nat), .int .u32 (t' : Nat), .string d']) rfl (by kernel_rfl) (by kernel_rfl) (by kernel_rfl) (fun _ _ _ h => h) (Or.inl ⟨by rfl, ?_⟩) (by assumption) ?_
        · (intro wq hSw; have e0 : wq.cell? ⟨(w.heap.size + 1), 0, none⟩ = some (.string n') := blk_cell hSw.two 0; have e1 : wq.cell? ⟨(w.heap.size + 1), 1, none⟩ = some (.int .u16 (k' : Nat)) := blk_cell hSw.two 1; have e2 : wq.cell? ⟨(w.heap.size + 1), 2, none⟩ = some (.int .u16 (c' : Nat)) := blk_cell hSw.two 2; have e3 : wq.cell? ⟨(w.heap.size + 1), 3, none⟩ = some (.int .u32 (t' : Nat)) := blk_cell hSw.two 3; have e4 : wq.cell? ⟨(w.heap.size + 1), 4, none⟩ = some (.string d') := blk_cell hSw.two 4; go_simp)
        simp only [Act.put, List.getElem_toArray, List.getElem_cons_zero, List.getElem_cons_succ, List.setIfInBounds_toArray, List.set_cons_zero, List.set_cons_succ]
        refine wpAnyH_ready (rs := [24]) (by kernel_rfl) (by simp) ?_
        refine AllReadyH.cons rfl (fun K hK => ?_) AllReadyH.nil
        go_simp
        go_wp2_with (go_at_call 19; refine Calls.mono (HE3.out _) ?_; rintro e v5 ⟨rfl, hb⟩)
        have HF5 := Lib.hid (HF.out.call hb)
        have HB5 := Lib.hid (HB.out.trans (hb.mono HB.out.size))
        clear HF HB hb hHeld
        have HF := HF5
        have HB := HB5
        clear HF5 HB5
        refine hK.out _ _ HF.out (fun hHeld => ?_)
        clear hK K
        refine wpAnyH_take (i := 25) (v := ?_) rfl (by kernel_rfl) (by kernel_rfl) (by kernel_rfl) (fun _ _ _ h => h) (Or.inl ⟨by rfl, ?_⟩) (by assumption) ?_
        rotate_left
        · (intro wq hSw; go_simp; try (with_reducible rfl))
        simp only [Act.put, List.getElem_toArray, List.getElem_cons_zero, List.getElem_cons_succ, List.setIfInBounds_toArray, List.set_cons_zero, List.set_cons_succ]
        refine wpAnyH_take (i := 26) (v := ?_) rfl (by kernel_rfl) (by kernel_rfl) (by kernel_rfl) (fun _ _ _ h => h) (Or.inl ⟨by rfl, ?_⟩) (by assumption) ?_
        rotate_left
        · (intro wq hSw; go_simp; try (with_reducible rfl))
        simp only [Act.put, List.getElem_toArray, List.getElem_cons_zero, List.getElem_cons_succ, List.setIfInBounds_toArray, List.set_cons_zero, List.set_cons_succ]
        refine wpAnyH_take (i := 27) (v := undef) rfl (by kernel_rfl) (by kernel_rfl) (by kernel_rfl) (fun _ _ _ h => h) (Or.inr ⟨by rfl, rfl⟩) (by assumption) ?_
        simp only [Act.put, List.getElem_toArray, List.getElem_cons_zero, List.getElem_cons_succ, List.setIfInBounds_toArray, List.set_cons_zero, List.set_cons_succ]
        refine wpAnyH_take (i := 28) (v := undef) rfl (by kernel_rfl) (by kernel_rfl) (by kernel_rfl) (fun _ _ _ h => h) (Or.inr ⟨by rfl, rfl⟩) (by assumption) ?_
        simp only [Act.put, List.getElem_toArray, List.getElem_cons_zero, List.getElem_cons_succ, List.setIfInBounds_toArray, List.set_cons_zero, List.set_cons_succ]
        refine wpAnyH_take (i := 29) (v := undef) rfl (by kernel_rfl) (by kernel_rfl) (by kernel_rfl) (fun _ _ _ h => h) (Or.inr ⟨by rfl, rfl⟩) (by assumption) ?_
        simp only [Act.put, List.getElem_toArray, List.getElem_cons_zero, List.getElem_cons_succ, List.setIfInBounds_toArray, List.set_cons_zero, List.set_cons_succ]
        refine wpAnyH_take (i := 30) (v := undef) rfl (by kernel_rfl) (by kernel_rfl) (by kernel_rfl) (fun _ _ _ h => h) (Or.inr ⟨by rfl, rfl⟩) (by assumption) ?_
        simp only [Act.put, List.getElem_toArray, List.getElem_cons_zero, List.getElem_cons_succ, List.setIfInBounds_toArray, List.set_cons_zero, List.set_cons_succ]
        refine wpAnyH_take (i := 31) (v := undef) rfl (by kernel_rfl) (by kernel_rfl) (by kernel_rfl) (fun _ _ _ h => h) (Or.inr ⟨by rfl, rfl⟩) (by assumption) ?_
        simp only [Act.put, List.getElem_toArray, List.getElem_cons_zero, List.getElem_cons_succ, List.setIfInBounds_toArray, List.set_cons_zero, List.set_cons_succ]
        refine wpAnyH_take (i := 32) (v := ?_) rfl (by kernel_rfl) (by kernel_rfl) (by kernel_rfl) (fun _ _ _ h => h) (Or.inl ⟨by rfl, ?_⟩) (by assumption) ?_
        rotate_left
        · (intro wq hSw; go_simp; try (with_reducible rfl))
        simp only [Act.put, List.getElem_toArray, List.getElem_cons_zero, List.getElem_cons_succ, List.setIfInBounds_toArray, List.set_cons_zero, List.set_cons_succ]
        refine wpAnyH_take (i := 33) (v := ?_) rfl (by kernel_rfl) (by kernel_rfl) (by kernel_rfl) (fun _ _ _ h => h) (Or.inl ⟨by rfl, ?_⟩) (by assumption) ?_
        rotate_left
        · (intro wq hSw; go_simp; try (with_reducible rfl))
        simp only [Act.put, List.getElem_toArray, List.getElem_cons_zero, List.getElem_cons_succ, List.setIfInBounds_toArray, List.set_cons_zero, List.set_cons_succ]
        refine wpAnyH_take (i := 34) (v := ?_) rfl (by kernel_rfl) (by kernel_rfl) (by kernel_rfl) (fun _ _ _ h => h) (Or.inl ⟨by rfl, ?_⟩) (by assumption) ?_
        rotate_left
        · (intro wq hSw; go_simp; try (with_reducible rfl))
        simp only [Act.put, List.getElem_toArray, List.getElem_cons_zero, List.getElem_cons_succ, List.setIfInBounds_toArray, List.set_cons_zero, List.set_cons_succ]
        refine wpAnyH_take (i := 35) (v := .agg #[.string n, .int .u16 (k : Nat), .int .u16 (c : Nat), .int .u32 (t : Nat), .string d]) rfl (by kernel_rfl) (by kernel_rfl) (by kernel_rfl) (fun _ _ _ h => h) (Or.inl ⟨by rfl, ?_⟩) (by assumption) ?_
        · (intro wq hSw; have e0 : wq.cell? ⟨w.heap.size, 0, none⟩ = some (.string n) := blk_cell hSw.one 0; have e1 : wq.cell? ⟨w.heap.size, 1, none⟩ = some (.int .u16 (k : Nat)) := blk_cell hSw.one 1; have e2 : wq.cell? ⟨w.heap.size, 2, none⟩ = some (.int .u16 (c : Nat)) := blk_cell hSw.one 2; have e3 : wq.cell? ⟨w.heap.size, 3, none⟩ = some (.int .u32 (t : Nat)) := blk_cell hSw.one 3; have e4 : wq.cell? ⟨w.heap.size, 4, none⟩ = some (.string d) := blk_cell hSw.one 4; go_simp)
        simp only [Act.put, List.getElem_toArray, List.getElem_cons_zero, List.getElem_cons_succ, List.setIfInBounds_toArray, List.set_cons_zero, List.set_cons_succ]
        refine wpAnyH_take (i := 37) (v := .agg #[.string n, .int .u16 (k : Nat), .int .u16 (c : Nat), .int .u32 (u : Nat), .string d]) rfl (by kernel_rfl) (by kernel_rfl) (by kernel_rfl) (fun _ _ _ h => h) (Or.inl ⟨by rfl, ?_⟩) (by assumption) ?_
        · (intro wq hSw; have e0 : wq.cell? ⟨w3.heap.size, 0, none⟩ = some (.string n) := blk_cell hSw.tri 0; have e1 : wq.cell? ⟨w3.heap.size, 1, none⟩ = some (.int .u16 (k : Nat)) := blk_cell hSw.tri 1; have e2 : wq.cell? ⟨w3.heap.size, 2, none⟩ = some (.int .u16 (c : Nat)) := blk_cell hSw.tri 2; have e3 : wq.cell? ⟨w3.heap.size, 3, none⟩ = some (.int .u32 (u : Nat)) := blk_cell hSw.tri 3; have e4 : wq.cell? ⟨w3.heap.size, 4, none⟩ = some (.string d) := blk_cell hSw.tri 4; go_simp)
        simp only [Act.put, List.getElem_toArray, List.getElem_cons_zero, List.getElem_cons_succ, List.setIfInBounds_toArray, List.set_cons_zero, List.set_cons_succ]
        refine wpAnyH_ready (rs := [36]) (by kernel_rfl) (by simp) ?_
        refine AllReadyH.cons rfl (fun K hK => ?_) AllReadyH.nil
        go_simp
        go_wp2_with (go_at_call 15; refine Calls.mono (HMt.out _ (HL.out.below H0.out HB.out)) ?_; rintro e v6 ⟨rfl, hb⟩)
        have HF6 := Lib.hid (HF.out.call hb)
        have HB6 := Lib.hid (HB.out.trans (hb.mono HB.out.size))
        clear HF HB hb hHeld
        have HF := HF6
        have HB := HB6
        clear HF6 HB6
        refine hK.out _ _ HF.out (fun hHeld => ?_)
        clear hK K
        refine wpAnyH_ready (rs := [38]) (by kernel_rfl) (by simp) ?_
        refine AllReadyH.cons rfl (fun K hK => ?_) AllReadyH.nil
        go_simp
        go_wp2_with (go_at_call 15; refine Calls.mono (HMu.out _ (HL.out.below H0.out HB.out)) ?_; rintro e v7 ⟨rfl, hb⟩)
        have HF7 := Lib.hid (HF.out.call hb)
        have HB7 := Lib.hid (HB.out.trans (hb.mono HB.out.size))
        clear HF HB hb hHeld
        have HF := HF7
        have HB := HB7
        clear HF7 HB7
        refine hK.out _ _ HF.out (fun hHeld => ?_)
        clear hK K
        refine wpAnyH_take (i := 39) (v := ?_) rfl (by kernel_rfl) (by kernel_rfl) (by kernel_rfl) (fun _ _ _ h => h) (Or.inl ⟨by rfl, ?_⟩) (by assumption) ?_
        rotate_left
        · (intro wq hSw; go_simp; try (with_reducible rfl))
        simp only [Act.put, List.getElem_toArray, List.getElem_cons_zero, List.getElem_cons_succ, List.setIfInBounds_toArray, List.set_cons_zero, List.set_cons_succ]
        refine wpAnyH_take (i := 40) (v := ?_) rfl (by kernel_rfl) (by kernel_rfl) (by kernel_rfl) (fun _ _ _ h => h) (Or.inl ⟨by rfl, ?_⟩) (by assumption) ?_
        rotate_left
        · (intro wq hSw; go_simp; try (with_reducible rfl))
        simp only [Act.put, List.getElem_toArray, List.getElem_cons_zero, List.getElem_cons_succ, List.setIfInBounds_toArray, List.set_cons_zero, List.set_cons_succ]
        refine wpAnyH_take (i := 41) (v := ?_) rfl (by kernel_rfl) (by kernel_rfl) (by kernel_rfl) (fun _ _ _ h => h) (Or.inl ⟨by rfl, ?_⟩) (by assumption) ?_
        rotate_left
        · (intro wq hSw; go_simp; try (with_reducible rfl))
        simp only [Act.put, List.getElem_toArray, List.getElem_cons_zero, List.getElem_cons_succ, List.setIfInBounds_toArray, List.set_cons_zero, List.set_cons_succ]
        refine wpAnyH_done (by kernel_rfl) ?_ _

        go_wp2_with fail
        go_ret
        exact ⟨rfl, HB.out⟩
theorem same_law (a b : Rc) (u : Nat) (ha : a.Ok) (hb : b.Ok) (hu : u < 4294967296) (w : World) (hL : Lay w) :
    Calls Tryd.prog 7 #[.agg #[.string a.n, .int .u16 (a.k : Nat), .int .u16 (a.c : Nat), .int .u32 (a.t : Nat), .string a.d], .agg #[.string b.n, .int .u16 (b.k : Nat), .int .u16 (b.c : Nat), .int .u32 (b.t : Nat), .string b.d], .int .u32 (u : Nat)] w fun e w' => e = .returned (.bool true) ∧ Below w.heap.size w w' :=
  same_walk a.n b.n a.d b.d a.k b.k a.c b.c a.t b.t u ha.k ha.c ha.t hu w hL
end Go.Proofs.YtlphbeaaeeohjaaDoor
