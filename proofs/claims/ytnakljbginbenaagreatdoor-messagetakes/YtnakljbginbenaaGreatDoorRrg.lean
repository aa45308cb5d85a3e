/- The contract of derrickref05.Take. -/
import Derived.Test.YtnakljbginbenaaGreatDoorRrf
import Derived.Deep.DeepCutAuto
namespace Go.Proofs.YtnakljbginbenaaGreatDoor
open Go.RowKit
set_option linter.unusedVariables false

theorem qE_two (s : ByteArray) (p : Int) : ((qE s p : Nat) : Int) = 0 ∨ ((qE s p : Nat) : Int) = 2 := by
  rcases q_cases s p with ⟨_, _, _, h⟩ | ⟨r, _, _, _, h, _⟩
  · right; rw [h]; rfl
  · left; rw [h]; rfl
theorem tdE_two (s : ByteArray) (p m : Int) (k : Nat) : tdE s p m k = 0 ∨ tdE s p m k = 2 := by
  unfold tdE
  cases tdO s p m k with
  | none => exact .inr rfl
  | some l => exact .inl rfl

set_option maxRecDepth 100000 in
set_option maxHeartbeats 2000000 in
theorem ftaker_any (s : ByteArray) (p : Int) (hs : s.size ≤ 1500) (hp : p ≤ maxLen) (w : World) :
    Calls Tryz.prog 71 #[.string s, .int .i64 p] w fun en w' => en = .returned (.tuple #[.agg #[.string (rR s p).n, .int .u16 ((rR s p).k : Nat), .int .u16 ((rR s p).c : Nat), .int .u32 ((rR s p).t : Nat), .string (rR s p).d], .int .i64 (rX s p : Nat), .int .i64 (rE s p : Nat)]) ∧ Below w.heap.size w w' := by
  obtain ⟨a1, a2, a3⟩ := r_parts s p
  rw [← a1, ← a2, ← a3]
  unfold dE dS dX
  have hk := (qR_ok s p).k
  have h1 := fun w' => ftakeq_any s p hs hp w'
  have h2 := fun w' => Oc.ru32_any s (qX s p : Nat) w' (by omega)
  have h3 := fun w' => Oc.ru16_any s (Oc.so s (qX s p : Nat) 4) w' (by omega)
  have h4 := fun w' => reftake_any s (Oc.so s (Oc.so s (qX s p : Nat) 4) 2) (Oc.un s (Oc.so s (qX s p : Nat) 4) 2) (qR s p).k hk hs w'
  have q1 := qE_two s p
  have q2 := se_two s (qX s p : Nat) 4
  have q3 := se_two s (Oc.so s (qX s p : Nat) 4) 2
  have q4 := tdE_two s (Oc.so s (Oc.so s (qX s p : Nat) 4) 2) (Oc.un s (Oc.so s (qX s p : Nat) 4) 2) (qR s p).k
  have hun := Oc.un_lt16 s (Oc.so s (qX s p : Nat) 4)
  have hso0 : 0 ≤ Oc.so s (Oc.so s (qX s p : Nat) 4) 2 ∧ Oc.so s (Oc.so s (qX s p : Nat) 4) 2 ≤ 1500 := by
    generalize Oc.so s (qX s p : Nat) 4 = y
    unfold Oc.so
    split
    · rename_i h; unfold Oc.okS at h; omega
    · omega
  clear a1 a2 a3
  generalize tdE s (Oc.so s (Oc.so s (qX s p : Nat) 4) 2) (Oc.un s (Oc.so s (qX s p : Nat) 4) 2) (qR s p).k = E4 at *
  generalize tdS s (Oc.so s (Oc.so s (qX s p : Nat) 4) 2) (Oc.un s (Oc.so s (qX s p : Nat) 4) 2) (qR s p).k = D at *
  generalize Oc.se s (Oc.so s (qX s p : Nat) 4) 2 = E3 at *
  generalize Oc.so s (Oc.so s (qX s p : Nat) 4) 2 = X3 at *
  generalize Oc.un s (Oc.so s (qX s p : Nat) 4) 2 = M at *
  generalize Oc.se s (qX s p : Nat) 4 = E2 at *
  generalize Oc.so s (qX s p : Nat) 4 = X2 at *
  generalize Oc.un s (qX s p : Nat) 4 = T at *
  generalize ((qE s p : Nat) : Int) = E1 at *
  generalize ((qX s p : Nat) : Int) = X1 at *
  generalize (qR s p).n = N at *
  generalize (qR s p).k = K at *
  generalize (((qR s p).c : Nat) : Int) = C at *
  have H1 := Lib.hid h1
  have H2 := Lib.hid h2
  have H3 := Lib.hid h3
  have H4 := Lib.hid h4
  have HN := Lib.hid (World.alloc_heap_new w (Obj.cells #[Value.string ⟨#[]⟩, .int .u16 0, .int .u16 0, .int .u32 0, .string ⟨#[]⟩] 46))
  have HA := Lib.hid ((Below.refl w.heap.size w).alloc (Nat.le_refl _) (Obj.cells #[Value.string ⟨#[]⟩, .int .u16 0, .int .u16 0, .int .u32 0, .string ⟨#[]⟩] 46))
  clear h1 h2 h3 h4
  rcases q1 with rfl | rfl
  · rcases q2 with rfl | rfl
    · rcases q3 with rfl | rfl
      · rcases q4 with rfl | rfl
        · simp only [if_true]
          go_enter Tryz.func71, Tryz.ntmps71
          go_wp2_with fail
          refine (H1.out _).mono ?_
          rintro e w1 ⟨rfl, hb1⟩
          have HN1 := Lib.hid ((hb1.block w.heap.size (by simp)).trans HN.out)
          have HA1 := Lib.hid (HA.out.trans (hb1.mono HA.out.size))
          clear hb1
          have HN2 := Lib.hid ((heapOld (w := w1) (Obj.cells #[Value.string N, .int .u16 (K : Nat), .int .u16 C] 48) (heap_lt HN1.out)).trans HN1.out)
          have HA2 := Lib.hid (HA1.out.alloc HA1.out.size (Obj.cells #[Value.string N, .int .u16 (K : Nat), .int .u16 C] 48))
          have HQ2 := Lib.hid (World.alloc_heap_new w1 (Obj.cells #[Value.string N, .int .u16 (K : Nat), .int .u16 C] 48))
          obtain ⟨w2, hw2⟩ : ∃ w2, w2 = w1.alloc (Obj.cells #[Value.string N, .int .u16 (K : Nat), .int .u16 C] 48) := ⟨_, rfl⟩
          have HW2 := Lib.hid hw2
          rw [← hw2] at HN2 HA2 HQ2
          clear hw2 HN1 HA1
          go_wp2_with fail
          rw [← HW2.out]
          refine (H2.out _).mono ?_
          rintro e w3 ⟨rfl, hb⟩
          have HN3 := Lib.hid ((hb.block _ (heap_lt HN2.out)).trans HN2.out)
          have HQ3 := Lib.hid ((hb.block _ (heap_lt HQ2.out)).trans HQ2.out)
          have HA3 := Lib.hid (HA2.out.trans (hb.mono HA2.out.size))
          clear hb HN2 HQ2 HA2
          go_wp2_with fail
          refine (H3.out _).mono ?_
          rintro e w4 ⟨rfl, hb⟩
          have HN4 := Lib.hid ((hb.block _ (heap_lt HN3.out)).trans HN3.out)
          have HQ4 := Lib.hid ((hb.block _ (heap_lt HQ3.out)).trans HQ3.out)
          have HA4 := Lib.hid (HA3.out.trans (hb.mono HA3.out.size))
          clear hb HN3 HQ3 HA3
          have c1 : w4.cell? ⟨w1.heap.size, 1, none⟩ = some (.int .u16 (K : Nat)) := blk_cell HQ4.out 1
          go_wp2_with fail
          refine (H4.out _).mono ?_
          rintro e w5 ⟨rfl, hb⟩
          have HN5 := Lib.hid ((hb.block _ (heap_lt HN4.out)).trans HN4.out)
          have HQ5 := Lib.hid ((hb.block _ (heap_lt HQ4.out)).trans HQ4.out)
          have HA5 := Lib.hid (HA4.out.trans (hb.mono HA4.out.size))
          clear hb HN4 HQ4 HA4
          clear c1
          have d0 : w5.cell? ⟨w1.heap.size, 0, none⟩ = some (.string N) := blk_cell HQ5.out 0
          have d1 : w5.cell? ⟨w1.heap.size, 1, none⟩ = some (.int .u16 (K : Nat)) := blk_cell HQ5.out 1
          have d2 : w5.cell? ⟨w1.heap.size, 2, none⟩ = some (.int .u16 C) := blk_cell HQ5.out 2
          go_wp2_with (refine wpList_store_row rfl 46 _ _ rfl w.heap.size _ rfl rfl 46 _ HN5.out infoR rfl (all5 _ _ _ _ _) ?_)
          refine ret_r3 (g := w.heap.size) rfl rfl rfl rfl rfl (setRow_heap _ _ _ _ _ _ HN5.out) ⟨?_, setRow_below HA5.out (Nat.le_refl _) _⟩
          simp [cmbW, cmbX, cmbE]

        · simp only [if_true]
          go_enter Tryz.func71, Tryz.ntmps71
          go_wp2_with fail
          refine (H1.out _).mono ?_
          rintro e w1 ⟨rfl, hb1⟩
          have HN1 := Lib.hid ((hb1.block w.heap.size (by simp)).trans HN.out)
          have HA1 := Lib.hid (HA.out.trans (hb1.mono HA.out.size))
          clear hb1
          have HN2 := Lib.hid ((heapOld (w := w1) (Obj.cells #[Value.string N, .int .u16 (K : Nat), .int .u16 C] 48) (heap_lt HN1.out)).trans HN1.out)
          have HA2 := Lib.hid (HA1.out.alloc HA1.out.size (Obj.cells #[Value.string N, .int .u16 (K : Nat), .int .u16 C] 48))
          have HQ2 := Lib.hid (World.alloc_heap_new w1 (Obj.cells #[Value.string N, .int .u16 (K : Nat), .int .u16 C] 48))
          obtain ⟨w2, hw2⟩ : ∃ w2, w2 = w1.alloc (Obj.cells #[Value.string N, .int .u16 (K : Nat), .int .u16 C] 48) := ⟨_, rfl⟩
          have HW2 := Lib.hid hw2
          rw [← hw2] at HN2 HA2 HQ2
          clear hw2 HN1 HA1
          go_wp2_with fail
          rw [← HW2.out]
          refine (H2.out _).mono ?_
          rintro e w3 ⟨rfl, hb⟩
          have HN3 := Lib.hid ((hb.block _ (heap_lt HN2.out)).trans HN2.out)
          have HQ3 := Lib.hid ((hb.block _ (heap_lt HQ2.out)).trans HQ2.out)
          have HA3 := Lib.hid (HA2.out.trans (hb.mono HA2.out.size))
          clear hb HN2 HQ2 HA2
          go_wp2_with fail
          refine (H3.out _).mono ?_
          rintro e w4 ⟨rfl, hb⟩
          have HN4 := Lib.hid ((hb.block _ (heap_lt HN3.out)).trans HN3.out)
          have HQ4 := Lib.hid ((hb.block _ (heap_lt HQ3.out)).trans HQ3.out)
          have HA4 := Lib.hid (HA3.out.trans (hb.mono HA3.out.size))
          clear hb HN3 HQ3 HA3
          have c1 : w4.cell? ⟨w1.heap.size, 1, none⟩ = some (.int .u16 (K : Nat)) := blk_cell HQ4.out 1
          go_wp2_with fail
          refine (H4.out _).mono ?_
          rintro e w5 ⟨rfl, hb⟩
          have HN5 := Lib.hid ((hb.block _ (heap_lt HN4.out)).trans HN4.out)
          have HQ5 := Lib.hid ((hb.block _ (heap_lt HQ4.out)).trans HQ4.out)
          have HA5 := Lib.hid (HA4.out.trans (hb.mono HA4.out.size))
          clear hb HN4 HQ4 HA4
          clear c1
          go_wp2_with (refine wpList_store_row rfl 46 _ _ rfl w.heap.size _ rfl rfl 46 _ HN5.out infoR rfl (all5 _ _ _ _ _) ?_)
          refine ret_r3 (g := w.heap.size) rfl rfl rfl rfl rfl (setRow_heap _ _ _ _ _ _ HN5.out) ⟨?_, setRow_below HA5.out (Nat.le_refl _) _⟩
          simp [cmbW, cmbX, cmbE]

      · clear q4
        go_enter Tryz.func71, Tryz.ntmps71
        go_wp2_with fail
        refine (H1.out _).mono ?_
        rintro e w1 ⟨rfl, hb1⟩
        have HN1 := Lib.hid ((hb1.block w.heap.size (by simp)).trans HN.out)
        have HA1 := Lib.hid (HA.out.trans (hb1.mono HA.out.size))
        clear hb1
        have HN2 := Lib.hid ((heapOld (w := w1) (Obj.cells #[Value.string N, .int .u16 (K : Nat), .int .u16 C] 48) (heap_lt HN1.out)).trans HN1.out)
        have HA2 := Lib.hid (HA1.out.alloc HA1.out.size (Obj.cells #[Value.string N, .int .u16 (K : Nat), .int .u16 C] 48))
        have HQ2 := Lib.hid (World.alloc_heap_new w1 (Obj.cells #[Value.string N, .int .u16 (K : Nat), .int .u16 C] 48))
        obtain ⟨w2, hw2⟩ : ∃ w2, w2 = w1.alloc (Obj.cells #[Value.string N, .int .u16 (K : Nat), .int .u16 C] 48) := ⟨_, rfl⟩
        have HW2 := Lib.hid hw2
        rw [← hw2] at HN2 HA2 HQ2
        clear hw2 HN1 HA1
        go_wp2_with fail
        rw [← HW2.out]
        refine (H2.out _).mono ?_
        rintro e w3 ⟨rfl, hb⟩
        have HN3 := Lib.hid ((hb.block _ (heap_lt HN2.out)).trans HN2.out)
        have HQ3 := Lib.hid ((hb.block _ (heap_lt HQ2.out)).trans HQ2.out)
        have HA3 := Lib.hid (HA2.out.trans (hb.mono HA2.out.size))
        clear hb HN2 HQ2 HA2
        go_wp2_with fail
        refine (H3.out _).mono ?_
        rintro e w4 ⟨rfl, hb⟩
        have HN4 := Lib.hid ((hb.block _ (heap_lt HN3.out)).trans HN3.out)
        have HQ4 := Lib.hid ((hb.block _ (heap_lt HQ3.out)).trans HQ3.out)
        have HA4 := Lib.hid (HA3.out.trans (hb.mono HA3.out.size))
        clear hb HN3 HQ3 HA3
        go_wp2_with (refine wpList_store_row rfl 46 _ _ rfl w.heap.size _ rfl rfl 46 _ HN4.out infoR rfl (all5 _ _ _ _ _) ?_)
        refine ret_r3 (g := w.heap.size) rfl rfl rfl rfl rfl (setRow_heap _ _ _ _ _ _ HN4.out) ⟨?_, setRow_below HA4.out (Nat.le_refl _) _⟩
        simp [cmbW, cmbX, cmbE]

    · clear q4
      rcases q3 with rfl | rfl
      all_goals
        go_enter Tryz.func71, Tryz.ntmps71
        go_wp2_with fail
        refine (H1.out _).mono ?_
        rintro e w1 ⟨rfl, hb1⟩
        have HN1 := Lib.hid ((hb1.block w.heap.size (by simp)).trans HN.out)
        have HA1 := Lib.hid (HA.out.trans (hb1.mono HA.out.size))
        clear hb1
        have HN2 := Lib.hid ((heapOld (w := w1) (Obj.cells #[Value.string N, .int .u16 (K : Nat), .int .u16 C] 48) (heap_lt HN1.out)).trans HN1.out)
        have HA2 := Lib.hid (HA1.out.alloc HA1.out.size (Obj.cells #[Value.string N, .int .u16 (K : Nat), .int .u16 C] 48))
        have HQ2 := Lib.hid (World.alloc_heap_new w1 (Obj.cells #[Value.string N, .int .u16 (K : Nat), .int .u16 C] 48))
        obtain ⟨w2, hw2⟩ : ∃ w2, w2 = w1.alloc (Obj.cells #[Value.string N, .int .u16 (K : Nat), .int .u16 C] 48) := ⟨_, rfl⟩
        have HW2 := Lib.hid hw2
        rw [← hw2] at HN2 HA2 HQ2
        clear hw2 HN1 HA1
        go_wp2_with fail
        rw [← HW2.out]
        refine (H2.out _).mono ?_
        rintro e w3 ⟨rfl, hb⟩
        have HN3 := Lib.hid ((hb.block _ (heap_lt HN2.out)).trans HN2.out)
        have HQ3 := Lib.hid ((hb.block _ (heap_lt HQ2.out)).trans HQ2.out)
        have HA3 := Lib.hid (HA2.out.trans (hb.mono HA2.out.size))
        clear hb HN2 HQ2 HA2
        go_wp2_with fail
        refine (H3.out _).mono ?_
        rintro e w4 ⟨rfl, hb⟩
        have HN4 := Lib.hid ((hb.block _ (heap_lt HN3.out)).trans HN3.out)
        have HQ4 := Lib.hid ((hb.block _ (heap_lt HQ3.out)).trans HQ3.out)
        have HA4 := Lib.hid (HA3.out.trans (hb.mono HA3.out.size))
        clear hb HN3 HQ3 HA3
        go_wp2_with (refine wpList_store_row rfl 46 _ _ rfl w.heap.size _ rfl rfl 46 _ HN4.out infoR rfl (all5 _ _ _ _ _) ?_)
        refine ret_r3 (g := w.heap.size) rfl rfl rfl rfl rfl (setRow_heap _ _ _ _ _ _ HN4.out) ⟨?_, setRow_below HA4.out (Nat.le_refl _) _⟩
        simp [cmbW, cmbX, cmbE]

  · clear q4 q2
    rcases q3 with rfl | rfl
    all_goals
      go_enter Tryz.func71, Tryz.ntmps71
      go_wp2_with fail
      refine (H1.out _).mono ?_
      rintro e w1 ⟨rfl, hb1⟩
      have HN1 := Lib.hid ((hb1.block w.heap.size (by simp)).trans HN.out)
      have HA1 := Lib.hid (HA.out.trans (hb1.mono HA.out.size))
      clear hb1
      have HN2 := Lib.hid ((heapOld (w := w1) (Obj.cells #[Value.string N, .int .u16 (K : Nat), .int .u16 C] 48) (heap_lt HN1.out)).trans HN1.out)
      have HA2 := Lib.hid (HA1.out.alloc HA1.out.size (Obj.cells #[Value.string N, .int .u16 (K : Nat), .int .u16 C] 48))
      have HQ2 := Lib.hid (World.alloc_heap_new w1 (Obj.cells #[Value.string N, .int .u16 (K : Nat), .int .u16 C] 48))
      obtain ⟨w2, hw2⟩ : ∃ w2, w2 = w1.alloc (Obj.cells #[Value.string N, .int .u16 (K : Nat), .int .u16 C] 48) := ⟨_, rfl⟩
      have HW2 := Lib.hid hw2
      rw [← hw2] at HN2 HA2 HQ2
      clear hw2 HN1 HA1
      go_upto_region 3 with (fail)
      rw [← HW2.out]
      go_wp2_with (refine wpList_store_row rfl 46 _ _ rfl w.heap.size _ rfl rfl 46 _ HN2.out infoR rfl (all5 _ _ _ _ _) ?_)
      refine ret_r3 (g := w.heap.size) rfl rfl rfl rfl rfl (setRow_heap _ _ _ _ _ _ HN2.out) ⟨?_, setRow_below HA2.out (Nat.le_refl _) _⟩
      simp [cmbW, cmbX, cmbE]

end Go.Proofs.YtnakljbginbenaaGreatDoor
