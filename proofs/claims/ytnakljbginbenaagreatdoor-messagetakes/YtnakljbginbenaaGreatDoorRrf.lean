/- The contracts of derrickref05: MayQ, May, Same, TakeQ, Take. -/
import Derived.Test.YtnakljbginbenaaGreatDoorBrs
import Derived.Test.YtnakljbginbenaaGreatDoorRfg
namespace Go.Proofs.YtnakljbginbenaaGreatDoor
open Go.RowKit
set_option linter.unusedVariables false

set_option maxRecDepth 100000 in
set_option maxHeartbeats 1000000 in
theorem wtake_neg (s : ByteArray) (p : Int) (hp : p < 0) (w : World) :
    Calls Tryz.prog 70 #[.string s, .int .i64 p] w fun e w' => e = .returned (.tuple #[.string ⟨#[]⟩, .int .i64 0, .int .i64 2]) ∧ Below w.heap.size w w' := by
  go_enter Tryz.func70, Tryz.ntmps70
  go_wp2_with fail
  refine wp_loop_rounds 1 ?_
  rw [rounds_succ]
  go_wp2_with fail
  refine (rlabels_neg s p hp _).mono ?_
  rintro e w1 ⟨rfl, rfl⟩
  go_wp2_with fail
  go_ret3
  exact ⟨rfl, Below.refl _ _⟩
theorem wtake_any (s : ByteArray) (p : Int) (hs : s.size ≤ 1500) (hp : p ≤ maxLen) (w : World) :
    Calls Tryz.prog 70 #[.string s, .int .i64 p] w fun e w' => e = .returned (.tuple #[.string (tkS s p), .int .i64 (tkX s p : Nat), .int .i64 (tkE s p : Nat)]) ∧ Below w.heap.size w w' := by
  by_cases h : 0 ≤ p
  · have h1 := rtake_nat s p.toNat hs (by omega) w
    rw [show ((p.toNat : Nat) : Int) = p by omega] at h1
    exact h1
  · obtain ⟨r1, r2, r3⟩ := tk_none (s := s) (p := p) (.inl (by omega))
    rw [r1, r2, r3]
    exact wtake_neg s p (by omega) w

theorem fmayq_any (n : ByteArray) (k c : Int) (hn : n.size ≤ 4194304) (w : World) :
    Calls Tryz.prog 32 #[.agg #[.string n, .int .u16 k, .int .u16 c]] w fun e w' => e = .returned (.bool (mayB n)) ∧ Below w.heap.size w w' := by
  go_enter Tryz.func32, Tryz.ntmps32
  go_wp2_with fail
  refine (ref_may n hn _).mono ?_
  rintro e w1 ⟨rfl, hb1⟩
  go_wp2_with fail
  go_ret
  exact ⟨rfl, ((Below.refl _ w).alloc (Nat.le_refl _) _).trans (hb1.mono (by simp))⟩

set_option maxRecDepth 100000 in
theorem fmayr_any (r : Rc) (hn : r.n.size ≤ 4194304) (hd : r.d.size ≤ 4194304) (hr : r.Ok) (w : World) :
    Calls Tryz.prog 60 #[.agg #[.string r.n, .int .u16 (r.k : Nat), .int .u16 (r.c : Nat), .int .u32 (r.t : Nat), .string r.d]] w fun e w' => e = .returned (.bool (mayR r)) ∧ Below w.heap.size w w' := by
  obtain ⟨n, k, c, t, d⟩ := r
  obtain ⟨hk, hc, ht⟩ := hr
  simp only at hn hd hk hc ht ⊢
  have HM := Lib.hid (fun w' => ref_may n hn w')
  have HD := Lib.hid (fun w' => refmay_any k d hd hk w')
  have hmr : mayR ⟨n, k, c, t, d⟩ = (mayB n && mayD k d) := rfl
  rw [hmr]
  clear hmr
  cases hm : mayB n with
  | false =>
    rw [hm] at HM
    go_enter Tryz.func60, Tryz.ntmps60
    go_wp2_with fail
    refine (HM.out _).mono ?_
    rintro e w1 ⟨rfl, hb1⟩
    go_wp2_with fail
    go_ret
    exact ⟨rfl, ((Below.refl _ w).alloc (Nat.le_refl _) _).trans (hb1.mono (by simp))⟩
  | true =>
    rw [hm] at HM
    have HN := Lib.hid (World.alloc_heap_new w (Obj.cells #[Value.string n, .int .u16 (k : Nat), .int .u16 (c : Nat), .int .u32 (t : Nat), .string d] 46))
    have HA := Lib.hid ((Below.refl w.heap.size w).alloc (Nat.le_refl _) (Obj.cells #[Value.string n, .int .u16 (k : Nat), .int .u16 (c : Nat), .int .u32 (t : Nat), .string d] 46))
    go_enter Tryz.func60, Tryz.ntmps60
    go_wp2_with fail
    refine (HM.out _).mono ?_
    rintro e w1 ⟨rfl, hb1⟩
    have hx := (hb1.block w.heap.size (by simp)).trans HN.out
    have c1 : w1.cell? ⟨w.heap.size, 1, none⟩ = some (.int .u16 (k : Nat)) := blk_cell hx 1
    have c4 : w1.cell? ⟨w.heap.size, 4, none⟩ = some (.string d) := blk_cell hx 4
    have HB := Lib.hid (HA.out.trans (hb1.mono HA.out.size))
    clear hx hb1
    go_wp2_with fail
    refine (HD.out _).mono ?_
    rintro e w2 ⟨rfl, hb2⟩
    go_wp2_with fail
    go_ret
    exact ⟨by simp, HB.out.trans (hb2.mono HB.out.size)⟩

theorem se_two (s : ByteArray) (p m : Int) : Oc.se s p m = 0 ∨ Oc.se s p m = 2 := by
  unfold Oc.se
  split
  · exact .inl rfl
  · exact .inr rfl
theorem tkE_two (s : ByteArray) (p : Int) : ((tkE s p : Nat) : Int) = 0 ∨ ((tkE s p : Nat) : Int) = 2 := by
  rcases tk_cases s p with ⟨h, _⟩ | ⟨h, _⟩
  · right; rw [h]; rfl
  · left; rw [h]; rfl

set_option maxRecDepth 100000 in
set_option maxHeartbeats 1000000 in
theorem ftakeq_any (s : ByteArray) (p : Int) (hs : s.size ≤ 1500) (hp : p ≤ maxLen) (w : World) :
    Calls Tryz.prog 41 #[.string s, .int .i64 p] w fun en w' => en = .returned (.tuple #[.agg #[.string (qR s p).n, .int .u16 ((qR s p).k : Nat), .int .u16 ((qR s p).c : Nat)], .int .i64 (qX s p : Nat), .int .i64 (qE s p : Nat)]) ∧ Below w.heap.size w w' := by
  obtain ⟨a1, a2, a3⟩ := q_parts s p
  rw [← a1, ← a2, ← a3]
  have h1 := fun w' => wtake_any s p hs hp w'
  have h2 := fun w' => Oc.ru16_any s (tkX s p : Nat) w' (by omega)
  have h3 := fun w' => Oc.ru16_any s (Oc.so s (tkX s p : Nat) 2) w' (by omega)
  have q1 := tkE_two s p
  have q2 := se_two s (tkX s p : Nat) 2
  have q3 := se_two s (Oc.so s (tkX s p : Nat) 2) 2
  generalize Oc.se s (Oc.so s (tkX s p : Nat) 2) 2 = E3 at *
  generalize Oc.so s (Oc.so s (tkX s p : Nat) 2) 2 = X3 at *
  generalize Oc.un s (Oc.so s (tkX s p : Nat) 2) 2 = C at *
  generalize Oc.se s (tkX s p : Nat) 2 = E2 at *
  generalize Oc.so s (tkX s p : Nat) 2 = X2 at *
  generalize Oc.un s (tkX s p : Nat) 2 = K at *
  generalize ((tkE s p : Nat) : Int) = E1 at *
  generalize ((tkX s p : Nat) : Int) = X1 at *
  generalize tkS s p = N at *
  have H1 := Lib.hid h1
  have H2 := Lib.hid h2
  have H3 := Lib.hid h3
  have HN := Lib.hid (World.alloc_heap_new w (Obj.cells #[Value.string ⟨#[]⟩, .int .u16 0, .int .u16 0] 48))
  have HA := Lib.hid ((Below.refl w.heap.size w).alloc (Nat.le_refl _) (Obj.cells #[Value.string ⟨#[]⟩, .int .u16 0, .int .u16 0] 48))
  clear h1 h2 h3 a1 a2 a3
  rcases q1 with rfl | rfl
  · rcases q2 with rfl | rfl
    · rcases q3 with rfl | rfl
      · go_enter Tryz.func41, Tryz.ntmps41
        go_wp2_with fail
        refine (H1.out _).mono ?_
        rintro e w1 ⟨rfl, hb1⟩
        have HN1 := Lib.hid ((hb1.block w.heap.size (by simp)).trans HN.out)
        have HA1 := Lib.hid (HA.out.trans (hb1.mono HA.out.size))
        clear hb1
        go_wp2_with fail
        refine (H2.out _).mono ?_
        rintro e w2 ⟨rfl, hb2⟩
        have HN2 := Lib.hid ((hb2.block w.heap.size (heap_lt HN1.out)).trans HN1.out)
        have HA2 := Lib.hid (HA1.out.trans (hb2.mono HA1.out.size))
        clear hb2
        go_wp2_with fail
        refine (H3.out _).mono ?_
        rintro e w3 ⟨rfl, hb3⟩
        have HN3 := Lib.hid ((hb3.block w.heap.size (heap_lt HN2.out)).trans HN2.out)
        have HA3 := Lib.hid (HA2.out.trans (hb3.mono HA2.out.size))
        clear hb3
        go_wp2_with (refine wpList_store_row rfl 48 _ _ rfl w.heap.size _ rfl rfl 48 _ HN3.out infoQ rfl (all3 _ _ _) ?_)
        exact ret_q3 (g := w.heap.size) rfl rfl rfl rfl rfl (setRow_heap _ _ _ _ _ _ HN3.out) ⟨rfl, setRow_below HA3.out (Nat.le_refl _) _⟩
      · go_enter Tryz.func41, Tryz.ntmps41
        go_wp2_with fail
        refine (H1.out _).mono ?_
        rintro e w1 ⟨rfl, hb1⟩
        have HN1 := Lib.hid ((hb1.block w.heap.size (by simp)).trans HN.out)
        have HA1 := Lib.hid (HA.out.trans (hb1.mono HA.out.size))
        clear hb1
        go_wp2_with fail
        refine (H2.out _).mono ?_
        rintro e w2 ⟨rfl, hb2⟩
        have HN2 := Lib.hid ((hb2.block w.heap.size (heap_lt HN1.out)).trans HN1.out)
        have HA2 := Lib.hid (HA1.out.trans (hb2.mono HA1.out.size))
        clear hb2
        go_wp2_with fail
        refine (H3.out _).mono ?_
        rintro e w3 ⟨rfl, hb3⟩
        have HN3 := Lib.hid ((hb3.block w.heap.size (heap_lt HN2.out)).trans HN2.out)
        have HA3 := Lib.hid (HA2.out.trans (hb3.mono HA2.out.size))
        clear hb3
        go_wp2_with (refine wpList_store_row rfl 48 _ _ rfl w.heap.size _ rfl rfl 48 _ HN3.out infoQ rfl (all3 _ _ _) ?_)
        exact ret_q3 (g := w.heap.size) rfl rfl rfl rfl rfl (setRow_heap _ _ _ _ _ _ HN3.out) ⟨rfl, setRow_below HA3.out (Nat.le_refl _) _⟩
    · go_enter Tryz.func41, Tryz.ntmps41
      go_wp2_with fail
      refine (H1.out _).mono ?_
      rintro e w1 ⟨rfl, hb1⟩
      have HN1 := Lib.hid ((hb1.block w.heap.size (by simp)).trans HN.out)
      have HA1 := Lib.hid (HA.out.trans (hb1.mono HA.out.size))
      clear hb1
      go_wp2_with fail
      refine (H2.out _).mono ?_
      rintro e w2 ⟨rfl, hb2⟩
      have HN2 := Lib.hid ((hb2.block w.heap.size (heap_lt HN1.out)).trans HN1.out)
      have HA2 := Lib.hid (HA1.out.trans (hb2.mono HA1.out.size))
      clear hb2
      go_wp2_with fail
      refine (H3.out _).mono ?_
      rintro e w3 ⟨rfl, hb3⟩
      have HN3 := Lib.hid ((hb3.block w.heap.size (heap_lt HN2.out)).trans HN2.out)
      have HA3 := Lib.hid (HA2.out.trans (hb3.mono HA2.out.size))
      clear hb3
      go_wp2_with (refine wpList_store_row rfl 48 _ _ rfl w.heap.size _ rfl rfl 48 _ HN3.out infoQ rfl (all3 _ _ _) ?_)
      refine ret_q3 (g := w.heap.size) rfl rfl rfl rfl rfl (setRow_heap _ _ _ _ _ _ HN3.out) ⟨?_, setRow_below HA3.out (Nat.le_refl _) _⟩
      simp [cmbW, cmbX, cmbE]
  · go_enter Tryz.func41, Tryz.ntmps41
    go_wp2_with fail
    refine (H1.out _).mono ?_
    rintro e w1 ⟨rfl, hb1⟩
    have HN1 := Lib.hid ((hb1.block w.heap.size (by simp)).trans HN.out)
    have HA1 := Lib.hid (HA.out.trans (hb1.mono HA.out.size))
    clear hb1
    go_wp2_with (refine wpList_store_row rfl 48 _ _ rfl w.heap.size _ rfl rfl 48 _ HN1.out infoQ rfl (all3 _ _ _) ?_)
    refine ret_q3 (g := w.heap.size) rfl rfl rfl rfl rfl (setRow_heap _ _ _ _ _ _ HN1.out) ⟨?_, setRow_below HA1.out (Nat.le_refl _) _⟩
    simp [cmbW, cmbX, cmbE]
end Go.Proofs.YtnakljbginbenaaGreatDoor
