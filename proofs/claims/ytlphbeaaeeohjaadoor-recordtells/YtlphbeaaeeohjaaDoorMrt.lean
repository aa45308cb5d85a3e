/- The contracts of derrickref05, and the walk of derricklaw05.RecordTells (texts of their own, joined). -/
import Derived.Test.YtlphbeaaeeohjaaDoorRqt
import Derived.Test.YtlphbeaaeeohjaaDoorMre
import Derived.Deep.DeepCutAuto

namespace Go.Proofs.YtlphbeaaeeohjaaDoor
open Go.RowKit
set_option linter.unusedVariables false

set_option maxRecDepth 100000 in
set_option maxHeartbeats 1000000 in
theorem wtake_neg (s : ByteArray) (p : Int) (hp : p < 0) (w : World) :
    Calls Tryd.prog 39 #[.string s, .int .i64 p] w fun e w' => e = .returned (.tuple #[.string ⟨#[]⟩, .int .i64 0, .int .i64 2]) ∧ Below w.heap.size w w' := by
  go_enter Tryd.func39, Tryd.ntmps39
  go_wp2_with fail
  refine wp_loop_rounds 1 ?_
  rw [rounds_succ]
  go_wp2_with fail
  refine (rlabels_neg s p hp _).mono ?_
  rintro e w1 ⟨rfl, rfl⟩
  go_wp2_with fail
  go_ret3
  exact ⟨rfl, Below.refl _ _⟩
theorem wtake_any (s : ByteArray) (p : Int) (hs : s.size ≤ 1000) (hp : p ≤ maxLen) (w : World) :
    Calls Tryd.prog 39 #[.string s, .int .i64 p] w fun e w' => e = .returned (.tuple #[.string (tkS s p), .int .i64 (tkX s p : Nat), .int .i64 (tkE s p : Nat)]) ∧ Below w.heap.size w w' := by
  by_cases h : 0 ≤ p
  · have h1 := rtake_nat s p.toNat hs (by omega) w
    rw [show ((p.toNat : Nat) : Int) = p by omega] at h1
    exact h1
  · obtain ⟨r1, r2, r3⟩ := tk_none (s := s) (p := p) (.inl (by omega))
    rw [r1, r2, r3]
    exact wtake_neg s p (by omega) w

theorem fmayq_any (n : ByteArray) (k c : Int) (hn : n.size ≤ 1048576) (w : World) :
    Calls Tryd.prog 18 #[.agg #[.string n, .int .u16 k, .int .u16 c]] w fun e w' => e = .returned (.bool (mayB n)) ∧ Below w.heap.size w w' := by
  go_enter Tryd.func18, Tryd.ntmps18
  go_wp2_with fail
  refine (ref_may n hn _).mono ?_
  rintro e w1 ⟨rfl, hb1⟩
  go_wp2_with fail
  go_ret
  exact ⟨rfl, ((Below.refl _ w).alloc (Nat.le_refl _) _).trans (hb1.mono (by simp))⟩

set_option maxRecDepth 100000 in
theorem fmayr_any (r : Rc) (hn : r.n.size ≤ 1048576) (hd : r.d.size ≤ 1048576) (hr : r.Ok) (w : World) :
    Calls Tryd.prog 16 #[.agg #[.string r.n, .int .u16 (r.k : Nat), .int .u16 (r.c : Nat), .int .u32 (r.t : Nat), .string r.d]] w fun e w' => e = .returned (.bool (mayR r)) ∧ Below w.heap.size w w' := by
  obtain ⟨n, k, c, t, d⟩ := r
  obtain ⟨hk, hc, ht⟩ := hr
  simp only at hn hd hk hc ht ⊢
  have HM := Lib.hid (fun w' => ref_may n hn w')
  have HD := Lib.hid (fun w' => refmay_any k d hd hk w')
  have hmr : mayR ⟨n, k, c, t, d⟩ = (mayB n && mayD k d) := rfl
  rw [hmr]
  clear hmr
  cases hm : mayB n with
  | false =>
    rw [hm] at HM
    go_enter Tryd.func16, Tryd.ntmps16
    go_wp2_with fail
    refine (HM.out _).mono ?_
    rintro e w1 ⟨rfl, hb1⟩
    go_wp2_with fail
    go_ret
    exact ⟨rfl, ((Below.refl _ w).alloc (Nat.le_refl _) _).trans (hb1.mono (by simp))⟩
  | true =>
    rw [hm] at HM
    have HN := Lib.hid (World.alloc_heap_new w (Obj.cells #[Value.string n, .int .u16 (k : Nat), .int .u16 (c : Nat), .int .u32 (t : Nat), .string d] 25))
    have HA := Lib.hid ((Below.refl w.heap.size w).alloc (Nat.le_refl _) (Obj.cells #[Value.string n, .int .u16 (k : Nat), .int .u16 (c : Nat), .int .u32 (t : Nat), .string d] 25))
    go_enter Tryd.func16, Tryd.ntmps16
    go_wp2_with fail
    refine (HM.out _).mono ?_
    rintro e w1 ⟨rfl, hb1⟩
    have hx := (hb1.block w.heap.size (by simp)).trans HN.out
    have c1 : w1.cell? ⟨w.heap.size, 1, none⟩ = some (.int .u16 (k : Nat)) := blk_cell hx 1
    have c4 : w1.cell? ⟨w.heap.size, 4, none⟩ = some (.string d) := blk_cell hx 4
    have HB := Lib.hid (HA.out.trans (hb1.mono HA.out.size))
    clear hx hb1
    go_wp2_with fail
    refine (HD.out _).mono ?_
    rintro e w2 ⟨rfl, hb2⟩
    go_wp2_with fail
    go_ret
    exact ⟨by simp, HB.out.trans (hb2.mono HB.out.size)⟩

theorem fsame_one (n n' d d' : ByteArray) (k k' c c' : Nat) (t t' : Int) (w : World) (b1 b2 b3 b4 : Bool) (h1 : (n.toList == n'.toList) = b1) (h2 : ((k : Int) == (k' : Int)) = b2) (h3 : ((c : Int) == (c' : Int)) = b3) (h4 : (d.toList == d'.toList) = b4) :
    Calls Tryd.prog 20 #[.agg #[.string n, .int .u16 (k : Nat), .int .u16 (c : Nat), .int .u32 t, .string d], .agg #[.string n', .int .u16 (k' : Nat), .int .u16 (c' : Nat), .int .u32 t', .string d']] w fun e w' => e = .returned (.bool (b1 && (b2 && (b3 && b4)))) ∧ Below w.heap.size w w' := by
  have HB := Lib.hid (((Below.refl w.heap.size w).alloc (Nat.le_refl _) (Obj.cells #[Value.string n, .int .u16 (k : Nat), .int .u16 (c : Nat), .int .u32 t, .string d] 25)).alloc (by simp) (Obj.cells #[Value.string n', .int .u16 (k' : Nat), .int .u16 (c' : Nat), .int .u32 t', .string d'] 25))
  cases b1 <;> cases b2 <;> cases b3
  all_goals
    go_enter Tryd.func20, Tryd.ntmps20
    go_wp2_with fail
    go_ret
    exact ⟨by simp, HB.out⟩
theorem fsame_any (a b : Rc) (w : World) :
    Calls Tryd.prog 20 #[.agg #[.string a.n, .int .u16 (a.k : Nat), .int .u16 (a.c : Nat), .int .u32 (a.t : Nat), .string a.d], .agg #[.string b.n, .int .u16 (b.k : Nat), .int .u16 (b.c : Nat), .int .u32 (b.t : Nat), .string b.d]] w fun e w' => e = .returned (.bool (sameR a b)) ∧ Below w.heap.size w w' := by
  have h := fsame_one a.n b.n a.d b.d a.k b.k a.c b.c a.t b.t w _ _ _ _ rfl rfl rfl rfl
  have e : ((a.n.toList == b.n.toList) && (((a.k : Int) == (b.k : Int)) && (((a.c : Int) == (b.c : Int)) && (a.d.toList == b.d.toList)))) = sameR a b := by
    unfold sameR keyR
    rw [Bool.eq_iff_iff]
    simp only [Bool.and_eq_true, beq_iff_eq, decide_eq_true_iff]
    constructor
    · rintro ⟨x, y, z, u⟩; exact ⟨⟨x, y, z⟩, u⟩
    · rintro ⟨⟨x, y, z⟩, u⟩; exact ⟨x, y, z, u⟩
  rw [e] at h
  exact h

theorem se_two (s : ByteArray) (p m : Int) : Oc.se s p m = 0 ∨ Oc.se s p m = 2 := by
  unfold Oc.se
  split
  · exact .inl rfl
  · exact .inr rfl
theorem tkE_two (s : ByteArray) (p : Int) : ((tkE s p : Nat) : Int) = 0 ∨ ((tkE s p : Nat) : Int) = 2 := by
  rcases tk_cases s p with ⟨h, _⟩ | ⟨h, _⟩
  · right; rw [h]; rfl
  · left; rw [h]; rfl

set_option maxRecDepth 100000 in
set_option maxHeartbeats 1000000 in
theorem ftakeq_any (s : ByteArray) (p : Int) (hs : s.size ≤ 1000) (hp : p ≤ maxLen) (w : World) :
    Calls Tryd.prog 14 #[.string s, .int .i64 p] w fun en w' => en = .returned (.tuple #[.agg #[.string (qR s p).n, .int .u16 ((qR s p).k : Nat), .int .u16 ((qR s p).c : Nat)], .int .i64 (qX s p : Nat), .int .i64 (qE s p : Nat)]) ∧ Below w.heap.size w w' := by
  obtain ⟨a1, a2, a3⟩ := q_parts s p
  rw [← a1, ← a2, ← a3]
  have h1 := fun w' => wtake_any s p hs hp w'
  have h2 := fun w' => Oc.ru16_any s (tkX s p : Nat) w' (by omega)
  have h3 := fun w' => Oc.ru16_any s (Oc.so s (tkX s p : Nat) 2) w' (by omega)
  have q1 := tkE_two s p
  have q2 := se_two s (tkX s p : Nat) 2
  have q3 := se_two s (Oc.so s (tkX s p : Nat) 2) 2
  generalize Oc.se s (Oc.so s (tkX s p : Nat) 2) 2 = E3 at *
  generalize Oc.so s (Oc.so s (tkX s p : Nat) 2) 2 = X3 at *
  generalize Oc.un s (Oc.so s (tkX s p : Nat) 2) 2 = C at *
  generalize Oc.se s (tkX s p : Nat) 2 = E2 at *
  generalize Oc.so s (tkX s p : Nat) 2 = X2 at *
  generalize Oc.un s (tkX s p : Nat) 2 = K at *
  generalize ((tkE s p : Nat) : Int) = E1 at *
  generalize ((tkX s p : Nat) : Int) = X1 at *
  generalize tkS s p = N at *
  have H1 := Lib.hid h1
  have H2 := Lib.hid h2
  have H3 := Lib.hid h3
  have HN := Lib.hid (World.alloc_heap_new w (Obj.cells #[Value.string ⟨#[]⟩, .int .u16 0, .int .u16 0] 29))
  have HA := Lib.hid ((Below.refl w.heap.size w).alloc (Nat.le_refl _) (Obj.cells #[Value.string ⟨#[]⟩, .int .u16 0, .int .u16 0] 29))
  clear h1 h2 h3 a1 a2 a3
  rcases q1 with rfl | rfl
  · rcases q2 with rfl | rfl
    · rcases q3 with rfl | rfl
      · go_enter Tryd.func14, Tryd.ntmps14
        go_wp2_with fail
        refine (H1.out _).mono ?_
        rintro e w1 ⟨rfl, hb1⟩
        have HN1 := Lib.hid ((hb1.block w.heap.size (by simp)).trans HN.out)
        have HA1 := Lib.hid (HA.out.trans (hb1.mono HA.out.size))
        clear hb1
        go_wp2_with fail
        refine (H2.out _).mono ?_
        rintro e w2 ⟨rfl, hb2⟩
        have HN2 := Lib.hid ((hb2.block w.heap.size (heap_lt HN1.out)).trans HN1.out)
        have HA2 := Lib.hid (HA1.out.trans (hb2.mono HA1.out.size))
        clear hb2
        go_wp2_with fail
        refine (H3.out _).mono ?_
        rintro e w3 ⟨rfl, hb3⟩
        have HN3 := Lib.hid ((hb3.block w.heap.size (heap_lt HN2.out)).trans HN2.out)
        have HA3 := Lib.hid (HA2.out.trans (hb3.mono HA2.out.size))
        clear hb3
        go_wp2_with (refine wpList_store_row rfl 29 _ _ rfl w.heap.size _ rfl rfl 29 _ HN3.out infoQ rfl (all3 _ _ _) ?_)
        exact ret_q3 (g := w.heap.size) rfl rfl rfl rfl rfl (setRow_heap _ _ _ _ _ _ HN3.out) ⟨rfl, setRow_below HA3.out (Nat.le_refl _) _⟩
      · go_enter Tryd.func14, Tryd.ntmps14
        go_wp2_with fail
        refine (H1.out _).mono ?_
        rintro e w1 ⟨rfl, hb1⟩
        have HN1 := Lib.hid ((hb1.block w.heap.size (by simp)).trans HN.out)
        have HA1 := Lib.hid (HA.out.trans (hb1.mono HA.out.size))
        clear hb1
        go_wp2_with fail
        refine (H2.out _).mono ?_
        rintro e w2 ⟨rfl, hb2⟩
        have HN2 := Lib.hid ((hb2.block w.heap.size (heap_lt HN1.out)).trans HN1.out)
        have HA2 := Lib.hid (HA1.out.trans (hb2.mono HA1.out.size))
        clear hb2
        go_wp2_with fail
        refine (H3.out _).mono ?_
        rintro e w3 ⟨rfl, hb3⟩
        have HN3 := Lib.hid ((hb3.block w.heap.size (heap_lt HN2.out)).trans HN2.out)
        have HA3 := Lib.hid (HA2.out.trans (hb3.mono HA2.out.size))
        clear hb3
        go_wp2_with (refine wpList_store_row rfl 29 _ _ rfl w.heap.size _ rfl rfl 29 _ HN3.out infoQ rfl (all3 _ _ _) ?_)
        exact ret_q3 (g := w.heap.size) rfl rfl rfl rfl rfl (setRow_heap _ _ _ _ _ _ HN3.out) ⟨rfl, setRow_below HA3.out (Nat.le_refl _) _⟩
    · go_enter Tryd.func14, Tryd.ntmps14
      go_wp2_with fail
      refine (H1.out _).mono ?_
      rintro e w1 ⟨rfl, hb1⟩
      have HN1 := Lib.hid ((hb1.block w.heap.size (by simp)).trans HN.out)
      have HA1 := Lib.hid (HA.out.trans (hb1.mono HA.out.size))
      clear hb1
      go_wp2_with fail
      refine (H2.out _).mono ?_
      rintro e w2 ⟨rfl, hb2⟩
      have HN2 := Lib.hid ((hb2.block w.heap.size (heap_lt HN1.out)).trans HN1.out)
      have HA2 := Lib.hid (HA1.out.trans (hb2.mono HA1.out.size))
      clear hb2
      go_wp2_with fail
      refine (H3.out _).mono ?_
      rintro e w3 ⟨rfl, hb3⟩
      have HN3 := Lib.hid ((hb3.block w.heap.size (heap_lt HN2.out)).trans HN2.out)
      have HA3 := Lib.hid (HA2.out.trans (hb3.mono HA2.out.size))
      clear hb3
      go_wp2_with (refine wpList_store_row rfl 29 _ _ rfl w.heap.size _ rfl rfl 29 _ HN3.out infoQ rfl (all3 _ _ _) ?_)
      refine ret_q3 (g := w.heap.size) rfl rfl rfl rfl rfl (setRow_heap _ _ _ _ _ _ HN3.out) ⟨?_, setRow_below HA3.out (Nat.le_refl _) _⟩
      simp [cmbW, cmbX, cmbE]
  · go_enter Tryd.func14, Tryd.ntmps14
    go_wp2_with fail
    refine (H1.out _).mono ?_
    rintro e w1 ⟨rfl, hb1⟩
    have HN1 := Lib.hid ((hb1.block w.heap.size (by simp)).trans HN.out)
    have HA1 := Lib.hid (HA.out.trans (hb1.mono HA.out.size))
    clear hb1
    go_wp2_with (refine wpList_store_row rfl 29 _ _ rfl w.heap.size _ rfl rfl 29 _ HN1.out infoQ rfl (all3 _ _ _) ?_)
    refine ret_q3 (g := w.heap.size) rfl rfl rfl rfl rfl (setRow_heap _ _ _ _ _ _ HN1.out) ⟨?_, setRow_below HA1.out (Nat.le_refl _) _⟩
    simp [cmbW, cmbX, cmbE]
end Go.Proofs.YtlphbeaaeeohjaaDoor

namespace Go.Proofs.YtlphbeaaeeohjaaDoor
open Go.RowKit
set_option linter.unusedVariables false

theorem qE_two (s : ByteArray) (p : Int) : ((qE s p : Nat) : Int) = 0 ∨ ((qE s p : Nat) : Int) = 2 := by
  rcases q_cases s p with ⟨_, _, _, h⟩ | ⟨r, _, _, _, h, _⟩
  · right; rw [h]; rfl
  · left; rw [h]; rfl
theorem tdE_two (s : ByteArray) (p m : Int) (k : Nat) : tdE s p m k = 0 ∨ tdE s p m k = 2 := by
  unfold tdE
  cases tdO s p m k with
  | none => exact .inr rfl
  | some l => exact .inl rfl

set_option maxRecDepth 100000 in
set_option maxHeartbeats 2000000 in
theorem ftaker_any (s : ByteArray) (p : Int) (hs : s.size ≤ 1000) (hp : p ≤ maxLen) (w : World) :
    Calls Tryd.prog 12 #[.string s, .int .i64 p] w fun en w' => en = .returned (.tuple #[.agg #[.string (rR s p).n, .int .u16 ((rR s p).k : Nat), .int .u16 ((rR s p).c : Nat), .int .u32 ((rR s p).t : Nat), .string (rR s p).d], .int .i64 (rX s p : Nat), .int .i64 (rE s p : Nat)]) ∧ Below w.heap.size w w' := by
  obtain ⟨a1, a2, a3⟩ := r_parts s p
  rw [← a1, ← a2, ← a3]
  unfold dE dS dX
  have hk := (qR_ok s p).k
  have h1 := fun w' => ftakeq_any s p hs hp w'
  have h2 := fun w' => Oc.ru32_any s (qX s p : Nat) w' (by omega)
  have h3 := fun w' => Oc.ru16_any s (Oc.so s (qX s p : Nat) 4) w' (by omega)
  have h4 := fun w' => reftake_any s (Oc.so s (Oc.so s (qX s p : Nat) 4) 2) (Oc.un s (Oc.so s (qX s p : Nat) 4) 2) (qR s p).k hk hs w'
  have q1 := qE_two s p
  have q2 := se_two s (qX s p : Nat) 4
  have q3 := se_two s (Oc.so s (qX s p : Nat) 4) 2
  have q4 := tdE_two s (Oc.so s (Oc.so s (qX s p : Nat) 4) 2) (Oc.un s (Oc.so s (qX s p : Nat) 4) 2) (qR s p).k
  have hun := Oc.un_lt16 s (Oc.so s (qX s p : Nat) 4)
  have hso0 : 0 ≤ Oc.so s (Oc.so s (qX s p : Nat) 4) 2 ∧ Oc.so s (Oc.so s (qX s p : Nat) 4) 2 ≤ 1000 := by
    generalize Oc.so s (qX s p : Nat) 4 = y
    unfold Oc.so
    split
    · rename_i h; unfold Oc.okS at h; omega
    · omega
  clear a1 a2 a3
  generalize tdE s (Oc.so s (Oc.so s (qX s p : Nat) 4) 2) (Oc.un s (Oc.so s (qX s p : Nat) 4) 2) (qR s p).k = E4 at *
  generalize tdS s (Oc.so s (Oc.so s (qX s p : Nat) 4) 2) (Oc.un s (Oc.so s (qX s p : Nat) 4) 2) (qR s p).k = D at *
  generalize Oc.se s (Oc.so s (qX s p : Nat) 4) 2 = E3 at *
  generalize Oc.so s (Oc.so s (qX s p : Nat) 4) 2 = X3 at *
  generalize Oc.un s (Oc.so s (qX s p : Nat) 4) 2 = M at *
  generalize Oc.se s (qX s p : Nat) 4 = E2 at *
  generalize Oc.so s (qX s p : Nat) 4 = X2 at *
  generalize Oc.un s (qX s p : Nat) 4 = T at *
  generalize ((qE s p : Nat) : Int) = E1 at *
  generalize ((qX s p : Nat) : Int) = X1 at *
  generalize (qR s p).n = N at *
  generalize (qR s p).k = K at *
  generalize (((qR s p).c : Nat) : Int) = C at *
  have H1 := Lib.hid h1
  have H2 := Lib.hid h2
  have H3 := Lib.hid h3
  have H4 := Lib.hid h4
  have HN := Lib.hid (World.alloc_heap_new w (Obj.cells #[Value.string ⟨#[]⟩, .int .u16 0, .int .u16 0, .int .u32 0, .string ⟨#[]⟩] 25))
  have HA := Lib.hid ((Below.refl w.heap.size w).alloc (Nat.le_refl _) (Obj.cells #[Value.string ⟨#[]⟩, .int .u16 0, .int .u16 0, .int .u32 0, .string ⟨#[]⟩] 25))
  clear h1 h2 h3 h4
  rcases q1 with rfl | rfl
  · rcases q2 with rfl | rfl
    · rcases q3 with rfl | rfl
      · rcases q4 with rfl | rfl
        · simp only [if_true]
          go_enter Tryd.func12, Tryd.ntmps12
          go_wp2_with fail
          refine (H1.out _).mono ?_
          rintro e w1 ⟨rfl, hb1⟩
          have HN1 := Lib.hid ((hb1.block w.heap.size (by simp)).trans HN.out)
          have HA1 := Lib.hid (HA.out.trans (hb1.mono HA.out.size))
          clear hb1
          have HN2 := Lib.hid ((heap_alloc_old w1 (Obj.cells #[Value.string N, .int .u16 (K : Nat), .int .u16 C] 29) (heap_lt HN1.out)).trans HN1.out)
          have HA2 := Lib.hid (HA1.out.alloc HA1.out.size (Obj.cells #[Value.string N, .int .u16 (K : Nat), .int .u16 C] 29))
          have HQ2 := Lib.hid (World.alloc_heap_new w1 (Obj.cells #[Value.string N, .int .u16 (K : Nat), .int .u16 C] 29))
          obtain ⟨w2, hw2⟩ : ∃ w2, w2 = w1.alloc (Obj.cells #[Value.string N, .int .u16 (K : Nat), .int .u16 C] 29) := ⟨_, rfl⟩
          have HW2 := Lib.hid hw2
          rw [← hw2] at HN2 HA2 HQ2
          clear hw2 HN1 HA1
          go_wp2_with fail
          rw [← HW2.out]
          refine (H2.out _).mono ?_
          rintro e w3 ⟨rfl, hb⟩
          have HN3 := Lib.hid ((hb.block _ (heap_lt HN2.out)).trans HN2.out)
          have HQ3 := Lib.hid ((hb.block _ (heap_lt HQ2.out)).trans HQ2.out)
          have HA3 := Lib.hid (HA2.out.trans (hb.mono HA2.out.size))
          clear hb HN2 HQ2 HA2
          go_wp2_with fail
          refine (H3.out _).mono ?_
          rintro e w4 ⟨rfl, hb⟩
          have HN4 := Lib.hid ((hb.block _ (heap_lt HN3.out)).trans HN3.out)
          have HQ4 := Lib.hid ((hb.block _ (heap_lt HQ3.out)).trans HQ3.out)
          have HA4 := Lib.hid (HA3.out.trans (hb.mono HA3.out.size))
          clear hb HN3 HQ3 HA3
          have c1 : w4.cell? ⟨w1.heap.size, 1, none⟩ = some (.int .u16 (K : Nat)) := blk_cell HQ4.out 1
          go_wp2_with fail
          refine (H4.out _).mono ?_
          rintro e w5 ⟨rfl, hb⟩
          have HN5 := Lib.hid ((hb.block _ (heap_lt HN4.out)).trans HN4.out)
          have HQ5 := Lib.hid ((hb.block _ (heap_lt HQ4.out)).trans HQ4.out)
          have HA5 := Lib.hid (HA4.out.trans (hb.mono HA4.out.size))
          clear hb HN4 HQ4 HA4
          clear c1
          have d0 : w5.cell? ⟨w1.heap.size, 0, none⟩ = some (.string N) := blk_cell HQ5.out 0
          have d1 : w5.cell? ⟨w1.heap.size, 1, none⟩ = some (.int .u16 (K : Nat)) := blk_cell HQ5.out 1
          have d2 : w5.cell? ⟨w1.heap.size, 2, none⟩ = some (.int .u16 C) := blk_cell HQ5.out 2
          go_wp2_with (refine wpList_store_row rfl 25 _ _ rfl w.heap.size _ rfl rfl 25 _ HN5.out infoR rfl (all5 _ _ _ _ _) ?_)
          refine ret_r3 (g := w.heap.size) rfl rfl rfl rfl rfl (setRow_heap _ _ _ _ _ _ HN5.out) ⟨?_, setRow_below HA5.out (Nat.le_refl _) _⟩
          simp [cmbW, cmbX, cmbE]

        · simp only [if_true]
          go_enter Tryd.func12, Tryd.ntmps12
          go_wp2_with fail
          refine (H1.out _).mono ?_
          rintro e w1 ⟨rfl, hb1⟩
          have HN1 := Lib.hid ((hb1.block w.heap.size (by simp)).trans HN.out)
          have HA1 := Lib.hid (HA.out.trans (hb1.mono HA.out.size))
          clear hb1
          have HN2 := Lib.hid ((heap_alloc_old w1 (Obj.cells #[Value.string N, .int .u16 (K : Nat), .int .u16 C] 29) (heap_lt HN1.out)).trans HN1.out)
          have HA2 := Lib.hid (HA1.out.alloc HA1.out.size (Obj.cells #[Value.string N, .int .u16 (K : Nat), .int .u16 C] 29))
          have HQ2 := Lib.hid (World.alloc_heap_new w1 (Obj.cells #[Value.string N, .int .u16 (K : Nat), .int .u16 C] 29))
          obtain ⟨w2, hw2⟩ : ∃ w2, w2 = w1.alloc (Obj.cells #[Value.string N, .int .u16 (K : Nat), .int .u16 C] 29) := ⟨_, rfl⟩
          have HW2 := Lib.hid hw2
          rw [← hw2] at HN2 HA2 HQ2
          clear hw2 HN1 HA1
          go_wp2_with fail
          rw [← HW2.out]
          refine (H2.out _).mono ?_
          rintro e w3 ⟨rfl, hb⟩
          have HN3 := Lib.hid ((hb.block _ (heap_lt HN2.out)).trans HN2.out)
          have HQ3 := Lib.hid ((hb.block _ (heap_lt HQ2.out)).trans HQ2.out)
          have HA3 := Lib.hid (HA2.out.trans (hb.mono HA2.out.size))
          clear hb HN2 HQ2 HA2
          go_wp2_with fail
          refine (H3.out _).mono ?_
          rintro e w4 ⟨rfl, hb⟩
          have HN4 := Lib.hid ((hb.block _ (heap_lt HN3.out)).trans HN3.out)
          have HQ4 := Lib.hid ((hb.block _ (heap_lt HQ3.out)).trans HQ3.out)
          have HA4 := Lib.hid (HA3.out.trans (hb.mono HA3.out.size))
          clear hb HN3 HQ3 HA3
          have c1 : w4.cell? ⟨w1.heap.size, 1, none⟩ = some (.int .u16 (K : Nat)) := blk_cell HQ4.out 1
          go_wp2_with fail
          refine (H4.out _).mono ?_
          rintro e w5 ⟨rfl, hb⟩
          have HN5 := Lib.hid ((hb.block _ (heap_lt HN4.out)).trans HN4.out)
          have HQ5 := Lib.hid ((hb.block _ (heap_lt HQ4.out)).trans HQ4.out)
          have HA5 := Lib.hid (HA4.out.trans (hb.mono HA4.out.size))
          clear hb HN4 HQ4 HA4
          clear c1
          go_wp2_with (refine wpList_store_row rfl 25 _ _ rfl w.heap.size _ rfl rfl 25 _ HN5.out infoR rfl (all5 _ _ _ _ _) ?_)
          refine ret_r3 (g := w.heap.size) rfl rfl rfl rfl rfl (setRow_heap _ _ _ _ _ _ HN5.out) ⟨?_, setRow_below HA5.out (Nat.le_refl _) _⟩
          simp [cmbW, cmbX, cmbE]

      · clear q4
        go_enter Tryd.func12, Tryd.ntmps12
        go_wp2_with fail
        refine (H1.out _).mono ?_
        rintro e w1 ⟨rfl, hb1⟩
        have HN1 := Lib.hid ((hb1.block w.heap.size (by simp)).trans HN.out)
        have HA1 := Lib.hid (HA.out.trans (hb1.mono HA.out.size))
        clear hb1
        have HN2 := Lib.hid ((heap_alloc_old w1 (Obj.cells #[Value.string N, .int .u16 (K : Nat), .int .u16 C] 29) (heap_lt HN1.out)).trans HN1.out)
        have HA2 := Lib.hid (HA1.out.alloc HA1.out.size (Obj.cells #[Value.string N, .int .u16 (K : Nat), .int .u16 C] 29))
        have HQ2 := Lib.hid (World.alloc_heap_new w1 (Obj.cells #[Value.string N, .int .u16 (K : Nat), .int .u16 C] 29))
        obtain ⟨w2, hw2⟩ : ∃ w2, w2 = w1.alloc (Obj.cells #[Value.string N, .int .u16 (K : Nat), .int .u16 C] 29) := ⟨_, rfl⟩
        have HW2 := Lib.hid hw2
        rw [← hw2] at HN2 HA2 HQ2
        clear hw2 HN1 HA1
        go_wp2_with fail
        rw [← HW2.out]
        refine (H2.out _).mono ?_
        rintro e w3 ⟨rfl, hb⟩
        have HN3 := Lib.hid ((hb.block _ (heap_lt HN2.out)).trans HN2.out)
        have HQ3 := Lib.hid ((hb.block _ (heap_lt HQ2.out)).trans HQ2.out)
        have HA3 := Lib.hid (HA2.out.trans (hb.mono HA2.out.size))
        clear hb HN2 HQ2 HA2
        go_wp2_with fail
        refine (H3.out _).mono ?_
        rintro e w4 ⟨rfl, hb⟩
        have HN4 := Lib.hid ((hb.block _ (heap_lt HN3.out)).trans HN3.out)
        have HQ4 := Lib.hid ((hb.block _ (heap_lt HQ3.out)).trans HQ3.out)
        have HA4 := Lib.hid (HA3.out.trans (hb.mono HA3.out.size))
        clear hb HN3 HQ3 HA3
        go_wp2_with (refine wpList_store_row rfl 25 _ _ rfl w.heap.size _ rfl rfl 25 _ HN4.out infoR rfl (all5 _ _ _ _ _) ?_)
        refine ret_r3 (g := w.heap.size) rfl rfl rfl rfl rfl (setRow_heap _ _ _ _ _ _ HN4.out) ⟨?_, setRow_below HA4.out (Nat.le_refl _) _⟩
        simp [cmbW, cmbX, cmbE]

    · clear q4
      rcases q3 with rfl | rfl
      all_goals
        go_enter Tryd.func12, Tryd.ntmps12
        go_wp2_with fail
        refine (H1.out _).mono ?_
        rintro e w1 ⟨rfl, hb1⟩
        have HN1 := Lib.hid ((hb1.block w.heap.size (by simp)).trans HN.out)
        have HA1 := Lib.hid (HA.out.trans (hb1.mono HA.out.size))
        clear hb1
        have HN2 := Lib.hid ((heap_alloc_old w1 (Obj.cells #[Value.string N, .int .u16 (K : Nat), .int .u16 C] 29) (heap_lt HN1.out)).trans HN1.out)
        have HA2 := Lib.hid (HA1.out.alloc HA1.out.size (Obj.cells #[Value.string N, .int .u16 (K : Nat), .int .u16 C] 29))
        have HQ2 := Lib.hid (World.alloc_heap_new w1 (Obj.cells #[Value.string N, .int .u16 (K : Nat), .int .u16 C] 29))
        obtain ⟨w2, hw2⟩ : ∃ w2, w2 = w1.alloc (Obj.cells #[Value.string N, .int .u16 (K : Nat), .int .u16 C] 29) := ⟨_, rfl⟩
        have HW2 := Lib.hid hw2
        rw [← hw2] at HN2 HA2 HQ2
        clear hw2 HN1 HA1
        go_wp2_with fail
        rw [← HW2.out]
        refine (H2.out _).mono ?_
        rintro e w3 ⟨rfl, hb⟩
        have HN3 := Lib.hid ((hb.block _ (heap_lt HN2.out)).trans HN2.out)
        have HQ3 := Lib.hid ((hb.block _ (heap_lt HQ2.out)).trans HQ2.out)
        have HA3 := Lib.hid (HA2.out.trans (hb.mono HA2.out.size))
        clear hb HN2 HQ2 HA2
        go_wp2_with fail
        refine (H3.out _).mono ?_
        rintro e w4 ⟨rfl, hb⟩
        have HN4 := Lib.hid ((hb.block _ (heap_lt HN3.out)).trans HN3.out)
        have HQ4 := Lib.hid ((hb.block _ (heap_lt HQ3.out)).trans HQ3.out)
        have HA4 := Lib.hid (HA3.out.trans (hb.mono HA3.out.size))
        clear hb HN3 HQ3 HA3
        go_wp2_with (refine wpList_store_row rfl 25 _ _ rfl w.heap.size _ rfl rfl 25 _ HN4.out infoR rfl (all5 _ _ _ _ _) ?_)
        refine ret_r3 (g := w.heap.size) rfl rfl rfl rfl rfl (setRow_heap _ _ _ _ _ _ HN4.out) ⟨?_, setRow_below HA4.out (Nat.le_refl _) _⟩
        simp [cmbW, cmbX, cmbE]

  · clear q4 q2
    rcases q3 with rfl | rfl
    all_goals
      go_enter Tryd.func12, Tryd.ntmps12
      go_wp2_with fail
      refine (H1.out _).mono ?_
      rintro e w1 ⟨rfl, hb1⟩
      have HN1 := Lib.hid ((hb1.block w.heap.size (by simp)).trans HN.out)
      have HA1 := Lib.hid (HA.out.trans (hb1.mono HA.out.size))
      clear hb1
      have HN2 := Lib.hid ((heap_alloc_old w1 (Obj.cells #[Value.string N, .int .u16 (K : Nat), .int .u16 C] 29) (heap_lt HN1.out)).trans HN1.out)
      have HA2 := Lib.hid (HA1.out.alloc HA1.out.size (Obj.cells #[Value.string N, .int .u16 (K : Nat), .int .u16 C] 29))
      have HQ2 := Lib.hid (World.alloc_heap_new w1 (Obj.cells #[Value.string N, .int .u16 (K : Nat), .int .u16 C] 29))
      obtain ⟨w2, hw2⟩ : ∃ w2, w2 = w1.alloc (Obj.cells #[Value.string N, .int .u16 (K : Nat), .int .u16 C] 29) := ⟨_, rfl⟩
      have HW2 := Lib.hid hw2
      rw [← hw2] at HN2 HA2 HQ2
      clear hw2 HN1 HA1
      go_upto_region 3 with (fail)
      rw [← HW2.out]
      go_wp2_with (refine wpList_store_row rfl 25 _ _ rfl w.heap.size _ rfl rfl 25 _ HN2.out infoR rfl (all5 _ _ _ _ _) ?_)
      refine ret_r3 (g := w.heap.size) rfl rfl rfl rfl rfl (setRow_heap _ _ _ _ _ _ HN2.out) ⟨?_, setRow_below HA2.out (Nat.le_refl _) _⟩
      simp [cmbW, cmbX, cmbE]

end Go.Proofs.YtlphbeaaeeohjaaDoor

namespace Go.Proofs.YtlphbeaaeeohjaaDoor
open Go.RowKit
set_option linter.unusedVariables false

/-- Blocks of memory, with their cells. -/
def Hp (l : List (Nat × Array Value × TypeId)) (W : World) : Prop := ∀ p ∈ l, W.heap[p.1]? = some (.cells p.2.1 p.2.2 (0, 0))
theorem Hp.call {l : List (Nat × Array Value × TypeId)} {W W' : World} (h : Hp l W) (hb : Below W.heap.size W W') : Hp l W' := fun p hp => (hb.block _ (heap_lt (h p hp))).trans (h p hp)
theorem Hp.drew {l : List (Nat × Array Value × TypeId)} {W : World} (h : Hp l W) : Hp l W.drew := fun p hp => h p hp
theorem Hp.alloc {l : List (Nat × Array Value × TypeId)} {W : World} (h : Hp l W) (cs : Array Value) (t : TypeId) : Hp ((W.heap.size, cs, t) :: l) (W.alloc (Obj.cells cs t)) := fun p hp => by
  rcases List.mem_cons.1 hp with rfl | hp
  · exact World.alloc_heap_new W _
  · exact (heap_alloc_old W _ (heap_lt (h p hp))).trans (h p hp)
theorem Hp.at {l : List (Nat × Array Value × TypeId)} {W : World} (h : Hp l W) (i : Nat) {g : Nat} {cs : Array Value} {t : TypeId} (hi : l[i]? = some (g, cs, t)) : W.heap[g]? = some (.cells cs t (0, 0)) := h (g, cs, t) (List.mem_of_getElem? hi)

set_option maxRecDepth 100000 in
set_option maxHeartbeats 4000000 in
theorem tells_walk (n n' d d' s : ByteArray) (k k' c c' t t' : Nat) (p : Int) (hk : k < 65536) (hc : c < 65536) (ht : t < 4294967296) (hs : s.size ≤ 140737488355328) (hp : p ≤ maxLen) (w : World) (hL : Lay w) :
    Calls Tryd.prog 3 #[.agg #[.string n, .int .u16 (k : Nat), .int .u16 (c : Nat), .int .u32 (t : Nat), .string d], .agg #[.string n', .int .u16 (k' : Nat), .int .u16 (c' : Nat), .int .u32 (t' : Nat), .string d'], .string s, .int .i64 p] w fun e w' => e = .returned (.bool true) ∧ Below w.heap.size w w' := by
  have HL := Lib.hid hL
  have H0 := Lib.hid (lay_lt hL)
  clear hL
  have HS := Lib.hid (Bx.start w #[.string n, .int .u16 (k : Nat), .int .u16 (c : Nat), .int .u32 (t : Nat), .string d] #[.string n', .int .u16 (k' : Nat), .int .u16 (c' : Nat), .int .u32 (t' : Nat), .string d'])
  have HLs := Lib.hid (HL.out.below H0.out HS.out.bel)
  go_enter Tryd.func3, Tryd.ntmps3
  go_wp2_with fail
  refine (rshown_any _ HLs.out).mono ?_
  rintro e w1 ⟨rfl, hb1⟩
  have HS1 := Lib.hid (HS.out.call hb1)
  clear hb1 HS HLs
  by_cases hbig : 1000 < s.size
  · have hb : decide ((1000 : Int) < (s.size : Int)) = true := by simp; omega
    go_wp2_with fail
    go_ret
    exact ⟨rfl, HS1.out.bel⟩
  have hnb : decide ((1000 : Int) < (s.size : Int)) = false := by simp; omega
  have hfa := few_any ⟨n, k, c, t, d⟩
  have hfb := few_any ⟨n', k', c', t', d'⟩
  have a0 : w1.cell? ⟨w.heap.size, 0, none⟩ = some (.string n) := blk_cell HS1.out.one 0
  have a1 : w1.cell? ⟨w.heap.size, 1, none⟩ = some (.int .u16 (k : Nat)) := blk_cell HS1.out.one 1
  have a2 : w1.cell? ⟨w.heap.size, 2, none⟩ = some (.int .u16 (c : Nat)) := blk_cell HS1.out.one 2
  have a3 : w1.cell? ⟨w.heap.size, 3, none⟩ = some (.int .u32 (t : Nat)) := blk_cell HS1.out.one 3
  have a4 : w1.cell? ⟨w.heap.size, 4, none⟩ = some (.string d) := blk_cell HS1.out.one 4
  cases ha : fewR ⟨n, k, c, t, d⟩ with
  | false =>
    rw [ha] at hfa
    have HFa := Lib.hid hfa
    clear hfa hfb
    go_wp2_with fail
    refine (HFa.out _).mono ?_
    rintro e w2 ⟨rfl, hb2⟩
    have HS2 := Lib.hid (HS1.out.call hb2)
    clear hb2
    go_wp2_with fail
    go_ret
    exact ⟨rfl, HS2.out.bel⟩
  | true =>
    rw [ha] at hfa
    have HFa := Lib.hid hfa
    clear hfa
    cases hb : fewR ⟨n', k', c', t', d'⟩ with
    | false =>
      rw [hb] at hfb
      have HFb := Lib.hid hfb
      clear hfb
      go_wp2_with fail
      refine (HFa.out _).mono ?_
      rintro e w2 ⟨rfl, hb2⟩
      have HS2 := Lib.hid (HS1.out.call hb2)
      clear hb2
      have b0 : w2.cell? ⟨w.heap.size + 1, 0, none⟩ = some (.string n') := blk_cell HS2.out.two 0
      have b1 : w2.cell? ⟨w.heap.size + 1, 1, none⟩ = some (.int .u16 (k' : Nat)) := blk_cell HS2.out.two 1
      have b2 : w2.cell? ⟨w.heap.size + 1, 2, none⟩ = some (.int .u16 (c' : Nat)) := blk_cell HS2.out.two 2
      have b3 : w2.cell? ⟨w.heap.size + 1, 3, none⟩ = some (.int .u32 (t' : Nat)) := blk_cell HS2.out.two 3
      have b4 : w2.cell? ⟨w.heap.size + 1, 4, none⟩ = some (.string d') := blk_cell HS2.out.two 4
      go_wp2_with fail
      refine (HFb.out _).mono ?_
      rintro e w3 ⟨rfl, hb3⟩
      have HS3 := Lib.hid (HS2.out.call hb3)
      clear hb3
      go_wp2_with fail
      go_ret
      exact ⟨rfl, HS3.out.bel⟩
    | true =>
      rw [hb] at hfb
      have HFb := Lib.hid hfb
      have hds : n.size ≤ 700 ∧ d.size ≤ 700 := by unfold fewR at ha; simpa using ha
      obtain ⟨MM, hMM⟩ : ∃ M, mayR ⟨n, k, c, t, d⟩ = M := ⟨_, rfl⟩
      obtain ⟨NN, hNN⟩ : ∃ M, mayB n = M := ⟨_, rfl⟩
      obtain ⟨SS, hSS⟩ : ∃ M, sameR ⟨n, k, c, t, d⟩ ⟨n', k', c', t', d'⟩ = M := ⟨_, rfl⟩
      have HM := Lib.hid (show ∀ w', Lay w' → Calls Tryd.prog 15 #[.agg #[.string n, .int .u16 (k : Nat), .int .u16 (c : Nat), .int .u32 (t : Nat), .string d]] w' (fun e w'' => e = .returned (.bool MM) ∧ Below w'.heap.size w' w'') from fun w' hL' => by have := mayr_any ⟨n, k, c, t, d⟩ (by simp only; omega) (by simp only; omega) ⟨hk, hc, ht⟩ w' hL'; rw [hMM] at this; exact this)
      have HM2 := Lib.hid (show ∀ w', Calls Tryd.prog 16 #[.agg #[.string n, .int .u16 (k : Nat), .int .u16 (c : Nat), .int .u32 (t : Nat), .string d]] w' (fun e w'' => e = .returned (.bool MM) ∧ Below w'.heap.size w' w'') from fun w' => by have := fmayr_any ⟨n, k, c, t, d⟩ (by simp only; omega) (by simp only; omega) ⟨hk, hc, ht⟩ w'; rw [hMM] at this; exact this)
      have HN := Lib.hid (show ∀ w', Calls Tryd.prog 17 #[.agg #[.string n, .int .u16 (k : Nat), .int .u16 (c : Nat)]] w' (fun e w'' => e = .returned (.bool NN) ∧ Below w'.heap.size w' w'') from fun w' => by have := mayq_any n k c (by omega) w'; rw [hNN] at this; exact this)
      have HN2 := Lib.hid (show ∀ w', Calls Tryd.prog 18 #[.agg #[.string n, .int .u16 (k : Nat), .int .u16 (c : Nat)]] w' (fun e w'' => e = .returned (.bool NN) ∧ Below w'.heap.size w' w'') from fun w' => by have := fmayq_any n k c (by omega) w'; rw [hNN] at this; exact this)
      have HS := Lib.hid (show ∀ w', Calls Tryd.prog 19 #[.agg #[.string n, .int .u16 (k : Nat), .int .u16 (c : Nat), .int .u32 (t : Nat), .string d], .agg #[.string n', .int .u16 (k' : Nat), .int .u16 (c' : Nat), .int .u32 (t' : Nat), .string d']] w' (fun e w'' => e = .returned (.bool SS) ∧ Below w'.heap.size w' w'') from fun w' => by have := same_any ⟨n, k, c, t, d⟩ ⟨n', k', c', t', d'⟩ w'; rw [hSS] at this; exact this)
      have HS2 := Lib.hid (show ∀ w', Calls Tryd.prog 20 #[.agg #[.string n, .int .u16 (k : Nat), .int .u16 (c : Nat), .int .u32 (t : Nat), .string d], .agg #[.string n', .int .u16 (k' : Nat), .int .u16 (c' : Nat), .int .u32 (t' : Nat), .string d']] w' (fun e w'' => e = .returned (.bool SS) ∧ Below w'.heap.size w' w'') from fun w' => by have := fsame_any ⟨n, k, c, t, d⟩ ⟨n', k', c', t', d'⟩ w'; rw [hSS] at this; exact this)
      have h11 := fun w' hL' => taker_any s p (by omega) hp w' hL'
      have h12 := fun w' => ftaker_any s p (by omega) hp w'
      have h13 := fun w' => takeq_any s p (by omega) hp w'
      have h14 := fun w' => ftakeq_any s p (by omega) hp w'
      generalize (rR s p).n = rn at *
      generalize (((rR s p).k : Nat) : Int) = rk at *
      generalize (((rR s p).c : Nat) : Int) = rc at *
      generalize (((rR s p).t : Nat) : Int) = rt at *
      generalize (rR s p).d = rd at *
      generalize ((rX s p : Nat) : Int) = rx at *
      generalize ((rE s p : Nat) : Int) = re at *
      generalize (qR s p).n = qn at *
      generalize (((qR s p).k : Nat) : Int) = qk at *
      generalize (((qR s p).c : Nat) : Int) = qc at *
      generalize ((qX s p : Nat) : Int) = qx at *
      generalize ((qE s p : Nat) : Int) = qe at *
      have H11 := Lib.hid h11
      have H12 := Lib.hid h12
      have H13 := Lib.hid h13
      have H14 := Lib.hid h14
      clear hfb hMM hNN hSS h11 h12 h13 h14 hds
      go_wp2_with fail
      refine (HFa.out _).mono ?_
      rintro e w2 ⟨rfl, hb2⟩
      have HX2 := Lib.hid (HS1.out.call hb2)
      clear hb2
      have b0 : w2.cell? ⟨w.heap.size + 1, 0, none⟩ = some (.string n') := blk_cell HX2.out.two 0
      have b1 : w2.cell? ⟨w.heap.size + 1, 1, none⟩ = some (.int .u16 (k' : Nat)) := blk_cell HX2.out.two 1
      have b2 : w2.cell? ⟨w.heap.size + 1, 2, none⟩ = some (.int .u16 (c' : Nat)) := blk_cell HX2.out.two 2
      have b3 : w2.cell? ⟨w.heap.size + 1, 3, none⟩ = some (.int .u32 (t' : Nat)) := blk_cell HX2.out.two 3
      have b4 : w2.cell? ⟨w.heap.size + 1, 4, none⟩ = some (.string d') := blk_cell HX2.out.two 4
      go_wp2_with fail
      refine (HFb.out _).mono ?_
      rintro e w3 ⟨rfl, hb3⟩
      have HX3 := Lib.hid (HX2.out.call hb3)
      have HF := Lib.hid (show Hp [(w.heap.size + 1, #[.string n', .int .u16 (k' : Nat), .int .u16 (c' : Nat), .int .u32 (t' : Nat), .string d'], 25), (w.heap.size, #[.string n, .int .u16 (k : Nat), .int .u16 (c : Nat), .int .u32 (t : Nat), .string d], 25)] w3 from fun p hp => by
        rcases List.mem_cons.1 hp with rfl | hp
        · exact HX3.out.two
        · rcases List.mem_cons.1 hp with rfl | hp
          · exact HX3.out.one
          · cases hp)
      have HB := Lib.hid HX3.out.bel
      clear hb3 HX2 HX3 HS1 HFa HFb
      clear b0 b1 b2 b3 b4 a0 a1 a2 a3 a4
      go_wp2_with (refine wpList_load_row rfl 25 _ rfl w.heap.size rfl 25 _ _ _ (HF.out.at 1 rfl) Tryd.underlying25 rfl infoR ?_)
      refine (key_any _ _ _ _ _ _).mono ?_
      rintro e w4 ⟨rfl, hb⟩
      have HFa := Lib.hid ((HF.out.call hb).alloc #[.string n, .int .u16 (k : Nat), .int .u16 (c : Nat)] 29)
      have hbel := HB.out.trans (hb.mono HB.out.size)
      have HBa := Lib.hid (hbel.alloc hbel.size (Obj.cells #[.string n, .int .u16 (k : Nat), .int .u16 (c : Nat)] 29))
      obtain ⟨w5, hwa⟩ : ∃ W, W = w4.alloc (Obj.cells #[.string n, .int .u16 (k : Nat), .int .u16 (c : Nat)] 29) := ⟨_, rfl⟩
      rw [← hwa] at HFa HBa
      have HWw5 := Lib.hid hwa
      clear hb hbel hwa HF HB
      have HF := HFa
      have HB := HBa
      clear HFa HBa
      go_wp2_with fail
      rw [← HWw5.out]
      refine (H11.out _ (HL.out.below H0.out HB.out)).mono ?_
      rintro e w6 ⟨rfl, hb⟩
      have HFa := Lib.hid ((HF.out.call hb).alloc #[.string rn, .int .u16 rk, .int .u16 rc, .int .u32 rt, .string rd] 25)
      have hbel := HB.out.trans (hb.mono HB.out.size)
      have HBa := Lib.hid (hbel.alloc hbel.size (Obj.cells #[.string rn, .int .u16 rk, .int .u16 rc, .int .u32 rt, .string rd] 25))
      obtain ⟨w7, hwa⟩ : ∃ W, W = w6.alloc (Obj.cells #[.string rn, .int .u16 rk, .int .u16 rc, .int .u32 rt, .string rd] 25) := ⟨_, rfl⟩
      rw [← hwa] at HFa HBa
      have HWw7 := Lib.hid hwa
      clear hb hbel hwa HF HB
      have HF := HFa
      have HB := HBa
      clear HFa HBa
      go_wp2_with fail
      rw [← HWw7.out]
      refine (H12.out _).mono ?_
      rintro e w8 ⟨rfl, hb⟩
      have HFa := Lib.hid ((HF.out.call hb).alloc #[.string rn, .int .u16 rk, .int .u16 rc, .int .u32 rt, .string rd] 25)
      have hbel := HB.out.trans (hb.mono HB.out.size)
      have HBa := Lib.hid (hbel.alloc hbel.size (Obj.cells #[.string rn, .int .u16 rk, .int .u16 rc, .int .u32 rt, .string rd] 25))
      obtain ⟨w9, hwa⟩ : ∃ W, W = w8.alloc (Obj.cells #[.string rn, .int .u16 rk, .int .u16 rc, .int .u32 rt, .string rd] 25) := ⟨_, rfl⟩
      rw [← hwa] at HFa HBa
      have HWw9 := Lib.hid hwa
      clear hb hbel hwa HF HB
      have HF := HFa
      have HB := HBa
      clear HFa HBa
      go_wp2_with fail
      rw [← HWw9.out]
      refine (H13.out _).mono ?_
      rintro e w10 ⟨rfl, hb⟩
      have HFa := Lib.hid ((HF.out.call hb).alloc #[.string qn, .int .u16 qk, .int .u16 qc] 29)
      have hbel := HB.out.trans (hb.mono HB.out.size)
      have HBa := Lib.hid (hbel.alloc hbel.size (Obj.cells #[.string qn, .int .u16 qk, .int .u16 qc] 29))
      obtain ⟨w11, hwa⟩ : ∃ W, W = w10.alloc (Obj.cells #[.string qn, .int .u16 qk, .int .u16 qc] 29) := ⟨_, rfl⟩
      rw [← hwa] at HFa HBa
      have HWw11 := Lib.hid hwa
      clear hb hbel hwa HF HB
      have HF := HFa
      have HB := HBa
      clear HFa HBa
      go_wp2_with fail
      rw [← HWw11.out]
      refine (H14.out _).mono ?_
      rintro e w12 ⟨rfl, hb⟩
      have HFa := Lib.hid ((HF.out.call hb).alloc #[.string qn, .int .u16 qk, .int .u16 qc] 29)
      have hbel := HB.out.trans (hb.mono HB.out.size)
      have HBa := Lib.hid (hbel.alloc hbel.size (Obj.cells #[.string qn, .int .u16 qk, .int .u16 qc] 29))
      obtain ⟨w13, hwa⟩ : ∃ W, W = w12.alloc (Obj.cells #[.string qn, .int .u16 qk, .int .u16 qc] 29) := ⟨_, rfl⟩
      rw [← hwa] at HFa HBa
      have HWw13 := Lib.hid hwa
      clear hb hbel hwa HF HB
      have HF := HFa
      have HB := HBa
      clear HFa HBa
      go_upto_region 9 with (fail)
      rw [← HWw13.out]
      clear HWw5 HWw7 HWw9 HWw11 HWw13 H11 H12 H13 H14
      have HFd := Lib.hid HF.out.drew
      have HBd := Lib.hid HB.out.drew
      clear HF HB
      have HF := HFd
      have HB := HBd
      clear HFd HBd
      refine wp_region_held_drew (S := fun w' => Hp [(w12.heap.size, #[.string qn, .int .u16 qk, .int .u16 qc], 29), (w10.heap.size, #[.string qn, .int .u16 qk, .int .u16 qc], 29), (w8.heap.size, #[.string rn, .int .u16 rk, .int .u16 rc, .int .u32 rt, .string rd], 25), (w6.heap.size, #[.string rn, .int .u16 rk, .int .u16 rc, .int .u32 rt, .string rd], 25), (w4.heap.size, #[.string n, .int .u16 (k : Nat), .int .u16 (c : Nat)], 29), (w.heap.size + 1, #[.string n', .int .u16 (k' : Nat), .int .u16 (c' : Nat), .int .u32 (t' : Nat), .string d'], 25), (w.heap.size, #[.string n, .int .u16 (k : Nat), .int .u16 (c : Nat), .int .u32 (t : Nat), .string d], 25)] w') (by kernel_rfl) HF.out (fun hHeld => ?_)
      refine wpAnyH_take (i := 0) (v := .agg #[.string n, .int .u16 (k : Nat), .int .u16 (c : Nat), .int .u32 (t : Nat), .string d]) rfl (by kernel_rfl) (by kernel_rfl) (by kernel_rfl) (fun _ _ _ h => h) (Or.inl ⟨by rfl, ?_⟩) (by assumption) ?_
      · (intro wq hSw; have e0 : wq.cell? ⟨w.heap.size, 0, none⟩ = some (.string n) := blk_cell (hSw.at 6 rfl) 0; have e1 : wq.cell? ⟨w.heap.size, 1, none⟩ = some (.int .u16 (k : Nat)) := blk_cell (hSw.at 6 rfl) 1; have e2 : wq.cell? ⟨w.heap.size, 2, none⟩ = some (.int .u16 (c : Nat)) := blk_cell (hSw.at 6 rfl) 2; have e3 : wq.cell? ⟨w.heap.size, 3, none⟩ = some (.int .u32 (t : Nat)) := blk_cell (hSw.at 6 rfl) 3; have e4 : wq.cell? ⟨w.heap.size, 4, none⟩ = some (.string d) := blk_cell (hSw.at 6 rfl) 4; go_simp)
      simp only [Act.put, List.getElem_toArray, List.getElem_cons_zero, List.setIfInBounds_toArray, List.set_cons_zero, List.set_cons_succ]
      refine wpAnyH_take (i := 2) (v := .agg #[.string n, .int .u16 (k : Nat), .int .u16 (c : Nat), .int .u32 (t : Nat), .string d]) rfl (by kernel_rfl) (by kernel_rfl) (by kernel_rfl) (fun _ _ _ h => h) (Or.inl ⟨by rfl, ?_⟩) (by assumption) ?_
      · (intro wq hSw; have e0 : wq.cell? ⟨w.heap.size, 0, none⟩ = some (.string n) := blk_cell (hSw.at 6 rfl) 0; have e1 : wq.cell? ⟨w.heap.size, 1, none⟩ = some (.int .u16 (k : Nat)) := blk_cell (hSw.at 6 rfl) 1; have e2 : wq.cell? ⟨w.heap.size, 2, none⟩ = some (.int .u16 (c : Nat)) := blk_cell (hSw.at 6 rfl) 2; have e3 : wq.cell? ⟨w.heap.size, 3, none⟩ = some (.int .u32 (t : Nat)) := blk_cell (hSw.at 6 rfl) 3; have e4 : wq.cell? ⟨w.heap.size, 4, none⟩ = some (.string d) := blk_cell (hSw.at 6 rfl) 4; go_simp)
      simp only [Act.put, List.getElem_toArray, List.getElem_cons_zero, List.getElem_cons_succ, List.setIfInBounds_toArray, List.set_cons_zero, List.set_cons_succ]
      refine wpAnyH_ready (rs := [1]) (by kernel_rfl) (by simp) ?_
      refine AllReadyH.cons rfl (fun K hK => ?_) AllReadyH.nil
      go_simp
      go_wp2_with (go_at_call 15; refine Calls.mono (HM.out _ (HL.out.below H0.out HB.out)) ?_; rintro e v1 ⟨rfl, hb⟩)
      have HF1 := Lib.hid (HF.out.call hb)
      have HB1 := Lib.hid (HB.out.trans (hb.mono HB.out.size))
      clear HF HB hb hHeld
      have HF := HF1
      have HB := HB1
      clear HF1 HB1
      refine hK.out _ _ HF.out (fun hHeld => ?_)
      clear hK K
      refine wpAnyH_ready (rs := [3]) (by kernel_rfl) (by simp) ?_
      refine AllReadyH.cons rfl (fun K hK => ?_) AllReadyH.nil
      go_simp
      go_wp2_with (go_at_call 16; refine Calls.mono (HM2.out _) ?_; rintro e v2 ⟨rfl, hb⟩)
      have HF2 := Lib.hid (HF.out.call hb)
      have HB2 := Lib.hid (HB.out.trans (hb.mono HB.out.size))
      clear HF HB hb hHeld
      have HF := HF2
      have HB := HB2
      clear HF2 HB2
      refine hK.out _ _ HF.out (fun hHeld => ?_)
      clear hK K
      refine wpAnyH_take (i := 4) (v := .bool true) rfl (by kernel_rfl) (by kernel_rfl) (by kernel_rfl) (fun _ _ _ h => h) (Or.inl ⟨by rfl, ?_⟩) (by assumption) ?_
      · (intro wq hSw; go_simp)
      simp only [Act.put, List.getElem_toArray, List.getElem_cons_zero, List.getElem_cons_succ, List.setIfInBounds_toArray, List.set_cons_zero, List.set_cons_succ]
      refine wpAnyH_take (i := 5) (v := ?_) rfl (by kernel_rfl) (by kernel_rfl) (by kernel_rfl) (fun _ _ _ h => h) (Or.inl ⟨by rfl, ?_⟩) (by assumption) ?_
      rotate_left
      · (intro wq hSw; go_simp; try (with_reducible rfl))
      simp only [Act.put, List.getElem_toArray, List.getElem_cons_zero, List.getElem_cons_succ, List.setIfInBounds_toArray, List.set_cons_zero, List.set_cons_succ]
      refine wpAnyH_take (i := 6) (v := .agg #[.string n, .int .u16 (k : Nat), .int .u16 (c : Nat)]) rfl (by kernel_rfl) (by kernel_rfl) (by kernel_rfl) (fun _ _ _ h => h) (Or.inl ⟨by rfl, ?_⟩) (by assumption) ?_
      · (intro wq hSw; have e0 : wq.cell? ⟨w4.heap.size, 0, none⟩ = some (.string n) := blk_cell (hSw.at 4 rfl) 0; have e1 : wq.cell? ⟨w4.heap.size, 1, none⟩ = some (.int .u16 (k : Nat)) := blk_cell (hSw.at 4 rfl) 1; have e2 : wq.cell? ⟨w4.heap.size, 2, none⟩ = some (.int .u16 (c : Nat)) := blk_cell (hSw.at 4 rfl) 2; go_simp)
      simp only [Act.put, List.getElem_toArray, List.getElem_cons_zero, List.getElem_cons_succ, List.setIfInBounds_toArray, List.set_cons_zero, List.set_cons_succ]
      refine wpAnyH_take (i := 8) (v := .agg #[.string n, .int .u16 (k : Nat), .int .u16 (c : Nat)]) rfl (by kernel_rfl) (by kernel_rfl) (by kernel_rfl) (fun _ _ _ h => h) (Or.inl ⟨by rfl, ?_⟩) (by assumption) ?_
      · (intro wq hSw; have e0 : wq.cell? ⟨w4.heap.size, 0, none⟩ = some (.string n) := blk_cell (hSw.at 4 rfl) 0; have e1 : wq.cell? ⟨w4.heap.size, 1, none⟩ = some (.int .u16 (k : Nat)) := blk_cell (hSw.at 4 rfl) 1; have e2 : wq.cell? ⟨w4.heap.size, 2, none⟩ = some (.int .u16 (c : Nat)) := blk_cell (hSw.at 4 rfl) 2; go_simp)
      simp only [Act.put, List.getElem_toArray, List.getElem_cons_zero, List.getElem_cons_succ, List.setIfInBounds_toArray, List.set_cons_zero, List.set_cons_succ]
      refine wpAnyH_ready (rs := [7]) (by kernel_rfl) (by simp) ?_
      refine AllReadyH.cons rfl (fun K hK => ?_) AllReadyH.nil
      go_simp
      go_wp2_with (go_at_call 17; refine Calls.mono (HN.out _) ?_; rintro e v3 ⟨rfl, hb⟩)
      have HF3 := Lib.hid (HF.out.call hb)
      have HB3 := Lib.hid (HB.out.trans (hb.mono HB.out.size))
      clear HF HB hb hHeld
      have HF := HF3
      have HB := HB3
      clear HF3 HB3
      refine hK.out _ _ HF.out (fun hHeld => ?_)
      clear hK K
      refine wpAnyH_ready (rs := [9]) (by kernel_rfl) (by simp) ?_
      refine AllReadyH.cons rfl (fun K hK => ?_) AllReadyH.nil
      go_simp
      go_wp2_with (go_at_call 18; refine Calls.mono (HN2.out _) ?_; rintro e v4 ⟨rfl, hb⟩)
      have HF4 := Lib.hid (HF.out.call hb)
      have HB4 := Lib.hid (HB.out.trans (hb.mono HB.out.size))
      clear HF HB hb hHeld
      have HF := HF4
      have HB := HB4
      clear HF4 HB4
      refine hK.out _ _ HF.out (fun hHeld => ?_)
      clear hK K
      refine wpAnyH_take (i := 10) (v := .bool true) rfl (by kernel_rfl) (by kernel_rfl) (by kernel_rfl) (fun _ _ _ h => h) (Or.inl ⟨by rfl, ?_⟩) (by assumption) ?_
      · (intro wq hSw; go_simp)
      simp only [Act.put, List.getElem_toArray, List.getElem_cons_zero, List.getElem_cons_succ, List.setIfInBounds_toArray, List.set_cons_zero, List.set_cons_succ]
      refine wpAnyH_take (i := 11) (v := ?_) rfl (by kernel_rfl) (by kernel_rfl) (by kernel_rfl) (fun _ _ _ h => h) (Or.inl ⟨by rfl, ?_⟩) (by assumption) ?_
      rotate_left
      · (intro wq hSw; go_simp; try (with_reducible rfl))
      simp only [Act.put, List.getElem_toArray, List.getElem_cons_zero, List.getElem_cons_succ, List.setIfInBounds_toArray, List.set_cons_zero, List.set_cons_succ]
      refine wpAnyH_take (i := 12) (v := ?_) rfl (by kernel_rfl) (by kernel_rfl) (by kernel_rfl) (fun _ _ _ h => h) (Or.inl ⟨by rfl, ?_⟩) (by assumption) ?_
      rotate_left
      · (intro wq hSw; go_simp; try (with_reducible rfl))
      simp only [Act.put, List.getElem_toArray, List.getElem_cons_zero, List.getElem_cons_succ, List.setIfInBounds_toArray, List.set_cons_zero, List.set_cons_succ]
      refine wpAnyH_take (i := 13) (v := .agg #[.string n, .int .u16 (k : Nat), .int .u16 (c : Nat), .int .u32 (t : Nat), .string d]) rfl (by kernel_rfl) (by kernel_rfl) (by kernel_rfl) (fun _ _ _ h => h) (Or.inl ⟨by rfl, ?_⟩) (by assumption) ?_
      · (intro wq hSw; have e0 : wq.cell? ⟨w.heap.size, 0, none⟩ = some (.string n) := blk_cell (hSw.at 6 rfl) 0; have e1 : wq.cell? ⟨w.heap.size, 1, none⟩ = some (.int .u16 (k : Nat)) := blk_cell (hSw.at 6 rfl) 1; have e2 : wq.cell? ⟨w.heap.size, 2, none⟩ = some (.int .u16 (c : Nat)) := blk_cell (hSw.at 6 rfl) 2; have e3 : wq.cell? ⟨w.heap.size, 3, none⟩ = some (.int .u32 (t : Nat)) := blk_cell (hSw.at 6 rfl) 3; have e4 : wq.cell? ⟨w.heap.size, 4, none⟩ = some (.string d) := blk_cell (hSw.at 6 rfl) 4; go_simp)
      simp only [Act.put, List.getElem_toArray, List.getElem_cons_zero, List.getElem_cons_succ, List.setIfInBounds_toArray, List.set_cons_zero, List.set_cons_succ]
      refine wpAnyH_take (i := 14) (v := .agg #[.string n', .int .u16 (k' : Nat), .int .u16 (c' : Nat), .int .u32 (t' : Nat), .string d']) rfl (by kernel_rfl) (by kernel_rfl) (by kernel_rfl) (fun _ _ _ h => h) (Or.inl ⟨by rfl, ?_⟩) (by assumption) ?_
      · (intro wq hSw; have e0 : wq.cell? ⟨w.heap.size + 1, 0, none⟩ = some (.string n') := blk_cell (hSw.at 5 rfl) 0; have e1 : wq.cell? ⟨w.heap.size + 1, 1, none⟩ = some (.int .u16 (k' : Nat)) := blk_cell (hSw.at 5 rfl) 1; have e2 : wq.cell? ⟨w.heap.size + 1, 2, none⟩ = some (.int .u16 (c' : Nat)) := blk_cell (hSw.at 5 rfl) 2; have e3 : wq.cell? ⟨w.heap.size + 1, 3, none⟩ = some (.int .u32 (t' : Nat)) := blk_cell (hSw.at 5 rfl) 3; have e4 : wq.cell? ⟨w.heap.size + 1, 4, none⟩ = some (.string d') := blk_cell (hSw.at 5 rfl) 4; go_simp)
      simp only [Act.put, List.getElem_toArray, List.getElem_cons_zero, List.getElem_cons_succ, List.setIfInBounds_toArray, List.set_cons_zero, List.set_cons_succ]
      refine wpAnyH_take (i := 16) (v := .agg #[.string n, .int .u16 (k : Nat), .int .u16 (c : Nat), .int .u32 (t : Nat), .string d]) rfl (by kernel_rfl) (by kernel_rfl) (by kernel_rfl) (fun _ _ _ h => h) (Or.inl ⟨by rfl, ?_⟩) (by assumption) ?_
      · (intro wq hSw; have e0 : wq.cell? ⟨w.heap.size, 0, none⟩ = some (.string n) := blk_cell (hSw.at 6 rfl) 0; have e1 : wq.cell? ⟨w.heap.size, 1, none⟩ = some (.int .u16 (k : Nat)) := blk_cell (hSw.at 6 rfl) 1; have e2 : wq.cell? ⟨w.heap.size, 2, none⟩ = some (.int .u16 (c : Nat)) := blk_cell (hSw.at 6 rfl) 2; have e3 : wq.cell? ⟨w.heap.size, 3, none⟩ = some (.int .u32 (t : Nat)) := blk_cell (hSw.at 6 rfl) 3; have e4 : wq.cell? ⟨w.heap.size, 4, none⟩ = some (.string d) := blk_cell (hSw.at 6 rfl) 4; go_simp)
      simp only [Act.put, List.getElem_toArray, List.getElem_cons_zero, List.getElem_cons_succ, List.setIfInBounds_toArray, List.set_cons_zero, List.set_cons_succ]
      refine wpAnyH_take (i := 17) (v := .agg #[.string n', .int .u16 (k' : Nat), .int .u16 (c' : Nat), .int .u32 (t' : Nat), .string d']) rfl (by kernel_rfl) (by kernel_rfl) (by kernel_rfl) (fun _ _ _ h => h) (Or.inl ⟨by rfl, ?_⟩) (by assumption) ?_
      · (intro wq hSw; have e0 : wq.cell? ⟨w.heap.size + 1, 0, none⟩ = some (.string n') := blk_cell (hSw.at 5 rfl) 0; have e1 : wq.cell? ⟨w.heap.size + 1, 1, none⟩ = some (.int .u16 (k' : Nat)) := blk_cell (hSw.at 5 rfl) 1; have e2 : wq.cell? ⟨w.heap.size + 1, 2, none⟩ = some (.int .u16 (c' : Nat)) := blk_cell (hSw.at 5 rfl) 2; have e3 : wq.cell? ⟨w.heap.size + 1, 3, none⟩ = some (.int .u32 (t' : Nat)) := blk_cell (hSw.at 5 rfl) 3; have e4 : wq.cell? ⟨w.heap.size + 1, 4, none⟩ = some (.string d') := blk_cell (hSw.at 5 rfl) 4; go_simp)
      simp only [Act.put, List.getElem_toArray, List.getElem_cons_zero, List.getElem_cons_succ, List.setIfInBounds_toArray, List.set_cons_zero, List.set_cons_succ]
      refine wpAnyH_ready (rs := [15]) (by kernel_rfl) (by simp) ?_
      refine AllReadyH.cons rfl (fun K hK => ?_) AllReadyH.nil
      go_simp
      go_wp2_with (go_at_call 19; refine Calls.mono (HS.out _) ?_; rintro e v5 ⟨rfl, hb⟩)
      have HF5 := Lib.hid (HF.out.call hb)
      have HB5 := Lib.hid (HB.out.trans (hb.mono HB.out.size))
      clear HF HB hb hHeld
      have HF := HF5
      have HB := HB5
      clear HF5 HB5
      refine hK.out _ _ HF.out (fun hHeld => ?_)
      clear hK K
      refine wpAnyH_ready (rs := [18]) (by kernel_rfl) (by simp) ?_
      refine AllReadyH.cons rfl (fun K hK => ?_) AllReadyH.nil
      go_simp
      go_wp2_with (go_at_call 20; refine Calls.mono (HS2.out _) ?_; rintro e v6 ⟨rfl, hb⟩)
      have HF6 := Lib.hid (HF.out.call hb)
      have HB6 := Lib.hid (HB.out.trans (hb.mono HB.out.size))
      clear HF HB hb hHeld
      have HF := HF6
      have HB := HB6
      clear HF6 HB6
      refine hK.out _ _ HF.out (fun hHeld => ?_)
      clear hK K
      refine wpAnyH_take (i := 19) (v := .bool true) rfl (by kernel_rfl) (by kernel_rfl) (by kernel_rfl) (fun _ _ _ h => h) (Or.inl ⟨by rfl, ?_⟩) (by assumption) ?_
      · (intro wq hSw; go_simp)
      simp only [Act.put, List.getElem_toArray, List.getElem_cons_zero, List.getElem_cons_succ, List.setIfInBounds_toArray, List.set_cons_zero, List.set_cons_succ]
      refine wpAnyH_take (i := 20) (v := ?_) rfl (by kernel_rfl) (by kernel_rfl) (by kernel_rfl) (fun _ _ _ h => h) (Or.inl ⟨by rfl, ?_⟩) (by assumption) ?_
      rotate_left
      · (intro wq hSw; go_simp; try (with_reducible rfl))
      simp only [Act.put, List.getElem_toArray, List.getElem_cons_zero, List.getElem_cons_succ, List.setIfInBounds_toArray, List.set_cons_zero, List.set_cons_succ]
      refine wpAnyH_take (i := 21) (v := ?_) rfl (by kernel_rfl) (by kernel_rfl) (by kernel_rfl) (fun _ _ _ h => h) (Or.inl ⟨by rfl, ?_⟩) (by assumption) ?_
      rotate_left
      · (intro wq hSw; go_simp; try (with_reducible rfl))
      simp only [Act.put, List.getElem_toArray, List.getElem_cons_zero, List.getElem_cons_succ, List.setIfInBounds_toArray, List.set_cons_zero, List.set_cons_succ]
      refine wpAnyH_done (by kernel_rfl) ?_ _

      clear hHeld
      have fa0 : v6.cell? ⟨w.heap.size, 0, none⟩ = some (.string n) := blk_cell (HF.out.at 6 rfl) 0
      have fa1 : v6.cell? ⟨w.heap.size, 1, none⟩ = some (.int .u16 (k : Nat)) := blk_cell (HF.out.at 6 rfl) 1
      have fa2 : v6.cell? ⟨w.heap.size, 2, none⟩ = some (.int .u16 (c : Nat)) := blk_cell (HF.out.at 6 rfl) 2
      have fa3 : v6.cell? ⟨w.heap.size, 3, none⟩ = some (.int .u32 (t : Nat)) := blk_cell (HF.out.at 6 rfl) 3
      have fa4 : v6.cell? ⟨w.heap.size, 4, none⟩ = some (.string d) := blk_cell (HF.out.at 6 rfl) 4
      have fq0 : v6.cell? ⟨w4.heap.size, 0, none⟩ = some (.string n) := blk_cell (HF.out.at 4 rfl) 0
      have fq1 : v6.cell? ⟨w4.heap.size, 1, none⟩ = some (.int .u16 (k : Nat)) := blk_cell (HF.out.at 4 rfl) 1
      have fq2 : v6.cell? ⟨w4.heap.size, 2, none⟩ = some (.int .u16 (c : Nat)) := blk_cell (HF.out.at 4 rfl) 2
      have fx0 : v6.cell? ⟨w6.heap.size, 0, none⟩ = some (.string rn) := blk_cell (HF.out.at 3 rfl) 0
      have fx1 : v6.cell? ⟨w6.heap.size, 1, none⟩ = some (.int .u16 rk) := blk_cell (HF.out.at 3 rfl) 1
      have fx2 : v6.cell? ⟨w6.heap.size, 2, none⟩ = some (.int .u16 rc) := blk_cell (HF.out.at 3 rfl) 2
      have fx3 : v6.cell? ⟨w6.heap.size, 3, none⟩ = some (.int .u32 rt) := blk_cell (HF.out.at 3 rfl) 3
      have fx4 : v6.cell? ⟨w6.heap.size, 4, none⟩ = some (.string rd) := blk_cell (HF.out.at 3 rfl) 4
      have fy0 : v6.cell? ⟨w8.heap.size, 0, none⟩ = some (.string rn) := blk_cell (HF.out.at 2 rfl) 0
      have fy1 : v6.cell? ⟨w8.heap.size, 1, none⟩ = some (.int .u16 rk) := blk_cell (HF.out.at 2 rfl) 1
      have fy2 : v6.cell? ⟨w8.heap.size, 2, none⟩ = some (.int .u16 rc) := blk_cell (HF.out.at 2 rfl) 2
      have fy3 : v6.cell? ⟨w8.heap.size, 3, none⟩ = some (.int .u32 rt) := blk_cell (HF.out.at 2 rfl) 3
      have fy4 : v6.cell? ⟨w8.heap.size, 4, none⟩ = some (.string rd) := blk_cell (HF.out.at 2 rfl) 4
      have fu0 : v6.cell? ⟨w10.heap.size, 0, none⟩ = some (.string qn) := blk_cell (HF.out.at 1 rfl) 0
      have fu1 : v6.cell? ⟨w10.heap.size, 1, none⟩ = some (.int .u16 qk) := blk_cell (HF.out.at 1 rfl) 1
      have fu2 : v6.cell? ⟨w10.heap.size, 2, none⟩ = some (.int .u16 qc) := blk_cell (HF.out.at 1 rfl) 2
      have fv0 : v6.cell? ⟨w12.heap.size, 0, none⟩ = some (.string qn) := blk_cell (HF.out.at 0 rfl) 0
      have fv1 : v6.cell? ⟨w12.heap.size, 1, none⟩ = some (.int .u16 qk) := blk_cell (HF.out.at 0 rfl) 1
      have fv2 : v6.cell? ⟨w12.heap.size, 2, none⟩ = some (.int .u16 qc) := blk_cell (HF.out.at 0 rfl) 2
      go_wp2_with fail
      go_ret
      exact ⟨rfl, HB.out⟩
theorem tells_law (a b : Rc) (s : ByteArray) (p : Int) (ha : a.Ok) (hb : b.Ok) (hs : s.size ≤ 140737488355328) (hp : (Lit.int .i64 p).wf = true) (w : World) (hL : Lay w) :
    Calls Tryd.prog 3 #[.agg #[.string a.n, .int .u16 (a.k : Nat), .int .u16 (a.c : Nat), .int .u32 (a.t : Nat), .string a.d], .agg #[.string b.n, .int .u16 (b.k : Nat), .int .u16 (b.c : Nat), .int .u32 (b.t : Nat), .string b.d], .string s, .int .i64 p] w fun e w' => e = .returned (.bool true) ∧ Below w.heap.size w w' :=
  tells_walk a.n b.n a.d b.d s a.k b.k a.c b.c a.t b.t p ha.k ha.c ha.t hs (by
    simp [Lit.wf, IntKind.min, IntKind.max, IntKind.signed, IntKind.bits] at hp
    unfold maxLen
    omega) w hL
end Go.Proofs.YtlphbeaaeeohjaaDoor
