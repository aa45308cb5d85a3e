/- The contract of name.count: how many labels a string has, if it has the structure of a name. -/
import Derived.Test.YtlphbeaaeeohjaaDoorNmw
namespace Go.Proofs.YtlphbeaaeeohjaaDoor
open Go.RowKit Go.Shelf
attribute [local go_sem] Oper.semAt_some

theorem keepsAt_heap {B : Nat} {W W' : World} (h : W'.heap[B]? = W.heap[B]?) : KeepsAt B W W' := fun v hv => by
  unfold World.cell? at hv ⊢
  simp only [h]
  exact hv
theorem keepsAt_set {B b : Nat} (hne : B ≠ b) (W : World) (v : Value) : KeepsAt B W (W.setCell ⟨b, 0, none⟩ v) :=
  keepsAt_heap (Below.heap_setCell _ _ _ B (fun e => hne e))
theorem KeepsAt.refl (B : Nat) (W : World) : KeepsAt B W W := fun _ h => h

theorem slice_from (s : ByteArray) (a : Nat) (h : a ≤ s.size) (w : World) :
    (Instr.slice 9 (.string s) (some (.int .i64 (a : Int))) none none).run Tryd.prog w = .ok (.string (s.extract a s.size)) w := by
  have := run_slice_string_l (P := Tryd.prog) (w := w) (t := 9) (s := s) Tryd.underlying9 .i64 (a : Int) (by omega) (by omega)
  simpa using this

set_option maxRecDepth 100000 in
set_option maxHeartbeats 2000000 in
theorem count_any (s : ByteArray) (hs : s.size ≤ 140737488355328) (w : World) :
    Calls Tryd.prog 66 #[.string s] w fun e w' => e = .returned (.tuple #[.int .i64 (cnt s : Nat), .int .i64 (cerr s : Nat)]) ∧ Below w.heap.size w w' := by
  refine (callsIn_wide (n := 3)).1 ?_
  have hll := labsFrom_len s s.size 0 (by omega)
  refine callsIn_of_wp_marks Tryd.func66 rfl trivial ?_ rfl
  simp only [Tryd.ntmps66, List.size_toArray, List.length_cons, List.length_nil, Nat.reduceAdd, Nat.reduceSub, Array.replicate_succ, Array.replicate_zero, List.push_toArray, List.append_toArray, List.nil_append, List.cons_append]
  gi_wp2_with (refine ⟨trivial, ?_⟩; gi_at_call 88; refine (walk_gives 2 s _).mono ?_; rintro e w' ⟨rfl, rfl⟩)
  have bM := Boxed.new w 3 (.int .i64 0)
  have bE := Boxed.new (w.alloc (.cells #[.int .i64 0] 3)) 3 (.int .i64 0)
  rw [World.size_alloc] at bE
  have bN := Boxed.new ((w.alloc (.cells #[.int .i64 0] 3)).alloc (.cells #[.int .i64 0] 3)) 9 (.string s)
  rw [World.size_alloc, World.size_alloc] at bN
  have hB0 : Below w.heap.size w (((w.alloc (.cells #[.int .i64 0] 3)).alloc (.cells #[.int .i64 0] 3)).alloc (.cells #[.string s] 9)) := (((Below.refl _ w).alloc (Nat.le_refl _) _).alloc (by simp) _).alloc (by simp; omega) _
  refine wpIn_rangeFunc_ownF rfl (by omega) (gf := 96) (lb := #[.pointer (some ⟨w.heap.size + 1 + 1, 0, none⟩)]) rfl trivial (enters_of Tryd.func96 (by kernel_rfl) rfl)
    (walk_stops 2 (by omega) (w.heap.size + 1 + 1) s hs _ (by simp) bN.cell) keepsAt_t (keepsAt_b (by simp)) (Below.refl _ _) (fun _ => rfl)
    (fun pre W => (Boxed W w.heap.size 3 (.int .i64 (pre.length : Nat)) ∧ Boxed W (w.heap.size + 1) 3 (.int .i64 (endOf 0 pre : Nat))) ∧ Below w.heap.size w W)
    (fun _ _ _ => False)
    (OwnFrom.and (OwnFrom.and (Own.from (boxed_own _ _ _) _) (Own.from (boxed_own _ _ _) _)) (ownFrom_below (Nat.le_refl _) (by simp; omega)))
    (fun _ _ _ _ _ hs _ _ => hs)
    ⟨⟨(bM.alloc _).alloc _, bE.alloc _⟩, hB0⟩
    (fun x => { tmps := #[.string s, undef, .int .i64 0, .int .i64 0, .pointer (some ⟨w.heap.size, 0, none⟩), .pointer (some ⟨w.heap.size + 1, 0, none⟩), undef, .int .i64 (nxt s x.1 : Nat), .string s, .func (.func 96) #[] #[.pointer (some ⟨w.heap.size + 1 + 1, 0, none⟩)], .string (s.extract (x.1 + 1) (nxt s x.1)), .int .i64 (nxt s x.1 : Nat), undef, undef, undef, undef, undef, undef, undef, undef, undef, undef, undef], defers := [] }) ?assign ?body ?done ?stop
  case assign =>
    intro l x W K hK
    unfold enc
    gi_wp2
    exact hK
  case body =>
    rintro l pre x W ⟨⟨b1, b2⟩, hB⟩ hlt
    have hx := x.lt
    have c1 := b1.cell
    have c2 := b2.cell
    have f1 := b1.frozen
    have f2 := b2.frozen
    gi_wp2
    exact ⟨(KeepsOthers.setCell _ _ _).trans (KeepsOthers.setCell _ _ _), keepsAt_t (keepsAt_set (by omega) _ _) (keepsAt_set (by omega) _ _), ⟨by have := (b1.set (.int .i64 ((pre.length : Int) + 1))).other (B' := w.heap.size + 1) (by omega) (.int .i64 (nxt s x.1 : Nat)); simpa using this, by rw [endOf_snoc]; exact (b2.other (B' := w.heap.size) (by omega) _).set _⟩, (hB.setCell (p := ⟨w.heap.size, 0, none⟩) (by simp) _).setCell (p := ⟨w.heap.size + 1, 0, none⟩) (by simp) _⟩
  case done =>
    rintro D ys W hD rfl ⟨⟨b1, b2⟩, hB⟩ hK
    rw [endOf_labs] at b2
    have c1 := b1.cell
    have c2 := b2.cell
    have hle := endFrom_le s
    have hsl := slice_from s (endFrom s 0) hle W
    cases hz : endZ s with
    | false =>
      obtain ⟨q1, q2⟩ := cnt_form hz
      have hz' : (!(s.extract (endFrom s 0) s.size).toList == [0]) = true := by unfold endZ at hz; simp [hz]
      have Q1 := Lib.hid q1
      have Q2 := Lib.hid q2
      clear hz q1 q2
      gi_wp2
      refine ⟨by simp, .inl ⟨_, _, rfl, run_takeDeferred hK, ?_⟩⟩
      refine ⟨.tuple #[.int .i64 0, .int .i64 2], by simp [results, Tryd.f66, go_sem], by rw [Q1.out, Q2.out]; rfl, hB.trans (belowK_b (w := w) (Nat.le_refl _) W D _ _ (by simp at hD; omega) hK rfl rfl)⟩
    | true =>
      have hz' : (!(s.extract (endFrom s 0) s.size).toList == [0]) = false := by unfold endZ at hz; simp [hz]
      by_cases h255 : s.size ≤ 255
      · obtain ⟨q1, q2⟩ := cnt_yes hz h255
        have Q1 := Lib.hid q1
        have Q2 := Lib.hid q2
        clear hz q1 q2
        gi_wp2
        refine ⟨by simp, .inl ⟨_, _, rfl, run_takeDeferred hK, ?_⟩⟩
        refine ⟨.tuple #[.int .i64 ((labsFrom s 0).length : Nat), .int .i64 0], by simp [results, Tryd.f66, go_sem], by rw [Q1.out, Q2.out]; rfl, hB.trans (belowK_b (w := w) (Nat.le_refl _) W D _ _ (by simp at hD; omega) hK rfl rfl)⟩
      · obtain ⟨q1, q2⟩ := cnt_long hz (by omega)
        have Q1 := Lib.hid q1
        have Q2 := Lib.hid q2
        clear hz q1 q2
        gi_wp2
        refine ⟨by simp, .inl ⟨_, _, rfl, run_takeDeferred hK, ?_⟩⟩
        refine ⟨.tuple #[.int .i64 0, .int .i64 3], by simp [results, Tryd.f66, go_sem], by rw [Q1.out, Q2.out]; rfl, hB.trans (belowK_b (w := w) (Nat.le_refl _) W D _ _ (by simp at hD; omega) hK rfl rfl)⟩
  case stop =>
    rintro D c pre W _ _ h _
    exact h.elim
end Go.Proofs.YtlphbeaaeeohjaaDoor
