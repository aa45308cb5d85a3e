/- slices.SortFunc at one int at most: nothing turns, whatever is compared. -/
import Derived.Test.YtjjanogfcfapcaaWxd
namespace Go.Proofs.Ytjjanogfcfapcaa.W
open Go.RowKit Go.Shelf
set_option linter.unusedVariables false
attribute [local go_sem] Oper.semAt_some

set_option maxRecDepth 100000 in
set_option maxHeartbeats 1000000 in
theorem len64_one (n : Nat) (h : n ≤ 1) (w : World) : Calls Try.prog 79 #[.int .u64 (n : Nat)] w fun e w' => (∃ m : Int, e = .returned (.int .i64 m)) ∧ w' = w := by
  obtain rfl | rfl : n = 0 ∨ n = 1 := by omega
  · go_enter Try.func79, Try.ntmps79
    go_wp2_with fail
    go_ret
    exact ⟨⟨_, rfl⟩, rfl⟩
  · go_enter Try.func79, Try.ntmps79
    go_wp2_with fail
    go_ret
    exact ⟨⟨_, rfl⟩, rfl⟩
set_option maxHeartbeats 1000000 in
theorem len_one (n : Nat) (h : n ≤ 1) (w : World) : Calls Try.prog 66 #[.int .u64 (n : Nat)] w fun e w' => (∃ m : Int, e = .returned (.int .i64 m)) ∧ w' = w := by
  have HC := Lib.hid (len64_one n h w)
  clear h
  go_enter Try.func66, Try.ntmps66
  go_wp2_with (go_at_call 79; with_reducible (refine HC.out.mono ?_); rintro e w' ⟨⟨m, rfl⟩, rfl⟩)
  go_ret
  exact ⟨⟨_, rfl⟩, rfl⟩
set_option maxHeartbeats 1000000 in
theorem ins_one (n : Nat) (h : n ≤ 1) (A : Option Addr) (cap : Nat) (fv : Value) (w : World) : Calls Try.prog 70 #[.slice A n cap, .int .i64 0, .int .i64 (n : Nat), fv] w fun e w' => e = .returned (.tuple #[]) ∧ w' = w := by
  have d1 : decide ((1 : Int) < (n : Nat)) = false := by simp; omega
  go_enter Try.func70, Try.ntmps70
  go_wp2_with fail
  refine wp_loop_rounds 1 ?_
  rw [rounds_succ]
  go_wp2_with fail
  go_end0
  exact ⟨rfl, rfl⟩
set_option maxHeartbeats 1000000 in
theorem pdq_one (n : Nat) (h : n ≤ 1) (A : Option Addr) (cap : Nat) (m : Int) (fv : Value) (w : World) : Calls Try.prog 65 #[.slice A n cap, .int .i64 0, .int .i64 (n : Nat), .int .i64 m, fv] w fun e w' => e = .returned (.tuple #[]) ∧ w' = w := by
  have HC := Lib.hid (ins_one n h A cap fv w)
  have d1 : decide ((n : Int) ≤ 12) = true := by simp; omega
  have d2 : IntKind.i64.wrap ((n : Int) - 0) = (n : Nat) := by rw [IntKind.wrap_i64]; omega
  go_enter Try.func65, Try.ntmps65
  go_wp2_with fail
  refine wp_loop_rounds 1 ?_
  rw [rounds_succ]
  go_wp2_with (go_at_call 70; with_reducible (refine HC.out.mono ?_); rintro e w' ⟨rfl, rfl⟩)
  (try simp only [Exit.inBlock, Exit.then]); refine bodyPost_ret (results_none rfl _ _ _) rfl ?_
  exact ⟨rfl, rfl⟩
set_option maxHeartbeats 1000000 in
theorem sort_one (n : Nat) (h : n ≤ 1) (A : Option Addr) (cap : Nat) (fv : Value) (w : World) : Calls Try.prog 58 #[.slice A n cap, fv] w fun e w' => e = .returned (.tuple #[]) ∧ w' = w := by
  have HC := Lib.hid (fun m => pdq_one n h A cap m fv w)
  have HL := Lib.hid (len_one n h w)
  have d2 : IntKind.u64.wrap (n : Int) = (n : Nat) := by rw [IntKind.wrap_u64]; omega
  clear h
  go_enter Try.func58, Try.ntmps58
  go_wp2_with (first
    | (go_at_call 66; with_reducible (refine HL.out.mono ?_); rintro e w' ⟨⟨m, rfl⟩, rfl⟩)
    | (go_at_call 65; with_reducible (refine (HC.out _).mono ?_); rintro e w' ⟨rfl, rfl⟩)
    | fail)
  go_end0
  exact ⟨rfl, rfl⟩
theorem sortC_one : SortC 1 := by
  intro w g sb s n bm l ids A cap B h hL hB hk hn hw ho
  refine (sort_one ids.length hk A cap _ w).mono ?_
  rintro e w' ⟨he, rfl⟩
  refine ⟨he, ids, List.Perm.refl _, ?_, ho, ⟨rfl, rfl, rfl, Nat.le_refl _, fun _ _ _ => rfl⟩⟩
  cases ids with
  | nil => exact List.Pairwise.nil
  | cons a t =>
    cases t with
    | nil => simp
    | cons b t => simp at hk
set_option maxRecDepth 100000 in
set_option maxHeartbeats 4000000 in
theorem due_nil (now : Nat) (w : World) : Calls Try.prog 44 #[.pointer none, .int .u64 (now : Nat)] w fun e w' => e = .returned (.slice none 0 0) ∧ Below w.heap.size w w' := by
  have HN := Lib.hid (show WlN w none [] from .inl ⟨rfl, rfl⟩)
  refine (callsIn_wide (n := 3)).1 ?_
  refine callsIn_of_wp_marks Try.func44 rfl trivial ?_ rfl
  simp only [Try.ntmps44, List.size_toArray, List.length_cons, List.length_nil, Nat.reduceAdd, Nat.reduceSub, Array.replicate_succ, Array.replicate_zero, List.push_toArray, List.append_toArray, List.nil_append, List.cons_append]
  gi_wp2_with (refine ⟨trivial, ?_⟩; gi_at_call 57; refine (all_gives 2 _ _).mono ?_; rintro e w' ⟨rfl, rfl⟩)
  have bT := Boxed.new w 37 (.int .u64 (now : Nat))
  have bD := Boxed.new (w.alloc (.cells #[.int .u64 (now : Nat)] 37)) 79 (.slice none 0 0)
  rw [World.size_alloc] at bD
  have bN := Boxed.new ((w.alloc (.cells #[.int .u64 (now : Nat)] 37)).alloc (.cells #[.slice none 0 0] 79)) 67 (.pointer none)
  rw [World.size_alloc, World.size_alloc] at bN
  have hB0 : Below w.heap.size w (((w.alloc (.cells #[.int .u64 (now : Nat)] 37)).alloc (.cells #[.slice none 0 0] 79)).alloc (.cells #[.pointer none] 67)) := (((Below.refl _ w).alloc (Nat.le_refl _) _).alloc (by simp) _).alloc (by simp; omega) _
  refine wpIn_rangeFunc_ownF rfl (by omega) (gf := 64) (lb := #[.pointer (some ⟨w.heap.size + 1 + 1, 0, none⟩)]) rfl trivial (enters_of Try.func64 (by kernel_rfl) rfl)
    (HN.out.stops 2 (by omega) (w.heap.size + 1 + 1) _ hB0 (by simp) bN.cell) kpw_t (kpw_b (by simp; omega)) (Below.refl _ _) (fun _ => rfl)
    (fun pre W => Boxed W (w.heap.size + 1) 79 (.slice none 0 0) ∧ Below w.heap.size w W)
    (fun _ _ _ => False)
    (OwnFrom.and (Own.from (boxed_own _ _ _) _) (ownFrom_below (Nat.le_refl _) (by simp; omega)))
    (fun _ _ _ _ _ hs _ _ => hs)
    ⟨bD.alloc _, hB0⟩
    (fun x => { tmps := #[.pointer none, .int .u64 (now : Nat), undef, .pointer (some ⟨w.heap.size, 0, none⟩), .slice none 0 0, .pointer (some ⟨w.heap.size + 1, 0, none⟩), .int .i64 x.id, .int .u64 (x.t : Nat), undef, undef, .pointer none, .func (.func 64) #[] #[.pointer (some ⟨w.heap.size + 1 + 1, 0, none⟩)], .int .i64 x.id, .int .u64 (x.t : Nat), undef, undef, undef, undef, undef, undef, undef, undef, undef, undef, undef, undef, undef, undef, undef, undef, undef, undef, undef, undef, undef, undef, undef], defers := [] }) ?assign ?body ?done ?stop
  case assign =>
    intro lp x W K hK
    gi_wp2
    exact hK
  case body =>
    rintro lp pre x W _ hlt
    exact absurd hlt (Nat.not_lt_zero _)
  case done =>
    rintro D ys W hD hA ⟨b2, hB⟩ hK
    have c2 := b2.cell
    have HSo := Lib.hid (sort_one 0 (by omega) none 0 (.func (.func 59) #[.pointer none] #[]) W)
    have hDD : w.heap.size ≤ D := by simp at hD; omega
    clear hD hA
    gi_wp2_with (refine ⟨trivial, ?_⟩; gi_at_call 58; with_reducible (refine (callsIn_wide.2 HSo.out).mono ?_); rintro e w2 ⟨rfl, rfl⟩)
    gi_loopw [9, 27] (fun _ x wr => x = .int .i64 0 ∧ wr = w2) (fun _ _ _ => 0)
    case atStart => exact ⟨rfl, rfl⟩
    case round =>
      obtain ⟨rfl, rfl⟩ := hrel
      gi_wp2
      refine ⟨by simp, .inl ⟨_, _, rfl, run_takeDeferred hK, ?_⟩⟩
      exact ⟨_, results_tmp rfl _ _ _, rfl, hB.trans (belowK_b (w := w) (Nat.le_refl _) _ D _ _ hDD hK rfl rfl)⟩
  case stop =>
    rintro D c pre W _ _ h _
    exact h.elim
end Go.Proofs.Ytjjanogfcfapcaa.W
