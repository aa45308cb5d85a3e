/- The contracts of Len and Next of a wheel that is told by a list; of a wheel that is nil, too. -/
import Derived.Test.YtdhahienhlknoaaWxa
import Derived.Test.YtdhahienhlknoaaWhc
namespace Go.Proofs.Ytdhahienhlknoaa
open Go.RowKit Go.Shelf
open Go.Maps (Keyed)
set_option linter.unusedVariables false
attribute [local go_sem] Oper.semAt_some

set_option maxHeartbeats 1000000 in
theorem all_gives (nd : Nat) (p : Option Addr) (w : World) : CallsIn Fence.wide nd Try.prog 20 #[.pointer p] w fun e w' => e = .returned (.func (.func 27) #[] #[.pointer (some ⟨w.heap.size, 0, none⟩)]) ∧ w' = w.alloc (.cells #[.pointer p] 24) := by
  refine callsIn_of_wp Try.func20 rfl trivial ?_ rfl
  simp only [Try.ntmps20, List.size_toArray, List.length_cons, List.length_nil, Nat.reduceAdd, Nat.reduceSub, Array.replicate_succ, Array.replicate_zero, List.push_toArray, List.append_toArray, List.nil_append, List.cons_append]
  gi_wp2
  go_ret
  exact ⟨rfl, rfl⟩
theorem all_stops (nd : Nat) (hn : 1 ≤ nd) (Bn n₀ : Nat) {g sb s n : Nat} {bm : Nat → Nat} {l : List Ti} (w : World) (hB : Bn < w.heap.size) (hn0 : n₀ ≤ w.heap.size) (hc : w.cell? ⟨Bn, 0, none⟩ = some (.pointer (some ⟨g, 0, none⟩))) (h : Wl w g sb s n bm l) (hL : Low n₀ g sb s bm) :
    SeqStopsK Fence.wide nd Try.prog 27 #[.pointer (some ⟨Bn, 0, none⟩)] encT (Kpw n₀) (AllT l) (fun _ => True) l.length w := fun lp J Jx W hW hJ hJx hY h0 =>
  all1_in nd hn lp Bn n₀ J Jx hY W hJ ((hW.cell (p := ⟨Bn, 0, none⟩) hB).trans hc) (h.low hL (hW.mono hn0)) hL (Nat.le_trans hn0 hW.size) h0
set_option maxRecDepth 100000 in
set_option maxHeartbeats 1000000 in
theorem nil_stops (nd : Nat) (hn : 1 ≤ nd) (Bn n₀ : Nat) (w : World) (hB : Bn < w.heap.size) (hc : w.cell? ⟨Bn, 0, none⟩ = some (.pointer none)) :
    SeqStopsK Fence.wide nd Try.prog 27 #[.pointer (some ⟨Bn, 0, none⟩)] encT (Kpw n₀) (AllT []) (fun _ => True) 0 w := fun lp J Jx W hW hJ hJx hY h0 => by
  have hcW := (hW.cell (p := ⟨Bn, 0, none⟩) hB).trans hc
  refine callsIn_of_wp Try.func27 rfl trivial ?_ rfl
  simp only [Try.ntmps27, List.size_toArray, List.length_cons, List.length_nil, Nat.reduceAdd, Nat.reduceSub, Array.replicate_succ, Array.replicate_zero, List.push_toArray, List.append_toArray, List.nil_append, List.cons_append]
  gi_wp2
  refine bodyPost_ret (results_none rfl _ _ _) rfl ?_
  exact ⟨⟨_, rfl⟩, .inl ⟨[], ⟨List.nodup_nil, fun x => Iff.rfl, fun x h => (by cases h)⟩, h0⟩⟩
/-- The wheel, or none: what comes of it. -/
def WlN (w : World) (p : Option Addr) (l : List Ti) : Prop := (p = none ∧ l = []) ∨ ∃ g sb s n bm, p = some ⟨g, 0, none⟩ ∧ Wl w g sb s n bm l
theorem WlN.stops {w0 : World} {p : Option Addr} {l : List Ti} (h : WlN w0 p l) (nd : Nat) (hn : 1 ≤ nd) (Bn : Nat) (w : World) (hb : Below w0.heap.size w0 w) (hB : Bn < w.heap.size) (hc : w.cell? ⟨Bn, 0, none⟩ = some (.pointer p)) :
    SeqStopsK Fence.wide nd Try.prog 27 #[.pointer (some ⟨Bn, 0, none⟩)] encT (Kpw w0.heap.size) (AllT l) (fun _ => True) l.length w := by
  rcases h with ⟨rfl, rfl⟩ | ⟨g, sb, s, n, bm, rfl, h⟩
  · exact nil_stops nd hn Bn _ w hB hc
  · exact all_stops nd hn Bn _ w hB hb.size hc (h.low h.isLow hb) h.isLow
theorem AllT.len {l ys : List Ti} (h : AllT l ys) (hl : l.Nodup) : ys.length = l.length := ((List.perm_ext_iff_of_nodup h.nd hl).2 h.mem).length_eq
theorem WlN.ord {w : World} {p : Option Addr} {l : List Ti} (h : WlN w p l) : Ord l := by
  rcases h with ⟨rfl, rfl⟩ | ⟨g, sb, s, n, bm, rfl, h⟩
  · exact ⟨List.Pairwise.nil, List.nodup_nil⟩
  · exact h.ord
theorem ownFrom_ex {β γ : Type} {B : Nat} {I : γ → β → World → Prop} (h : ∀ c, OwnFrom B (I c)) : OwnFrom B (fun s W => ∃ c, I c s W) := fun s W W' row ⟨c, hc⟩ hg hr => ⟨c, h c s W W' row hc hg hr⟩
theorem kpw_set {n₀ : Nat} {W : World} {b : Nat} (h : n₀ ≤ b) (v : Value) : Kpw n₀ W (W.setCell ⟨b, 0, none⟩ v) := ⟨(Below.refl n₀ W).setCell (p := ⟨b, 0, none⟩) h _, KeepsWalks.setCell _ _ _⟩
theorem kpw_refl (n₀ : Nat) (W : World) : Kpw n₀ W W := ⟨Below.refl _ _, KeepsWalks.refl _⟩

set_option maxRecDepth 100000 in
set_option maxHeartbeats 2000000 in
theorem len_any {w : World} {p : Option Addr} {l : List Ti} (h : WlN w p l) (hl : l.length ≤ 100000) :
    Calls Try.prog 10 #[.pointer p] w fun e w' => e = .returned (.int .i64 (l.length : Nat)) ∧ Below w.heap.size w w' := by
  have HW := Lib.hid h
  clear h
  refine (callsIn_wide (n := 3)).1 ?_
  refine callsIn_of_wp_marks Try.func10 rfl trivial ?_ rfl
  simp only [Try.ntmps10, List.size_toArray, List.length_cons, List.length_nil, Nat.reduceAdd, Nat.reduceSub, Array.replicate_succ, Array.replicate_zero, List.push_toArray, List.append_toArray, List.nil_append, List.cons_append]
  gi_wp2_with (refine ⟨trivial, ?_⟩; gi_at_call 20; refine (all_gives 2 p _).mono ?_; rintro e w' ⟨rfl, rfl⟩)
  have bM := Boxed.new w 3 (.int .i64 0)
  have bN := Boxed.new (w.alloc (.cells #[.int .i64 0] 3)) 24 (.pointer p)
  rw [World.size_alloc] at bN
  have hB0 : Below w.heap.size w ((w.alloc (.cells #[.int .i64 0] 3)).alloc (.cells #[.pointer p] 24)) := ((Below.refl _ w).alloc (Nat.le_refl _) _).alloc (by simp) _
  refine wpIn_rangeFunc_ownF rfl (by omega) (gf := 27) (lb := #[.pointer (some ⟨w.heap.size + 1, 0, none⟩)]) rfl trivial (enters_of Try.func27 (by kernel_rfl) rfl)
    (HW.out.stops 2 (by omega) (w.heap.size + 1) _ hB0 (by simp) bN.cell) kpw_t (kpw_b (by simp; omega)) (Below.refl _ _) (fun _ => rfl)
    (fun pre W => Boxed W w.heap.size 3 (.int .i64 (pre.length : Nat)) ∧ Below w.heap.size w W)
    (fun _ _ _ => False)
    (OwnFrom.and (Own.from (boxed_own _ _ _) _) (ownFrom_below (Nat.le_refl _) (by simp; omega)))
    (fun _ _ _ _ _ hs _ _ => hs)
    ⟨bM.alloc _, hB0⟩
    (fun x => { tmps := #[.pointer p, undef, .int .i64 0, .pointer (some ⟨w.heap.size, 0, none⟩), .pointer p, .func (.func 27) #[] #[.pointer (some ⟨w.heap.size + 1, 0, none⟩)], .int .i64 x.id, .int .u64 (x.t : Nat), undef, undef, undef], defers := [] }) ?assign ?body ?done ?stop
  case assign =>
    intro lp x W K hK
    gi_wp2
    simpa [encT] using hK
  case body =>
    rintro lp pre x W ⟨b1, hB⟩ hlt
    have c1 := b1.cell
    have f1 := b1.frozen
    gi_wp2
    exact ⟨KeepsOthers.setCell _ _ _, kpw_set (Nat.le_refl _) _, by have := b1.set (.int .i64 ((pre.length : Int) + 1)); simpa using this, hB.setCell (p := ⟨w.heap.size, 0, none⟩) (by simp) _⟩
  case done =>
    rintro D ys W hD hA ⟨b1, hB⟩ hK
    rw [hA.len HW.out.ord.nodup] at b1
    have c1 := b1.cell
    gi_wp2
    refine ⟨by simp, .inl ⟨_, _, rfl, run_takeDeferred hK, ?_⟩⟩
    exact ⟨_, results_tmp rfl _ _ _, rfl, hB.trans (belowK_b (w := w) (Nat.le_refl _) W D _ _ (by simp at hD; omega) hK rfl rfl)⟩
  case stop =>
    rintro D c pre W _ _ h _
    exact h.elim
theorem Lst.more_l {o : Option Nat} {pre : List Ti} (h : Lst o fun x => x ∈ pre) (x : Ti) (hm : o = none ∨ ∃ m, o = some m ∧ x.t < m) : Lst (some x.t) fun y => y ∈ pre ++ [x] := (h.more x hm).congr fun y => by simp
theorem Lst.stay_l {o : Option Nat} {pre : List Ti} (h : Lst o fun x => x ∈ pre) (x : Ti) {m : Nat} (e : o = some m) (hm : m ≤ x.t) : Lst o fun y => y ∈ pre ++ [x] := (h.stay x e hm).congr fun y => by simp
set_option maxRecDepth 100000 in
set_option maxHeartbeats 2000000 in
theorem next_any {w : World} {p : Option Addr} {l : List Ti} (h : WlN w p l) :
    Calls Try.prog 14 #[.pointer p] w fun e w' => e = .returned (.tuple #[.int .u64 (lkT (nextL l) : Nat), .bool (nextL l).isSome]) ∧ Below w.heap.size w w' := by
  have HW := Lib.hid h
  clear h
  refine (callsIn_wide (n := 3)).1 ?_
  refine callsIn_of_wp_marks Try.func14 rfl trivial ?_ rfl
  simp only [Try.ntmps14, List.size_toArray, List.length_cons, List.length_nil, Nat.reduceAdd, Nat.reduceSub, Array.replicate_succ, Array.replicate_zero, List.push_toArray, List.append_toArray, List.nil_append, List.cons_append]
  gi_wp2_with (refine ⟨trivial, ?_⟩; gi_at_call 20; refine (all_gives 2 p _).mono ?_; rintro e w' ⟨rfl, rfl⟩)
  have bL := Boxed.new w 30 (.int .u64 0)
  have bF := Boxed.new (w.alloc (.cells #[.int .u64 0] 30)) 4 (.bool false)
  rw [World.size_alloc] at bF
  have bN := Boxed.new ((w.alloc (.cells #[.int .u64 0] 30)).alloc (.cells #[.bool false] 4)) 24 (.pointer p)
  rw [World.size_alloc, World.size_alloc] at bN
  have hB0 : Below w.heap.size w (((w.alloc (.cells #[.int .u64 0] 30)).alloc (.cells #[.bool false] 4)).alloc (.cells #[.pointer p] 24)) := (((Below.refl _ w).alloc (Nat.le_refl _) _).alloc (by simp) _).alloc (by simp; omega) _
  refine wpIn_rangeFunc_ownF rfl (by omega) (gf := 27) (lb := #[.pointer (some ⟨w.heap.size + 1 + 1, 0, none⟩)]) rfl trivial (enters_of Try.func27 (by kernel_rfl) rfl)
    (HW.out.stops 2 (by omega) (w.heap.size + 1 + 1) _ hB0 (by simp) bN.cell) kpw_t (kpw_b (by simp; omega)) (Below.refl _ _) (fun _ => rfl)
    (fun pre W => (∃ o : Option Nat, (Boxed W w.heap.size 30 (.int .u64 ((o.getD 0 : Nat) : Int)) ∧ Boxed W (w.heap.size + 1) 4 (.bool o.isSome)) ∧ Lst o (fun x => x ∈ pre)) ∧ Below w.heap.size w W)
    (fun _ _ _ => False)
    (OwnFrom.and (ownFrom_ex fun o => OwnFrom.and (OwnFrom.and (Own.from (boxed_own _ _ _) _) (Own.from (boxed_own _ _ _) _)) (fun _ _ _ _ h _ _ => h)) (ownFrom_below (Nat.le_refl _) (by simp; omega)))
    (fun _ _ _ _ _ hs _ _ => hs)
    ⟨⟨none, ⟨(bL.alloc _).alloc _, bF.alloc _⟩, Lst.start.congr fun x => by simp⟩, hB0⟩
    (fun x => { tmps := #[.pointer p, undef, .int .u64 0, .bool false, .pointer (some ⟨w.heap.size, 0, none⟩), .pointer (some ⟨w.heap.size + 1, 0, none⟩), undef, .int .u64 (x.t : Nat), .pointer p, .func (.func 27) #[] #[.pointer (some ⟨w.heap.size + 1 + 1, 0, none⟩)], .int .i64 x.id, .int .u64 (x.t : Nat), undef, undef, undef, undef, undef, undef, undef, undef, undef, undef], defers := [] }) ?assign ?body ?done ?stop
  case assign =>
    intro lp x W K hK
    gi_wp2
    exact hK
  case body =>
    rintro lp pre x W ⟨⟨o, ⟨b1, b2⟩, hL⟩, hB⟩ hlt
    have c1 := b1.cell
    have c2 := b2.cell
    have f1 := b1.frozen
    have f2 := b2.frozen
    have HB := Lib.hid (And.intro b1 (And.intro b2 hB))
    have HL := Lib.hid hL
    clear b1 b2 hB hL
    have out : ∀ W', W' = (W.setCell ⟨w.heap.size, 0, none⟩ (.int .u64 (x.t : Nat))).setCell ⟨w.heap.size + 1, 0, none⟩ (.bool true) → Lst (some x.t) (fun y => y ∈ pre ++ [x]) →
        KeepsOthers W W' ∧ Kpw w.heap.size W W' ∧ (∃ o : Option Nat, (Boxed W' w.heap.size 30 (.int .u64 ((o.getD 0 : Nat) : Int)) ∧ Boxed W' (w.heap.size + 1) 4 (.bool o.isSome)) ∧ Lst o (fun y => y ∈ pre ++ [x])) ∧ Below w.heap.size w W' := by
      rintro W' rfl hL2
      exact ⟨(KeepsOthers.setCell _ _ _).trans (KeepsOthers.setCell _ _ _), kpw_t (kpw_set (Nat.le_refl _) _) (kpw_set (by omega) _), ⟨some x.t, ⟨(HB.out.1.set _).other (B' := w.heap.size + 1) (by omega) _, (HB.out.2.1.other (B' := w.heap.size) (by omega) _).set _⟩, hL2⟩, (HB.out.2.2.setCell (p := ⟨w.heap.size, 0, none⟩) (by simp) _).setCell (p := ⟨w.heap.size + 1, 0, none⟩) (by simp) _⟩
    have OUT := Lib.hid out
    clear out
    cases o with
    | none =>
      gi_wp2
      exact OUT.out _ rfl (HL.out.more_l x (.inl rfl))
    | some m =>
      by_cases hm : x.t < m
      · have d1 : decide ((x.t : Int) < (m : Nat)) = true := by simp; omega
        gi_wp2
        exact OUT.out _ rfl (HL.out.more_l x (.inr ⟨m, rfl, hm⟩))
      · have d1 : decide ((x.t : Int) < (m : Nat)) = false := by simp; omega
        gi_wp2
        exact ⟨KeepsOthers.refl _, kpw_refl _ _, ⟨some m, ⟨HB.out.1, HB.out.2.1⟩, HL.out.stay_l x rfl (Nat.le_of_not_lt hm)⟩, HB.out.2.2⟩
  case done =>
    rintro D ys W hD hA ⟨⟨o, ⟨b1, b2⟩, hL⟩, hB⟩ hK
    have ho : o = nextL l := (hL.congr hA.mem).head HW.out.ord
    subst ho
    clear hL
    have c1 := b1.cell
    have c2 := b2.cell
    gi_wp2
    gi_region
    gi_wp2
    refine ⟨by simp, .inl ⟨_, _, rfl, run_takeDeferred (w := W.drew) hK, ?_⟩⟩
    exact ⟨_, results_tmp2 rfl _ _ _, rfl, hB.drew.trans (belowK_b (w := w) (Nat.le_refl _) W.drew D _ _ (by simp at hD; omega) hK rfl rfl)⟩
  case stop =>
    rintro D c pre W _ _ h _
    exact h.elim
end Go.Proofs.Ytdhahienhlknoaa
