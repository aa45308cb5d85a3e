/- The contract of name.Labels: the labels of a string that has the structure of a name. -/
import Derived.Test.YtceafomifpkiaaaDoorNmj
import Derived.Test.YtceafomifpkiaaaDoorNmu
import Derived.Laws.MakeOwn
namespace Go.Proofs.YtceafomifpkiaaaDoor
open Go.RowKit Go.Shelf
set_option linter.unusedVariables false
attribute [local go_sem] Oper.semAt_some

theorem info9 : (Tryd.prog.info? 9).map (fun i => (i.zero, i.size, i.bytes)) = some (some (.string ⟨#[]⟩), 1, 16) := by kernel_rfl

/-- A label, as a string. -/
def labS {s : ByteArray} (x : At s) : ByteArray := s.extract (x.1 + 1) (nxt s x.1)
def labsB (s : ByteArray) : List ByteArray := if cerr s = 0 then (labsFrom s 0).map labS else []
/-- What name.Labels returns. -/
def LabsPost (s : ByteArray) (k : IntKind) (w : World) (e : Ending) (w' : World) : Prop :=
  ∃ A cap, e = .returned (.tuple #[.slice A (labsB s).length cap, .int k (cerr s : Nat)]) ∧ Strs w' A (labsB s) ∧ Below w.heap.size w w'

theorem row_not_box {w : World} {n₀ Bn : Nat} {v : Value} {k : Nat} {xs : List Value} {s l : ByteArray} (h : w.ownsRow n₀ 9 1 v (k + 1) (xs ++ [.string l])) (hk : xs.length = k) (hb : Boxed w Bn 9 (.string s)) (hl : l.size < s.size) : v.ownBlock ≠ some Bn := by
  rcases h.2 with ⟨_, h0⟩ | ⟨g, cap, cur, rfl, _, hg, hle, _, hcs, htk⟩
  · omega
  · intro e
    obtain rfl : g = Bn := by simpa [Value.ownBlock] using e
    rw [show w.heap[g]? = _ from hb] at hg
    cases hg
    simp at hcs
    have : k = 0 := by omega
    subst this
    have : xs = [] := List.eq_nil_of_length_eq_zero hk
    subst this
    simp at htk
    subst htk
    omega

theorem strs_of_own {w : World} {n₀ : Nat} {v : Value} {ls : List ByteArray} (h : w.ownsRow n₀ 9 1 v ls.length (ls.map Value.string)) : ∃ A cap, v = .slice A ls.length cap ∧ Strs w A ls := by
  rcases h.2 with ⟨rfl, h0⟩ | ⟨g, cap, cur, rfl, _, hg, hle, _, hcs, htk⟩
  · have : ls = [] := List.eq_nil_of_length_eq_zero h0
    subst this
    exact ⟨none, 0, rfl, fun j hj => absurd hj (by simp)⟩
  · refine ⟨_, cap, rfl, fun j hj => ⟨_, rfl, (Array.getElem?_eq_some_iff.1 hg).1, ?_⟩⟩
    exact h.cells (g := g) rfl j _ (by simp [hj])

theorem cerr_zero {s : ByteArray} (h : cerr s = 0) : endZ s = true ∧ s.size ≤ 255 := by
  cases hz : endZ s with
  | false => rw [(cnt_form hz).2] at h; omega
  | true =>
    refine ⟨rfl, ?_⟩
    rcases Nat.lt_or_ge 255 s.size with h1 | h1
    · rw [(cnt_long hz h1).2] at h; omega
    · exact h1
theorem labS_size {s : ByteArray} (x : At s) : (labS x).size < s.size := by
  have h := x.lt
  unfold labS
  rw [ByteArray.size_extract]
  omega

set_option maxRecDepth 100000 in
set_option maxHeartbeats 2000000 in
theorem labels_any (s : ByteArray) (hs : s.size ≤ 140737488355328) (w : World) :
    Calls Tryd.prog 12 #[.string s] w (LabsPost s .i64 w) := by
  obtain ⟨i0, hi, hz0, hz1, hz2⟩ := info_parts info9
  refine (callsIn_wide (n := 3)).1 ?_
  refine callsIn_of_wp_marks Tryd.func12 rfl trivial ?_ rfl
  simp only [Tryd.ntmps12, List.size_toArray, List.length_cons, List.length_nil, Nat.reduceAdd, Nat.reduceSub, Array.replicate_succ, Array.replicate_zero, List.push_toArray, List.append_toArray, List.nil_append, List.cons_append]
  gi_wp2_with fail
  refine ⟨trivial, ?_⟩
  refine (callsIn_wide.2 (count_any s hs _)).mono ?_; rintro e w1 ⟨rfl, hb1⟩
  by_cases hz : cerr s = 0
  · obtain ⟨hez, h255⟩ := cerr_zero hz
    have hcn := (cnt_yes hez h255).1
    have hll := labsFrom_len s s.size 0 (by omega)
    have hlb : labsB s = (labsFrom s 0).map labS := by simp [labsB, hz]
    have HLB := Lib.hid hlb
    have HZ := Lib.hid hz
    rw [hcn]
    have hz1' : ((cerr s : Nat) : Int) = 0 := by omega
    rw [hz1']
    clear hez hcn hlb hz hz1'
    obtain ⟨w2, hmk, hown, hgrow⟩ := run_make_own (P := Tryd.prog) w1 w.heap.size 22 9 i0 (.string ⟨#[]⟩) 1 Tryd.underlying22 hi hz0 hz1 .i64 .i64 (labsFrom s 0).length (by rw [hz2]; omega) (by unfold maxLen; omega) hb1.size
    gi_wp2_with (refine ⟨trivial, ?_⟩; gi_at_call 32; refine (walk_gives 2 s _).mono ?_; rintro e w' ⟨rfl, rfl⟩)
    have hsz1 := hb1.size
    have hsz2 : w1.heap.size ≤ w2.heap.size := hgrow.size
    have hlt1 : w1.heap.size < w2.heap.size := (hown.lt _ rfl).2
    have hB2 : Below w.heap.size w w2 := hb1.grown hgrow hb1.size (fun k e => by cases e)
    have bX := Boxed.new w2 22 (.slice (some ⟨w1.heap.size, 0, none⟩) 0 (labsFrom s 0).length)
    have bN := Boxed.new (w2.alloc (.cells #[.slice (some ⟨w1.heap.size, 0, none⟩) 0 (labsFrom s 0).length] 22)) 9 (.string s)
    rw [World.size_alloc] at bN
    have hB3 := balloc (balloc hB2 (.cells #[.slice (some ⟨w1.heap.size, 0, none⟩) 0 (labsFrom s 0).length] 22)) (.cells #[.string s] 9)
    refine wpIn_rangeFunc_ownF rfl (by omega) (gf := 43) (lb := #[.pointer (some ⟨w2.heap.size + 1, 0, none⟩)]) rfl trivial (enters_of Tryd.func43 (by kernel_rfl) rfl)
      (walk_stops 2 (by omega) (w2.heap.size + 1) s hs _ (by simp) bN.cell) keepsAt_t (keepsAt_b (by simp)) (Below.refl _ _) (fun _ => rfl)
      (fun pre W => ((∃ v, Boxed W w2.heap.size 22 v ∧ W.ownsRow w.heap.size 9 1 v pre.length (pre.map fun x => Value.string (labS x)) ∧ v.ownBlock ≠ some (w2.heap.size + 1)) ∧ Boxed W (w2.heap.size + 1) 9 (.string s)) ∧ Below w.heap.size w W)
      (fun _ _ _ => False)
      (OwnFrom.and (OwnFrom.and (Own.from (holdsRow_own (β := List (At s)) w.heap.size w2.heap.size 22 9 1 (fun pre => pre.length) (fun pre => pre.map fun x => Value.string (labS x)) (fun pre v => v.ownBlock ≠ some (w2.heap.size + 1))) _) (Own.from (boxed_own _ _ _) _)) (ownFrom_below (Nat.le_refl _) (by simp; omega)))
      (fun _ _ _ _ _ hs _ _ => hs)
      ⟨⟨⟨_, bX.alloc _, (hown.alloc _).alloc _, by simp [Value.ownBlock]; omega⟩, bN⟩, hB3⟩
      (fun x => { tmps := #[.string s, undef, .slice none 0 0, .int .i64 0, .int .i64 ((labsFrom s 0).length : Nat), .int .i64 0, .pointer (some ⟨w2.heap.size, 0, none⟩), .string (s.extract (x.1 + 1) (nxt s x.1)), .tuple #[.int .i64 ((labsFrom s 0).length : Nat), .int .i64 0], .string s, .tuple #[.int .i64 ((labsFrom s 0).length : Nat), .int .i64 0], .int .i64 ((labsFrom s 0).length : Nat), .int .i64 0, .int .i64 0, .bool false, undef, .int .i64 ((labsFrom s 0).length : Nat), .slice (some ⟨w1.heap.size, 0, none⟩) 0 (labsFrom s 0).length, .string s, .func (.func 43) #[] #[.pointer (some ⟨w2.heap.size + 1, 0, none⟩)], .string (s.extract (x.1 + 1) (nxt s x.1)), .int .i64 (nxt s x.1 : Nat), undef, undef, undef, undef, undef], defers := [] }) ?assign ?body ?done ?stop
    case assign =>
      intro l x W K hK
      unfold enc
      gi_wp2
      exact hK
    case body =>
      rintro l pre x W ⟨⟨⟨v, hv, hrow, hnb⟩, hN⟩, hB⟩ hlt
      have hc := hv.cell
      have hls := labS_size x
      have hle : w.heap.size ≤ w2.heap.size := by omega
      clear hmk
      gi_wp2_with (gi_at_builtin; refine wpListIn_append_own _ rfl _ _ 22 rfl w.heap.size 9 i0 (.string ⟨#[]⟩) 1 16 Tryd.underlying22 hi hz0 hz1 hz2 rfl (by decide) _ _ _ rfl (hrow.alloc _) ⟨W.heap.size, 0, none⟩ 1 1 [.string (labS x)] rfl rfl (cell_one_new _ _ _) (by simp [Value.oneCell']) (by unfold maxLen; omega) (by omega) (by have := hB.size; simp; omega) ?_; intro v' w3 hown' hgrow' _; obtain ⟨g', cap', rfl⟩ := ownsRow_succ hown'; obtain ⟨hv1, hv2, hr2, hk2, hb2⟩ := hv.appended (by decide) hrow hB.size hle hown' hgrow'; have hc1 := hv1.cell; have hf1 := hv1.frozen)
      have hN3 : Boxed w3 (w2.heap.size + 1) 9 (.string s) := (hN.alloc _).kept hgrow' (fun e => hnb e.symm)
      have hN4 := hN3.other (B' := w2.heap.size) (by omega) (.slice (some ⟨g', 0, none⟩) (pre.length + 1) cap')
      exact ⟨hk2, fun u hu => by rw [hN.cell] at hu; rw [hN4.cell]; exact hu, ⟨⟨_, hv2, by simpa using hr2, row_not_box hown' (by simp) hN3 hls⟩, hN4⟩, hB.trans hb2⟩
    case done =>
      rintro D ys W hD rfl ⟨⟨⟨v, hv, hrow, hnb⟩, hN⟩, hB⟩ hK
      have hc := hv.cell
      have hrow' : W.ownsRow w.heap.size 9 1 v (labsB s).length ((labsB s).map Value.string) := by
        rw [HLB.out, List.length_map, List.map_map]; exact hrow
      obtain ⟨A, cap, rfl, hS⟩ := strs_of_own (ownsRow_putObj hrow' (.deferred none) hK rfl)
      clear hmk hrow'
      gi_wp2
      refine ⟨by simp, .inl ⟨_, _, rfl, run_takeDeferred hK, ?_⟩⟩
      refine ⟨.tuple #[.slice A (labsB s).length cap, .int .i64 0], by simp [results, Tryd.f12, go_sem], A, cap, by rw [HZ.out]; rfl, hS, hB.trans (belowK_b (w := w) (Nat.le_refl _) W D _ _ (by simp at hD; omega) hK rfl rfl)⟩
    case stop =>
      rintro D c pre W _ _ h _
      exact h.elim
  · have hlb : labsB s = [] := by simp [labsB, hz]
    have HLB := Lib.hid hlb
    have hz1 : (((cerr s : Nat) : Int) != 0) = true := by simpa using hz
    clear hlb hz
    gi_wp2_with fail
    refine ⟨.tuple #[.slice none 0 0, .int .i64 (cerr s : Nat)], by simp [results, Tryd.f12, go_sem], none, 0, ?_, ?_, hb1⟩
    · rw [HLB.out]; rfl
    · rw [HLB.out]; exact fun j hj => absurd hj (by simp)
end Go.Proofs.YtceafomifpkiaaaDoor
