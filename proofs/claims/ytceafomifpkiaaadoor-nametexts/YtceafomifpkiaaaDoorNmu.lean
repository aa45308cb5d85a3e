/- The contract of name.Under: are both names, and are the labels of the one the last labels of the other? -/
import Derived.Test.YtceafomifpkiaaaDoorNmd
namespace Go.Proofs.YtceafomifpkiaaaDoor
open Go.RowKit Go.Shelf
set_option linter.unusedVariables false
attribute [local go_sem] Oper.semAt_some

/-- Is what is behind a label another string? -/
def restIs (n z : ByteArray) (x : At n) : Bool := (n.extract (nxt n x.1) n.size).toList == z.toList
def underB (n z : ByteArray) : Bool := mayB n && mayB z && (n.toList == z.toList || (labsFrom n 0).any (restIs n z))

theorem _root_.Go.Boxed.below {W W' : World} {B g : Nat} {t : TypeId} {v : Value} (h : Boxed W g t v) (hb : Below B W W') (hg : g < B) : Boxed W' g t v := (hb.block g hg).trans h

set_option maxRecDepth 100000 in
set_option maxHeartbeats 2000000 in
theorem under_any (s z : ByteArray) (hs : s.size ≤ 140737488355328) (hz : z.size ≤ 140737488355328) (w : World) :
    Calls Tryd.prog 23 #[.string s, .string z] w fun e w' => e = .returned (.bool (underB s z)) ∧ Below w.heap.size w w' := by
  refine (callsIn_wide (n := 3)).1 ?_
  refine callsIn_of_wp_marks Tryd.func23 rfl trivial ?_ rfl
  simp only [Tryd.ntmps23, List.size_toArray, List.length_cons, List.length_nil, Nat.reduceAdd, Nat.reduceSub, Array.replicate_succ, Array.replicate_zero, List.push_toArray, List.append_toArray, List.nil_append, List.cons_append]
  obtain ⟨W0, hW0⟩ : ∃ W0, ((w.alloc (.cells #[.string s] 9)).alloc (.cells #[.string z] 9)).alloc (.cells #[.bool false] 4) = W0 := ⟨_, rfl⟩
  have bS : Boxed W0 w.heap.size 9 (.string s) := by rw [← hW0]; exact ((Boxed.new w 9 _).alloc _).alloc _
  have bZ : Boxed W0 (w.heap.size + 1) 9 (.string z) := by
    have := Boxed.new (w.alloc (.cells #[.string s] 9)) 9 (.string z)
    rw [World.size_alloc] at this
    rw [← hW0]; exact this.alloc _
  have bR : Boxed W0 (w.heap.size + 1 + 1) 4 (.bool false) := by
    have := Boxed.new ((w.alloc (.cells #[.string s] 9)).alloc (.cells #[.string z] 9)) 4 (.bool false)
    rw [World.size_alloc, World.size_alloc] at this
    rw [← hW0]; exact this
  have hB0 : Below w.heap.size w W0 := by rw [← hW0]; exact (((Below.refl _ w).alloc (Nat.le_refl _) _).alloc (by simp) _).alloc (by simp; omega) _
  have hsz : W0.heap.size = w.heap.size + 3 := by rw [← hW0]; simp
  have HZ := Lib.hid hsz
  have HW := Lib.hid hW0
  clear hsz hW0
  gi_wp2_with fail
  rw [HW.out]
  refine ⟨trivial, ?_⟩
  refine (callsIn_wide.2 (may_any s hs _)).mono ?_; rintro e w1 ⟨rfl, hb1⟩
  have bS1 := bS.below hb1 (by rw [HZ.out]; omega)
  have bZ1 := bZ.below hb1 (by rw [HZ.out]; omega)
  have bR1 := bR.below hb1 (by rw [HZ.out]; omega)
  have hB1 := bthen hB0 hb1
  have hz1 := hb1.size
  have cS := bS1.cell
  have cZ := bZ1.cell
  have cR := bR1.cell
  have fR := bR1.frozen
  cases hm : mayB s with
  | false =>
    have hu : underB s z = false := by simp [underB, hm]
    have HU := Lib.hid hu
    clear hu hm hz1
    gi_wp2_with fail
    refine ⟨trivial, ?_⟩
    gi_wp2_with fail
    exact ⟨.bool false, by simp [results, Tryd.f23, go_sem, World.cell?_setCell_same' _ _ _ (show (w1.cell? ⟨w.heap.size + 1 + 1, 0, none⟩).isSome = true by rw [cR]; rfl)], by rw [HU.out], hB1.setCell (p := ⟨w.heap.size + 1 + 1, 0, none⟩) (by simp; omega) _⟩
  | true =>
    have HM := Lib.hid hm
    clear hm
    gi_wp2_with fail
    refine ⟨trivial, ?_⟩
    refine (callsIn_wide.2 (may_any z hz _)).mono ?_; rintro e w2 ⟨rfl, hb2⟩
    have hz2 : w.heap.size + 3 ≤ w1.heap.size := by rw [HZ.out] at hz1; omega
    have bS2 := bS1.below hb2 (by omega)
    have bZ2 := bZ1.below hb2 (by omega)
    have bR2 := bR1.below hb2 (by omega)
    have hB2 := bthen hB1 hb2
    have hz3 : w.heap.size + 3 ≤ w2.heap.size := Nat.le_trans hz2 hb2.size
    clear bS bZ bR bS1 bZ1 bR1 cS cZ cR fR hb1 hb2 hB1 hB0 HZ HW hz1 hz2
    have cS := bS2.cell
    have cZ := bZ2.cell
    have cR := bR2.cell
    have fR := bR2.frozen
    cases hm : mayB z with
    | false =>
      have hu : underB s z = false := by simp [underB, hm]
      have HU := Lib.hid hu
      clear hu hm hz3
      gi_wp2_with fail
      exact ⟨.bool false, by simp [results, Tryd.f23, go_sem, World.cell?_setCell_same' _ _ _ (show (w2.cell? ⟨w.heap.size + 1 + 1, 0, none⟩).isSome = true by rw [cR]; rfl)], by rw [HU.out], hB2.setCell (p := ⟨w.heap.size + 1 + 1, 0, none⟩) (by simp; omega) _⟩
    | true =>
      cases he : (s.toList == z.toList) with
      | true =>
        have hu : underB s z = true := by simp [underB, hm, he, HM.out]
        have HU := Lib.hid hu
        clear hu hm hz3
        gi_wp2_with fail
        exact ⟨.bool true, by simp [results, Tryd.f23, go_sem, World.cell?_setCell_same' _ _ _ (show (w2.cell? ⟨w.heap.size + 1 + 1, 0, none⟩).isSome = true by rw [cR]; rfl)], by rw [HU.out], hB2.setCell (p := ⟨w.heap.size + 1 + 1, 0, none⟩) (by simp; omega) _⟩
      | false =>
        have hu : underB s z = (labsFrom s 0).any (restIs s z) := by simp [underB, hm, he, HM.out]
        have HU := Lib.hid hu
        clear hu hm HM
        gi_wp2_with (refine ⟨trivial, ?_⟩; gi_at_call 32; refine (walk_gives 2 s _).mono ?_; rintro e w' ⟨rfl, rfl⟩)
        have bN := Boxed.new w2 9 (.string s)
        refine wpIn_rangeFunc_ownF rfl (by omega) (gf := 43) (lb := #[.pointer (some ⟨w2.heap.size, 0, none⟩)]) rfl trivial (enters_of Tryd.func43 (by kernel_rfl) rfl)
          (walk_stops 2 (by omega) w2.heap.size s hs _ (by simp) bN.cell) keepsAt_t (keepsAt_b (by simp)) (Below.refl _ _) (fun _ => rfl)
          (fun pre W => ((((∀ y ∈ pre, restIs s z y = false) ∧ Boxed W w.heap.size 9 (.string s)) ∧ Boxed W (w.heap.size + 1) 9 (.string z)) ∧ Boxed W (w.heap.size + 1 + 1) 4 (.bool false)) ∧ Below w.heap.size w W)
          (fun c pre W => ((c = .ret ∧ ∃ y ∈ pre, restIs s z y = true) ∧ Boxed W (w.heap.size + 1 + 1) 4 (.bool true)) ∧ Below w.heap.size w W)
          (OwnFrom.and (OwnFrom.and (OwnFrom.and (OwnFrom.and (fun _ _ _ _ h _ _ => h) (Own.from (boxed_own _ _ _) _)) (Own.from (boxed_own _ _ _) _)) (Own.from (boxed_own _ _ _) _)) (ownFrom_below (Nat.le_refl _) (by simp; omega)))
          (fun c => OwnFrom.and (OwnFrom.and (fun _ _ _ _ h _ _ => h) (Own.from (boxed_own _ _ _) _)) (ownFrom_below (Nat.le_refl _) (by simp; omega)))
          ⟨⟨⟨⟨by simp, bS2.alloc _⟩, bZ2.alloc _⟩, bR2.alloc _⟩, balloc hB2 _⟩
          (fun x => { tmps := #[.string s, .string z, .pointer (some ⟨w.heap.size, 0, none⟩), .pointer (some ⟨w.heap.size + 1, 0, none⟩), .pointer (some ⟨w.heap.size + 1 + 1, 0, none⟩), undef, .int .i64 (nxt s x.1 : Nat), .string s, .bool true, .bool false, .bool false, .string z, .bool true, .bool false, .bool false, .string s, .string z, .bool false, .string s, .func (.func 43) #[] #[.pointer (some ⟨w2.heap.size, 0, none⟩)], .string (s.extract (x.1 + 1) (nxt s x.1)), .int .i64 (nxt s x.1 : Nat), undef, undef, undef, undef, undef], defers := [] }) ?assign ?body ?done ?stop
        case assign =>
          intro l x W K hK
          unfold enc
          gi_wp2
          exact hK
        case body =>
          rintro l pre x W ⟨⟨⟨⟨hpre, b1⟩, b2⟩, b3⟩, hB⟩ hlt
          have hx := x.lt
          have c1 := b1.cell
          have c2 := b2.cell
          have c3 := b3.cell
          have f3 := b3.frozen
          have hsl := slice_from s (nxt s x.1) hx.2.1
          have hmx : Tryd.prog.follows .mixedOrders = true := by kernel_rfl
          have HP := Lib.hid hpre
          clear hpre cS cZ cR fR
          gi_wp2
          gi_region_with_o (fail)
          all_goals gi_wp2
          all_goals first
            | (rename_i h
               exact ⟨(KeepsOthers.setCell _ _ _).trans (KeepsOthers.drew _), ⟨⟨rfl, x, by simp, h⟩, b3.set _⟩, (hB.setCell (p := ⟨w.heap.size + 1 + 1, 0, none⟩) (by simp; omega) _).drew⟩)
            | (rename_i h
               exact ⟨KeepsOthers.drew _, KeepsAt.refl _ _, ⟨⟨⟨fun y hy => (List.mem_append.1 hy).elim (HP.out y) (fun e => by simp at e; subst e; exact h), b1⟩, b2⟩, b3⟩, hB.drew⟩)
        case done =>
          rintro D ys W hD rfl ⟨⟨⟨⟨hpre, b1⟩, b2⟩, b3⟩, hB⟩ hK
          have hf : underB s z = false := by
            rw [HU.out, List.any_eq_false]
            intro y hy
            rw [hpre y hy]
            decide
          have HF := Lib.hid hf
          have c3 := b3.cell
          have f3 := b3.frozen
          clear hf hpre cS cZ cR fR
          gi_wp2
          have hK' := (KeepsOthers.setCell W ⟨w.heap.size + 1 + 1, 0, none⟩ (.bool false)).same D _ hK rfl
          refine ⟨by simp, .inl ⟨_, _, rfl, run_takeDeferred hK', ?_⟩⟩
          have hc5 := cell_kept (World.cell?_setCell_same' W ⟨w.heap.size + 1 + 1, 0, none⟩ (.bool false) (by rw [c3]; rfl)) (grownBy_putObj' _ D (.deferred none)) (fun r e => by cases e; exact ⟨_, hK', rfl⟩)
          refine ⟨.bool false, by simp [results, Tryd.f23, go_sem, hc5], by rw [HF.out], (hB.setCell (p := ⟨w.heap.size + 1 + 1, 0, none⟩) (by simp; omega) _).trans (belowK_b (w := w) (Nat.le_refl _) _ D _ _ (by simp at hD; omega) hK' rfl rfl)⟩
        case stop =>
          rintro D c pre W hD hpre ⟨⟨⟨rfl, y, hy, hr⟩, b3⟩, hB⟩ hK
          have hf : underB s z = true := by
            rw [HU.out, List.any_eq_true]
            exact ⟨y, hpre.subset hy, hr⟩
          have HF := Lib.hid hf
          clear hf hr hpre cS cZ cR fR
          have c3 := b3.cell
          gi_wp2
          refine ⟨by simp, .inl ⟨_, _, rfl, run_takeDeferred hK, ?_⟩⟩
          have hc5 := cell_kept c3 (grownBy_putObj' _ D (.deferred none)) (fun r e => by cases e; exact ⟨_, hK, rfl⟩)
          refine ⟨.bool true, by simp [results, Tryd.f23, go_sem, hc5], by rw [HF.out], hB.trans (belowK_b (w := w) (Nat.le_refl _) W D _ _ (by simp at hD; omega) hK rfl rfl)⟩
end Go.Proofs.YtceafomifpkiaaaDoor
