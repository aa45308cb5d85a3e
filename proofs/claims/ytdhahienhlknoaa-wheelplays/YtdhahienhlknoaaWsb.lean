/- The wheel's contracts in one form (only the wheel's maps turn); the contract of derricklaw11.shown. -/
import Derived.Test.YtdhahienhlknoaaWsa
import Derived.Test.YtdhahienhlknoaaLwe
namespace Go.Proofs.Ytdhahienhlknoaa
open Go.RowKit
set_option linter.unusedVariables false

theorem setL_le (l : List Ti) (id : Int) (t : Nat) : (setL l id t).length ≤ l.length + 1 := by
  unfold setL
  rw [insL_length]
  have : (delL l id).length ≤ l.length := List.length_filter_le _ _
  omega
theorem delL_le (l : List Ti) (id : Int) : (delL l id).length ≤ l.length := List.length_filter_le _ _
theorem restL_le (l : List Ti) (now : Nat) : (restL l now).length ≤ l.length := (List.dropWhile_sublist _).length_le
theorem dueL_le (l : List Ti) (now : Nat) : (dueL l now).length ≤ l.length := (List.takeWhile_sublist _).length_le
theorem Fw.isBelow {bm : Nat → Nat} {s n0 : Nat} {a b : World} (h : Fw bm s a b) (hb : ∀ j, j < s → n0 ≤ bm j) (hn : n0 ≤ a.heap.size) : Below n0 a b :=
  ⟨h.os, h.tape, h.output, h.size, fun i hi => h.block i (by omega) (fun j hj e => by have := hb j hj; omega)⟩
section
variable {w : World} {g sb s n : Nat} {bm : Nat → Nat} {l : List Ti}
theorem set_f (id : Int) (hw : (Lit.int .i64 id).wf = true) (t : Nat) (ht : t < 18446744073709551616) (h : Wl w g sb s n bm l) (hn : n < 100000) :
    Calls Try.prog 16 #[.pointer (some ⟨g, 0, none⟩), .int .i64 id, .int .u64 (t : Nat)] w fun e w' => e = .returned (.int .i64 0) ∧ Wl w' g sb s (n + 1) bm (setL l id t) ∧ Fw bm s w w' :=
  (set_any id hw t ht h hn).mono fun _ _ ⟨he, hg, hl⟩ => ⟨he, hl, (Fw.refl bm s w).grown hg (fun r e => by cases e; exact .inr ⟨_, spk_lt h.pos id, rfl⟩)⟩
theorem del_f (id : Int) (hw : (Lit.int .i64 id).wf = true) (h : Wl w g sb s n bm l) :
    Calls Try.prog 17 #[.pointer (some ⟨g, 0, none⟩), .int .i64 id] w fun e w' => e = .returned (.bool (look l id).isSome) ∧ Wl w' g sb s n bm (delL l id) ∧ Fw bm s w w' :=
  (del_any id hw h).mono fun _ _ ⟨he, hg, hl⟩ => ⟨he, hl, (Fw.refl bm s w).grown hg (fun r e => by cases e; exact .inr ⟨_, spk_lt h.pos id, rfl⟩)⟩
theorem at_f (id : Int) (hw : (Lit.int .i64 id).wf = true) (h : Wl w g sb s n bm l) :
    Calls Try.prog 12 #[.pointer (some ⟨g, 0, none⟩), .int .i64 id] w fun e w' => e = .returned (.tuple #[.int .u64 (lkT (look l id) : Nat), .bool (look l id).isSome]) ∧ Wl w' g sb s n bm l ∧ Fw bm s w w' :=
  (at_any id hw h).mono fun _ _ ⟨he, q, hq⟩ => ⟨he, by rw [hq]; exact h.drewN q, by rw [hq]; exact ⟨rfl, rfl, rfl, Nat.le_refl _, fun _ _ _ => rfl⟩⟩
theorem Wl.wln (h : Wl w g sb s n bm l) : WlN w (some ⟨g, 0, none⟩) l := .inr ⟨g, sb, s, n, bm, rfl, h⟩
theorem len_f (h : Wl w g sb s n bm l) (hl : l.length ≤ 100000) :
    Calls Try.prog 10 #[.pointer (some ⟨g, 0, none⟩)] w fun e w' => e = .returned (.int .i64 (l.length : Nat)) ∧ Wl w' g sb s n bm l ∧ Fw bm s w w' :=
  (len_any h.wln hl).mono fun _ _ ⟨he, hb⟩ => ⟨he, h.low h.isLow hb, Fw.bel hb⟩
theorem next_f (h : Wl w g sb s n bm l) :
    Calls Try.prog 14 #[.pointer (some ⟨g, 0, none⟩)] w fun e w' => e = .returned (.tuple #[.int .u64 (lkT (nextL l) : Nat), .bool (nextL l).isSome]) ∧ Wl w' g sb s n bm l ∧ Fw bm s w w' :=
  (next_any h.wln).mono fun _ _ ⟨he, hb⟩ => ⟨he, h.low h.isLow hb, Fw.bel hb⟩
end
theorem new_z (z : Int) (s : Nat) (hz : z = s) (h1 : 1 ≤ s) (h2 : s ≤ 256) (w : World) : Calls Try.prog 9 #[.int .i64 z] w fun e w' => ∃ g sb bm, e = .returned (.pointer (some ⟨g, 0, none⟩)) ∧ Wl w' g sb s 0 bm [] ∧ Below w.heap.size w w' ∧ w.heap.size ≤ g ∧ w.heap.size ≤ sb ∧ ∀ j, j < s → w.heap.size ≤ bm j := by
  subst hz
  exact new_any s h1 h2 w
theorem set_z (id : Int) (hw : (Lit.int .i64 id).wf = true) (z : Int) (t : Nat) (hz : z = t) (ht : t < 18446744073709551616) {w : World} {g sb s n : Nat} {bm : Nat → Nat} {l : List Ti} (h : Wl w g sb s n bm l) (hn : n < 100000) :
    Calls Try.prog 16 #[.pointer (some ⟨g, 0, none⟩), .int .i64 id, .int .u64 z] w fun e w' => e = .returned (.int .i64 0) ∧ Wl w' g sb s (n + 1) bm (setL l id t) ∧ Fw bm s w w' := by
  subst hz
  exact set_f id hw t ht h hn
theorem due_z (k : Nat) (HS : SortC k) (hk : k ≤ 100000) (z : Int) (now : Nat) (hz : z = now) {w : World} {g sb s n : Nat} {bm : Nat → Nat} {l : List Ti} (h : Wl w g sb s n bm l) (hl : (dueL l now).length ≤ k) (hl2 : l.length ≤ 100000) :
    Calls Try.prog 19 #[.pointer (some ⟨g, 0, none⟩), .int .u64 z] w fun e w' => ∃ A c, e = .returned (.slice A (dueL l now).length c) ∧ NsI w' A ((dueL l now).map (·.id)) ∧ Wl w' g sb s n bm (restL l now) ∧ Fw bm s w w' := by
  subst hz
  exact due_any k HS hk now h hl hl2
set_option maxRecDepth 100000 in
set_option maxHeartbeats 1000000 in
theorem shown_any (w : World) : Calls Try.prog 8 #[] w fun e w' => e = .returned (.bool true) ∧ Below w.heap.size w w' := by
  have e1 : setL (setL [] 7 5) 7 9 = [⟨7, 9⟩] := by simp [setL, delL, insL]
  have e2 : dueL [⟨7, 9⟩] 8 = [] := by simp [dueL]
  have e3 : restL [⟨7, 9⟩] 8 = [⟨7, 9⟩] := by simp [restL]
  have e4 : dueL [⟨7, 9⟩] 9 = [⟨7, 9⟩] := by simp [dueL]
  have e5 : restL [⟨7, 9⟩] 9 = [] := by simp [restL]
  have HE := Lib.hid (And.intro e1 (And.intro e2 (And.intro e3 (And.intro e4 e5))))
  clear e1 e2 e3 e4 e5
  have HC1 := Lib.hid (new_z 4 4 rfl (by omega) (by omega) w)
  go_enter Try.func8, Try.ntmps8
  go_wp2_with (first
    | (go_at_call 10; with_reducible (refine HC6.out.mono ?_); rintro e w6 ⟨rfl, hl6, hf6⟩; have HB6 := Lib.hid (HB5.out.trans (hf6.isBelow HM.out HB5.out.size)); clear hl6 hf6)
    | (go_at_call 19; (with_reducible (refine HC5.out.mono ?_)); rintro e w5 ⟨A5, c5, rfl, hn5, hl5, hf5⟩; have HC6 := Lib.hid (len_f hl5 (by simp)); have HB5 := Lib.hid (HB4.out.trans (hf5.isBelow HM.out HB4.out.size)); obtain ⟨b5, off5, rfl, hb5, hc5⟩ := hn5 0 (by simp); simp only [List.map_cons, List.getElem_cons_zero, Nat.add_zero] at hc5; clear hn5 hl5 hf5 hb5)
    | (go_at_call 19; with_reducible (refine HC4.out.mono ?_); rintro e w4 ⟨A4, c4, rfl, hn4, hl4, hf4⟩; have HC5 := Lib.hid (due_z 1 sortC_one (by omega) 9 9 rfl hl4 (by rw [HE.out.2.2.2.1]; simp) (by simp)); rw [HE.out.2.2.2.1, HE.out.2.2.2.2] at HC5; have HB4 := Lib.hid (HB3.out.trans (hf4.isBelow HM.out HB3.out.size)); clear hn4 hl4 hf4)
    | (go_at_call 16; with_reducible (refine HC3.out.mono ?_); rintro e w3 ⟨rfl, hl3, hf3⟩; rw [HE.out.1] at hl3; have HC4 := Lib.hid (due_z 1 sortC_one (by omega) 8 8 rfl hl3 (by rw [HE.out.2.1]; simp) (by simp)); rw [HE.out.2.1, HE.out.2.2.1] at HC4; have HB3 := Lib.hid (HB2.out.trans (hf3.isBelow HM.out HB2.out.size)); clear hl3 hf3)
    | (go_at_call 16; with_reducible (refine HC2.out.mono ?_); rintro e w2 ⟨rfl, hl2, hf2⟩; have HC3 := Lib.hid (set_z 7 (by decide) 9 9 rfl (by omega) hl2 (by omega)); have HB2 := Lib.hid (HB1.out.trans (hf2.isBelow HM.out HB1.out.size)); clear hl2 hf2)
    | (go_at_call 9; with_reducible (refine HC1.out.mono ?_); rintro e w1 ⟨g, sb, bm, rfl, hl1, hb1, _, _, hm1⟩; have HC2 := Lib.hid (set_z 7 (by decide) 5 5 rfl (by omega) hl1 (by omega)); have HB1 := Lib.hid hb1; have HM := Lib.hid hm1; clear hl1 hb1 hm1))
  go_ret
  exact ⟨rfl, HB6.out⟩
end Go.Proofs.Ytdhahienhlknoaa
