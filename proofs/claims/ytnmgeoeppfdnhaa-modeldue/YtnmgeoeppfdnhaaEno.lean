/- The law ModelNobody (written by tools/gen_eno.py). -/
import Derived.Test.YtnmgeoeppfdnhaaEmn
namespace Go.Proofs.Ytnmgeoeppfdnhaa
open Go.RowKit
set_option linter.unusedVariables false
set_option linter.unusedSimpArgs false

theorem arg_re {X : Nat → Prop} {w w' : World} {x : Ev} (h : Arg w x) (hb : Below w.heap.size w w') (hX : ∀ i, X i → w.heap.size ≤ i) : Re X w' x := by
  refine ⟨h.sl.below' hb, fun b off hA hne hx => ?_, h.q, h.ex, h.sm⟩
  rcases h.sl.has with h1 | ⟨b', off', h1, h2, _⟩
  · exact hne h1
  · rw [h1] at hA
    cases hA
    have := hX _ hx
    omega
theorem ins_nil_c (x : Ev) (now : Nat) (w : World) : Calls Try.prog 18 #[.pointer none, .agg #[.string x.e.q.n, .int .u16 (x.e.q.k : Nat), .int .u16 (x.e.q.c : Nat), .slice x.A x.e.l.length x.cap, .int .i64 x.e.rc, .int .i64 x.e.rk, .int .u64 (x.e.ex : Nat)], .int .u64 (now : Nat)] w fun e w' => e = .returned (.int .i64 1) ∧ Below w.heap.size w w' := by
  have h := ins_nil x now w
  unfold InsNo at h
  rw [evV_eq] at h
  exact h
/-- The same entry under another type. -/
def withK (x : Ev) (k : Nat) : Ev := ⟨⟨⟨x.e.q.n, k, x.e.q.c⟩, x.e.l, x.e.rc, x.e.rk, x.e.ex⟩, x.A, x.cap⟩
theorem withK_ne {x : Ev} {k : Nat} (h : k ≠ x.e.q.k) : (withK x k).e.q ≠ x.e.q := fun e => h (congrArg Qu.k e)
theorem withK_re {X : Nat → Prop} {w : World} {x : Ev} {k : Nat} (hk : k < 65536) (h : Re X w x) : Re X w (withK x k) :=
  ⟨h.sl, h.away, ⟨h.q.n, hk, h.q.c⟩, h.ex, h.sm⟩
theorem wrap16 (k : Nat) : IntKind.u16.wrap ((k : Int) + 1) = (((k + 1) % 65536 : Nat) : Int) := by
  simp [IntKind.wrap, IntKind.bits, IntKind.signed]
theorem ins_one (x : Ev) (now : Nat) (h : ¬ x.e.ex ≤ now) : insL [] 1 x.e now = ([x.e], 0) := by
  unfold insL
  rw [if_neg h]
  rfl
theorem ins_two (x y : Ev) (now : Nat) (h : ¬ y.e.ex ≤ now) (hq : y.e.q ≠ x.e.q) : insL [x.e] 1 y.e now = ([x.e], 5) := by
  have hf : findL [x.e] y.e.q = none := by
    rw [findL_none, entL_none]
    intro e he
    rw [List.mem_singleton] at he
    subst he
    exact fun e => hq e.symm
  rw [ins_none h hf]
  rfl
set_option maxRecDepth 100000 in
set_option maxHeartbeats 8000000 in
theorem nobody_any (x : Ev) (now : Nat) (hnow : now < 18446744073709551616) (W : World) (ha : Arg W x) :
    Calls Try.prog 7 #[evV x, .int .u64 (now : Nat)] W fun e w' => e = .returned (.bool true) ∧ Below W.heap.size W w' := by
  rw [evV_eq]
  have hb := (Below.refl W.heap.size W).alloc (Nat.le_refl _) (Obj.cells (evL x).toArray 35)
  have HZ := Lib.hid (And.intro hb (blk_new_eq W 35 (evL x).toArray))
  have HA := Lib.hid ha
  unfold evL at HZ
  clear hb ha
  have HS := Lib.hid (fun V => shown_any V)
  have HIn := Lib.hid (fun V => ins_nil_c x now V)
  have hLk := fun V => look_nil x.e.q now V
  have hDn := fun V => drop_nil x.e.q V
  have hHn := fun V => has_nil x.e.q V
  unfold qV at hLk hDn hHn
  rw [show (evV (default : Ev)) = .agg (evL default).toArray from rfl] at hLk
  have HLk := Lib.hid hLk
  have HDn := Lib.hid hDn
  have HHn := Lib.hid hHn
  have HLn := Lib.hid (fun V => len_nil V)
  have HFn := Lib.hid (fun V => full_nil V)
  have HUn := Lib.hid (fun V => due_nil now V)
  clear hLk hDn hHn
  go_enter Try.func7, Try.ntmps7
  go_upto_region 1 with (fail)
  generalize W.alloc (Obj.cells #[.string x.e.q.n, .int .u16 (x.e.q.k : Nat), .int .u16 (x.e.q.c : Nat), .slice x.A x.e.l.length x.cap, .int .i64 x.e.rc, .int .i64 x.e.rk, .int .u64 (x.e.ex : Nat)] 35) = w1 at *
  obtain ⟨e0, e1, e2, e3, e4, e5, e6⟩ := e_cells (x := x) HZ.out.2
  go_upto_region 4 with (first | (refine wpList_store_row rfl 35 _ _ rfl (w3.heap.size) _ rfl rfl 35 _ HNw.out infoE rfl (evL_one default) ?_) | (go_at_call 17; (with_reducible (refine (HLk.out _).mono ?_)); rintro e w3 ⟨rfl, hb3⟩; have HB3 := Lib.hid hb3; have HNw := Lib.hid (Blk.new w3 35 zE); unfold zE at HNw; clear hb3) | (go_at_call 9; (with_reducible (refine (HS.out _).mono ?_)); rintro e w2 ⟨rfl, hb2⟩; replace HZ := Lib.hid (And.intro (HZ.out.1.trans (hb2.mono HZ.out.1.size)) (HZ.out.2.eq (hb2.block _ HZ.out.2.lt))); obtain ⟨e0, e1, e2, e3, e4, e5, e6⟩ := e_cells (x := x) HZ.out.2; clear hb2))
  have hb4 := box_low HB3.out (x := (default : Ev))
  replace HZ := Lib.hid (And.intro (HZ.out.1.trans (hb4.mono HZ.out.1.size)) (HZ.out.2.eq (hb4.block _ HZ.out.2.lt)))
  clear hb4 HB3 HNw HLk e0 e1 e2 e3 e4 e5 e6
  generalize (w3.alloc (Obj.cells #[.string ⟨#[]⟩, .int .u16 0, .int .u16 0, .slice none 0 0, .int .i64 0, .int .i64 0, .int .u64 0] 35)).setRow w3.heap.size (evL (default : Ev)).toArray = w4 at *
  generalize w3.heap.size = r3 at *
  have HN := Lib.hid (new_any 1 (by omega) w4)
  go_upto_region 5 with (go_at_call 10; (with_reducible (refine (HN.out).mono ?_)); rintro e w5 ⟨h, p, rfl, v5, b5, hh, hp⟩; have HV5 := Lib.hid (And.intro v5 (And.intro (HZ.out.1.trans (b5.mono HZ.out.1.size)) (And.intro (HZ.out.2.eq (b5.block _ HZ.out.2.lt)) (show W.heap.size < p from Nat.lt_of_lt_of_le HZ.out.2.lt hp)))); clear v5 b5 hh hp)
  have hR5 := arg_re (X := fun i => i = p) HA.out HV5.out.2.1 (fun i e => by have := HV5.out.2.2.2; omega)
  have hI5 := ins_any x now HV5.out.1 (by simp) hR5
  rw [evV_eq] at hI5
  have HI5 := Lib.hid hI5
  obtain ⟨e0, e1, e2, e3, e4, e5, e6⟩ := e_cells (x := x) HV5.out.2.2.1
  clear hI5 hR5 HZ HN
  go_upto_region 6 with (go_at_call 18; (with_reducible (refine (HI5.out).mono ?_)); rintro e w6 ⟨f6, rfl, v6, c6⟩; have HC6 := Lib.hid c6; have HV6 := Lib.hid (And.intro v6 (And.intro ((Ch.bel HV5.out.2.1).trans c6) (HV5.out.2.2.1.ch c6 (fun e => by have := HV5.out.2.2.2; omega)))); clear v6 c6)
  clear e0 e1 e2 e3 e4 e5 e6
  obtain ⟨e0, e1, e2, e3, e4, e5, e6⟩ := e_cells (x := x) HV6.out.2.2
  go_upto_region 7 with (fail)
  clear e0 e1 e2 e3 e4 e5 e6
  have hx7 := blk_new_eq w6 35 (evL x).toArray
  have hb7 := (Below.refl w6.heap.size w6).alloc (Nat.le_refl _) (Obj.cells (evL x).toArray 35)
  have HX7 := Lib.hid (And.intro hx7 (And.intro hb7 (HV6.out.2.2.eq (hb7.block _ HV6.out.2.2.lt))))
  unfold evL at HX7
  clear hx7 hb7
  generalize w6.alloc (Obj.cells #[.string x.e.q.n, .int .u16 (x.e.q.k : Nat), .int .u16 (x.e.q.c : Nat), .slice x.A x.e.l.length x.cap, .int .i64 x.e.rc, .int .i64 x.e.rk, .int .u64 (x.e.ex : Nat)] 35) = w7 at *
  obtain ⟨e0, e1, e2, e3, e4, e5, e6⟩ := e_cells (x := x) HX7.out.2.2
  have y1 := HX7.out.1.frozen 1
  have y2 := HX7.out.1.cell 1
  simp only [List.getElem?_toArray, List.getElem?_cons_zero, List.getElem?_cons_succ] at y2
  go_upto_region 8 with (fail)
  rw [wrap16]
  obtain ⟨k2, HK2⟩ : ∃ k2, Hid ((x.e.q.k + 1) % 65536 = k2) := ⟨_, Lib.hid rfl⟩
  rw [HK2.out]
  have hk2 : k2 < 65536 := by have := HK2.out; omega
  have hk3 : k2 ≠ x.e.q.k := by have := HK2.out; have := HA.out.q.k; omega
  clear HK2
  clear e0 e1 e2 e3 e4 e5 e6 y1 y2
  have hb8 : Below w6.heap.size w6 (w7.setCell ⟨w6.heap.size, 1, none⟩ (.int .u16 ((k2 : Nat) : Int))) := HX7.out.2.1.setCell (p := ⟨w6.heap.size, 1, none⟩) (Nat.le_refl _) _
  have hx8 : Blk (w7.setCell ⟨w6.heap.size, 1, none⟩ (.int .u16 ((k2 : Nat) : Int))) w6.heap.size 35 (evL (withK x k2)).toArray := HX7.out.1.set_ 1 (.int .u16 ((k2 : Nat) : Int))
  have HZ := Lib.hid (And.intro (HV6.out.1.low hb8) (And.intro (HV6.out.2.1.tail (hb8.mono HV6.out.2.1.size)) (HV6.out.2.2.eq (hb8.block _ HV6.out.2.2.lt))))
  have HX8 := Lib.hid hx8
  have hR8 := withK_re hk2 ((arg_re (X := fun i => i = p) HA.out HV5.out.2.1 (fun i e => by have := HV5.out.2.2.2; omega)).ch (HC6.out.tail (hb8.mono HC6.out.size)))
  have hI8 := ins_any (withK x k2) now HZ.out.1 (by have := ins_len [] 1 x.e now; simp at this; omega) hR8
  obtain ⟨c1, HC1⟩ : ∃ c1, Hid ((insL [] 1 x.e now).2 = c1) := ⟨_, Lib.hid rfl⟩
  obtain ⟨c2, HC2⟩ : ∃ c2, Hid ((insL (insL [] 1 x.e now).1 1 (withK x k2).e now).2 = c2) := ⟨_, Lib.hid rfl⟩
  rw [HC2.out, evV_eq] at hI8
  rw [HC1.out]
  have HI8 := Lib.hid hI8
  generalize w7.setCell ⟨w6.heap.size, 1, none⟩ (.int .u16 ((k2 : Nat) : Int)) = w8 at *
  obtain ⟨y0, y1, y2, y3, y4, y5, y6⟩ := e_cells (x := withK x k2) HX8.out
  simp only [withK] at y0 y1 y2 y3 y4 y5 y6 HI8
  clear hI8 hR8 hx8 hb8 HX8 HX7 HV6 HC6
  generalize w6.heap.size = r7 at *
  go_upto_region 9 with (go_at_call 18; (with_reducible (refine (HI8.out).mono ?_)); rintro e w9 ⟨f9, rfl, v9, c9⟩; have HZ9 := Lib.hid (And.intro ((HZ.out.2.1.trans c9).isBelow (fun i e => by have := HV5.out.2.2.2; omega) (Nat.le_refl _)) (HZ.out.2.2.ch c9 (fun e => by have := HV5.out.2.2.2; omega))); clear v9 c9)
  clear y0 y1 y2 y3 y4 y5 y6 HI8 HI5 HZ HV5
  have HZ := HZ9
  clear HZ9
  obtain ⟨e0, e1, e2, e3, e4, e5, e6⟩ := e_cells (x := x) HZ.out.2
  by_cases hl : x.e.ex ≤ now
  · have h1 : c1 = 4 := by rw [← HC1.out, ins_late hl]
    have h2 : c2 = 4 := by rw [← HC2.out, ins_late (show (withK x k2).e.ex ≤ now from hl)]
    subst h1
    subst h2
    have d1 : decide (((now : Nat) : Int) < (x.e.ex : Nat)) = false := by simp; omega
    have d2 : decide ((x.e.ex : Nat) ≤ ((now : Nat) : Int)) = true := by simp; omega
    have hn : ¬ now < x.e.ex := by omega
    clear HC1 HC2
    go_wp2_with (first | (go_at_call 18; (with_reducible (refine (HIn.out _).mono ?_)); rintro e w9 ⟨rfl, hb9⟩; replace HZ := Lib.hid (And.intro (HZ.out.1.trans (hb9.mono HZ.out.1.size)) (HZ.out.2.eq (hb9.block _ HZ.out.2.lt))); obtain ⟨e0, e1, e2, e3, e4, e5, e6⟩ := e_cells (x := x) HZ.out.2; clear hb9) | (go_at_call 20; (with_reducible (refine (HDn.out _).mono ?_)); rintro e w9 ⟨rfl, hb9⟩; replace HZ := Lib.hid (And.intro (HZ.out.1.trans (hb9.mono HZ.out.1.size)) (HZ.out.2.eq (hb9.block _ HZ.out.2.lt))); obtain ⟨e0, e1, e2, e3, e4, e5, e6⟩ := e_cells (x := x) HZ.out.2; clear hb9) | (go_at_call 14; (with_reducible (refine (HHn.out _).mono ?_)); rintro e w9 ⟨rfl, hb9⟩; replace HZ := Lib.hid (And.intro (HZ.out.1.trans (hb9.mono HZ.out.1.size)) (HZ.out.2.eq (hb9.block _ HZ.out.2.lt))); obtain ⟨e0, e1, e2, e3, e4, e5, e6⟩ := e_cells (x := x) HZ.out.2; clear hb9) | (go_at_call 13; (with_reducible (refine (HLn.out _).mono ?_)); rintro e w9 ⟨rfl, rfl⟩) | (go_at_call 11; (with_reducible (refine (HFn.out _).mono ?_)); rintro e w9 ⟨rfl, hb9⟩; replace HZ := Lib.hid (And.intro (HZ.out.1.trans (hb9.mono HZ.out.1.size)) (HZ.out.2.eq (hb9.block _ HZ.out.2.lt))); obtain ⟨e0, e1, e2, e3, e4, e5, e6⟩ := e_cells (x := x) HZ.out.2; clear hb9) | (go_at_call 21; (with_reducible (refine (HUn.out _).mono ?_)); rintro e w9 ⟨rfl, rfl⟩))
    go_ret
    exact ⟨rfl, HZ.out.1⟩
  · have h1 : c1 = 0 := by rw [← HC1.out, ins_one x now hl]
    have h2 : c2 = 5 := by rw [← HC2.out, ins_one x now hl, ins_two x (withK x k2) now hl (withK_ne hk3)]
    subst h1
    subst h2
    have d1 : decide (((now : Nat) : Int) < (x.e.ex : Nat)) = true := by simp; omega
    have d2 : decide ((x.e.ex : Nat) ≤ ((now : Nat) : Int)) = false := by simp; omega
    have hn : now < x.e.ex := by omega
    clear HC1 HC2
    go_wp2_with (first | (go_at_call 18; (with_reducible (refine (HIn.out _).mono ?_)); rintro e w9 ⟨rfl, hb9⟩; replace HZ := Lib.hid (And.intro (HZ.out.1.trans (hb9.mono HZ.out.1.size)) (HZ.out.2.eq (hb9.block _ HZ.out.2.lt))); obtain ⟨e0, e1, e2, e3, e4, e5, e6⟩ := e_cells (x := x) HZ.out.2; clear hb9) | (go_at_call 20; (with_reducible (refine (HDn.out _).mono ?_)); rintro e w9 ⟨rfl, hb9⟩; replace HZ := Lib.hid (And.intro (HZ.out.1.trans (hb9.mono HZ.out.1.size)) (HZ.out.2.eq (hb9.block _ HZ.out.2.lt))); obtain ⟨e0, e1, e2, e3, e4, e5, e6⟩ := e_cells (x := x) HZ.out.2; clear hb9) | (go_at_call 14; (with_reducible (refine (HHn.out _).mono ?_)); rintro e w9 ⟨rfl, hb9⟩; replace HZ := Lib.hid (And.intro (HZ.out.1.trans (hb9.mono HZ.out.1.size)) (HZ.out.2.eq (hb9.block _ HZ.out.2.lt))); obtain ⟨e0, e1, e2, e3, e4, e5, e6⟩ := e_cells (x := x) HZ.out.2; clear hb9) | (go_at_call 13; (with_reducible (refine (HLn.out _).mono ?_)); rintro e w9 ⟨rfl, rfl⟩) | (go_at_call 11; (with_reducible (refine (HFn.out _).mono ?_)); rintro e w9 ⟨rfl, hb9⟩; replace HZ := Lib.hid (And.intro (HZ.out.1.trans (hb9.mono HZ.out.1.size)) (HZ.out.2.eq (hb9.block _ HZ.out.2.lt))); obtain ⟨e0, e1, e2, e3, e4, e5, e6⟩ := e_cells (x := x) HZ.out.2; clear hb9) | (go_at_call 21; (with_reducible (refine (HUn.out _).mono ?_)); rintro e w9 ⟨rfl, rfl⟩))
    go_ret
    exact ⟨rfl, HZ.out.1⟩
end Go.Proofs.Ytnmgeoeppfdnhaa
