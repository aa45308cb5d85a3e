/- The law ModelFull (written by tools/gen_efu.py). -/
import Derived.Test.YtnmgeoeppfdnhaaEmu
namespace Go.Proofs.Ytnmgeoeppfdnhaa.D
open Go.RowKit
set_option linter.unusedVariables false
set_option linter.unusedSimpArgs false

/-- All that the law's answer hangs on. -/
theorem full_cases {m : List En} {x : Ev} {now : Nat} (h5 : m.length ≤ 5) :
    (x.e.ex ≤ now ∧ (insL m 5 x.e now).2 = 4) ∨ (¬ x.e.ex ≤ now ∧ (entL m x.e.q).isSome = false ∧ decide ((5 : Int) ≤ (m.length : Nat)) = true ∧ (insL m 5 x.e now).2 = 5) ∨
    (¬ x.e.ex ≤ now ∧ (entL m x.e.q).isSome = false ∧ decide ((5 : Int) ≤ (m.length : Nat)) = false ∧ (insL m 5 x.e now).2 = 0) ∨
    (¬ x.e.ex ≤ now ∧ (entL m x.e.q).isSome = true ∧ (insL m 5 x.e now).2 = 0) ∨ (¬ x.e.ex ≤ now ∧ (entL m x.e.q).isSome = true ∧ (insL m 5 x.e now).2 = 7) := by
  by_cases hl : x.e.ex ≤ now
  · exact .inl ⟨hl, by rw [Go.Proofs.Ytnmgeoeppfdnhaa.ins_late hl]⟩
  · right
    cases hk : findL m x.e.q with
    | none =>
      have he : (entL m x.e.q).isSome = false := by rw [findL_none.1 hk]; rfl
      by_cases hr : (5 : Int) ≤ (m.length : Nat)
      · exact .inl ⟨hl, he, by simpa using hr, by rw [ins_none hl hk, if_pos hr]⟩
      · exact .inr (.inl ⟨hl, he, by simpa using hr, by rw [ins_none hl hk, if_neg hr]⟩)
    | some k =>
      have he : (entL m x.e.q).isSome = true := by rw [findL_ent, hk]; rfl
      right; right
      cases hb : btE (m.getD k default) x.e now with
      | true => exact .inl ⟨hl, he, by rw [ins_some hl hk, hb]; rfl⟩
      | false => exact .inr ⟨hl, he, by rw [ins_some hl hk, hb]; rfl⟩
theorem full_len {m : List En} {x : Ev} {now : Nat} (h5 : m.length ≤ 5) : (insL m 5 x.e now).1.length ≤ 5 := by
  unfold insL
  split
  · exact h5
  · split
    · split
      · exact h5
      · rw [List.length_append, List.length_singleton]; omega
    · split
      · rw [List.length_set]; exact h5
      · exact h5
set_option maxRecDepth 100000 in
set_option maxHeartbeats 8000000 in
theorem full_law (A : Option Addr) (cap : Nat) (zs : List Dd) (x : Ev) (now : Nat) (hnow : now < 18446744073709551616) (W : World) (hS : Sl df W A cap zs) (hD : ∀ D ∈ zs, ArgD W D) (ha : Arg W x) :
    Calls Try.prog 8 #[.slice A zs.length cap, evV x, .int .u64 (now : Nat)] W fun e w' => e = .returned (.bool true) ∧ Below W.heap.size W w' := by
  rw [evV_eq]
  have hb := (Below.refl W.heap.size W).alloc (Nat.le_refl _) (Obj.cells (evL x).toArray 35)
  have HX := Lib.hid (And.intro hb (blk_new_eq W 35 (evL x).toArray))
  have HA := Lib.hid (And.intro ha (And.intro hS hD))
  unfold evL at HX
  clear hb ha hS hD
  have HSh := Lib.hid (fun V => shown_any V)
  go_enter Try.func8, Try.ntmps8
  go_upto_region 1 with (fail)
  generalize W.alloc (Obj.cells #[.string x.e.q.n, .int .u16 (x.e.q.k : Nat), .int .u16 (x.e.q.c : Nat), .slice x.A x.e.l.length x.cap, .int .i64 x.e.rc, .int .i64 x.e.rk, .int .u64 (x.e.ex : Nat)] 35) = w1 at *
  go_upto_region 2 with (go_at_call 9; (with_reducible (refine (HSh.out _).mono ?_)); rintro e w2 ⟨rfl, hb2⟩; have HX2 := Lib.hid (And.intro (HX.out.1.trans (hb2.mono HX.out.1.size)) (HX.out.2.eq (hb2.block _ HX.out.2.lt))); clear hb2)
  have HR := Lib.hid (ran_any A cap zs w2 (HA.out.2.1.below' HX2.out.1) (fun D hD => argd_low (HA.out.2.2 D hD) HX2.out.1))
  clear HX HSh
  go_upto_region 3 with (go_at_call 16; (with_reducible (refine (HR.out).mono ?_)); rintro e w3 ⟨h, p, m, f, rfl, v3, l3, b3, hh, hp⟩; have HX3 := Lib.hid (And.intro (HX2.out.1.trans (b3.mono HX2.out.1.size)) (And.intro (HX2.out.2.eq (b3.block _ HX2.out.2.lt)) v3)); have HP := Lib.hid (And.intro l3 (show W.heap.size < p from Nat.lt_of_lt_of_le HX2.out.2.lt hp)); clear v3 l3 b3 hh hp)
  clear HR HX2
  have HFu := Lib.hid (full_any HX3.out.2.2)
  go_upto_region 4 with (go_at_call 11; (with_reducible (refine (HFu.out).mono ?_)); rintro e w4 ⟨rfl, hb4⟩; have HX4 := Lib.hid (And.intro (HX3.out.1.trans (hb4.mono HX3.out.1.size)) (And.intro (HX3.out.2.1.eq (hb4.block _ HX3.out.2.1.lt)) (HX3.out.2.2.low hb4))); clear hb4)
  clear HFu HX3
  have hH := has_any x.e.q HA.out.1.q HX4.out.2.2
  unfold qV at hH
  have HH := Lib.hid hH
  clear hH
  obtain ⟨e0, e1, e2, e3, e4, e5, e6⟩ := e_cells (x := x) HX4.out.2.1
  go_upto_region 5 with (go_at_call 14; (with_reducible (refine (HH.out).mono ?_)); rintro e w5 ⟨rfl, hb5⟩; have HX5 := Lib.hid (And.intro (HX4.out.1.trans (hb5.mono HX4.out.1.size)) (And.intro (HX4.out.2.1.eq (hb5.block _ HX4.out.2.1.lt)) (HX4.out.2.2.low hb5))); clear hb5)
  clear HH HX4 e0 e1 e2 e3 e4 e5 e6
  have HLn := Lib.hid (len_any HX5.out.2.2)
  go_upto_region 6 with (go_at_call 13; (with_reducible (refine (HLn.out).mono ?_)); rintro e w6 ⟨rfl, rfl⟩)
  clear HLn
  have hR := arg_re (X := fun i => i = p) HA.out.1 HX5.out.1 (fun i e => by have := HP.out.2; omega)
  have hI := ins_any x now HX5.out.2.2 (by have := HP.out.1; omega) hR
  have hc := full_cases (m := m) (x := x) (now := now) HP.out.1
  have hl := full_len (x := x) (now := now) HP.out.1
  have he := ent_ins HX5.out.2.2.ok 5 x.e now x.e.q
  rw [evV_eq] at hI
  have HI := Lib.hid hI
  have HE := Lib.hid (fun (h0 : (insL m 5 x.e now).2 = 0) => (show (entL (insL m 5 x.e now).1 x.e.q).isSome = true by rw [he, if_pos ⟨rfl, h0⟩]; rfl))
  have HC := Lib.hid (And.intro hc hl)
  clear hI hc hl he hR
  obtain ⟨e0, e1, e2, e3, e4, e5, e6⟩ := e_cells (x := x) HX5.out.2.1
  obtain ⟨c, hcc⟩ : ∃ c, (insL m 5 x.e now).2 = c := ⟨_, rfl⟩
  obtain ⟨hb, hbb⟩ : ∃ hb, (entL m x.e.q).isSome = hb := ⟨_, rfl⟩
  obtain ⟨fb, hfb⟩ : ∃ fb, decide ((5 : Int) ≤ (m.length : Nat)) = fb := ⟨_, rfl⟩
  simp only [hcc, hbb, hfb] at HC HI HE ⊢
  generalize (insL m 5 x.e now).1 = m2 at *
  clear hcc hbb
  go_upto_region 7 with (go_at_call 18; (with_reducible (refine (HI.out).mono ?_)); rintro e w7 ⟨f7, rfl, v7, c7⟩; have HZ := Lib.hid (And.intro (((Ch.bel HX5.out.1).trans c7).isBelow (n := W.heap.size) (fun i e => by have := HP.out.2; omega) (Nat.le_refl _)) (And.intro (HX5.out.2.1.ch c7 (fun e => by have := HP.out.2; omega)) v7)); clear v7 c7)
  clear e0 e1 e2 e3 e4 e5 e6 HI HX5
  have hm5 := HP.out.1
  have dn : decide ((5 : Int) < (m.length : Nat)) = false := by simp; omega
  have hm2 := HC.out.2
  have dn2 : decide ((5 : Int) < (m2.length : Nat)) = false := by simp; omega
  have HLn := Lib.hid (fun (V : World) (v : Mh V h p 5 m2 f7) => len_any v)
  generalize m2.length = n2 at *
  generalize m.length = n at *
  have hq := HA.out.1.q
  obtain ⟨e0, e1, e2, e3, e4, e5, e6⟩ := e_cells (x := x) HZ.out.2.1
  rcases HC.out.1 with ⟨hl, rfl⟩ | ⟨hl, rfl, rfl, rfl⟩ | ⟨hl, rfl, rfl, rfl⟩ | ⟨hl, rfl, rfl⟩ | ⟨hl, rfl, rfl⟩
  · skip
    have d1 : decide (((now : Nat) : Int) < (x.e.ex : Nat)) = false := by simp; omega
    have d2 : decide ((x.e.ex : Nat) ≤ ((now : Nat) : Int)) = true := by simp; omega
    have hn : ¬ now < x.e.ex := by omega
    clear HC HE hm5 hm2 hl
    cases fb <;> cases hb
    all_goals (go_wp2_with ((go_at_call 13; (with_reducible (refine (HLn.out _ HZ.out.2.2).mono ?_)); rintro e w9 ⟨rfl, rfl⟩)); go_ret; exact ⟨rfl, HZ.out.1⟩)
  · skip
    have d1 : decide (((now : Nat) : Int) < (x.e.ex : Nat)) = true := by simp; omega
    have d2 : decide ((x.e.ex : Nat) ≤ ((now : Nat) : Int)) = false := by simp; omega
    have hn : now < x.e.ex := by omega
    clear HC HE hm5 hm2 hl
    go_wp2_with ((go_at_call 13; (with_reducible (refine (HLn.out _ HZ.out.2.2).mono ?_)); rintro e w9 ⟨rfl, rfl⟩))
    go_ret
    exact ⟨rfl, HZ.out.1⟩
  · skip
    have d1 : decide (((now : Nat) : Int) < (x.e.ex : Nat)) = true := by simp; omega
    have d2 : decide ((x.e.ex : Nat) ≤ ((now : Nat) : Int)) = false := by simp; omega
    have hn : now < x.e.ex := by omega
    have hH := fun (V : World) (v : Mh V h p 5 m2 f7) => has_any x.e.q hq v
    rw [HE.out rfl] at hH
    unfold qV at hH
    have HHs := Lib.hid hH
    clear hH
    clear HC HE hm5 hm2 hl
    go_wp2_with (first | (go_at_call 13; (with_reducible (refine (HLn.out _ HZ.out.2.2).mono ?_)); rintro e w9 ⟨rfl, rfl⟩) | (go_at_call 14; (with_reducible (refine (HHs.out _ HZ.out.2.2).mono ?_)); rintro e w9 ⟨rfl, hb9⟩; replace HZ := Lib.hid (And.intro (HZ.out.1.trans (hb9.mono HZ.out.1.size)) (And.intro (HZ.out.2.1.eq (hb9.block _ HZ.out.2.1.lt)) (HZ.out.2.2.low hb9))); clear hb9))
    go_ret
    exact ⟨rfl, HZ.out.1⟩
  · skip
    have d1 : decide (((now : Nat) : Int) < (x.e.ex : Nat)) = true := by simp; omega
    have d2 : decide ((x.e.ex : Nat) ≤ ((now : Nat) : Int)) = false := by simp; omega
    have hn : now < x.e.ex := by omega
    have hH := fun (V : World) (v : Mh V h p 5 m2 f7) => has_any x.e.q hq v
    rw [HE.out rfl] at hH
    unfold qV at hH
    have HHs := Lib.hid hH
    clear hH
    clear HC HE hm5 hm2 hl
    cases fb
    all_goals (go_wp2_with (first | (go_at_call 13; (with_reducible (refine (HLn.out _ HZ.out.2.2).mono ?_)); rintro e w9 ⟨rfl, rfl⟩) | (go_at_call 14; (with_reducible (refine (HHs.out _ HZ.out.2.2).mono ?_)); rintro e w9 ⟨rfl, hb9⟩; replace HZ := Lib.hid (And.intro (HZ.out.1.trans (hb9.mono HZ.out.1.size)) (And.intro (HZ.out.2.1.eq (hb9.block _ HZ.out.2.1.lt)) (HZ.out.2.2.low hb9))); clear hb9)); go_ret; exact ⟨rfl, HZ.out.1⟩)
  · skip
    have d1 : decide (((now : Nat) : Int) < (x.e.ex : Nat)) = true := by simp; omega
    have d2 : decide ((x.e.ex : Nat) ≤ ((now : Nat) : Int)) = false := by simp; omega
    have hn : now < x.e.ex := by omega
    clear HC HE hm5 hm2 hl
    cases fb
    all_goals (go_wp2_with ((go_at_call 13; (with_reducible (refine (HLn.out _ HZ.out.2.2).mono ?_)); rintro e w9 ⟨rfl, rfl⟩)); go_ret; exact ⟨rfl, HZ.out.1⟩)
end Go.Proofs.Ytnmgeoeppfdnhaa.D
