/- The contract of derrickref11.Set. Made ahead for stage 11 at a practice seat. -/
import Derived.Test.YtdhahienhlknoaaWhc
import Derived.StillTailTactics
namespace Go.Proofs.Ytdhahienhlknoaa
open Go.RowKit
set_option linter.unusedVariables false

theorem ins_at : ∀ {l : List Ti} {x : Ti} {j : Nat}, j ≤ l.length → (∀ y ∈ l.take j, ltT y x) → (∀ h : j < l.length, ¬ ltT l[j] x) → insL l x = l.take j ++ x :: l.drop j
  | [], x, j, hj, _, _ => by
    have : j = 0 := by simpa using hj
    subst this
    rfl
  | y :: l, x, 0, _, _, h => by
    have := h (by simp)
    simp only [List.getElem_cons_zero] at this
    rw [insL_cons, if_neg this]
    rfl
  | y :: l, x, j + 1, hj, ha, h => by
    rw [insL_cons, if_pos (ha y (by simp)), ins_at (l := l) (x := x) (j := j) (by simpa using hj) (fun z hz => ha z (by rw [List.take_succ_cons]; exact List.mem_cons_of_mem _ hz)) (fun hlt => h (by simpa using hlt))]
    rfl
/-- append(own, x...) where x is any slice of items, nil or not. -/
theorem wpList_append_it {w : World} {ops : Array Oper} {rest : List Oper} {o : Oper} {a : Act} {Q : Exit → Act → World → Prop} (hgd : o.guard = none) (s x : Operand)
    (ho : o.op = .call { callee := .builtin .append, args := #[s, x], argTypes := #[27, 27] })
    (base : Nat) (v : Value) (l0 : List Ti) (hs : a.eval s = v) (hown : w.ownsRow base 62 2 v l0.length (l0.flatMap tf)) (A : Option Addr) (cap n : Nat) (l : List Ti) (hn : n = l.length) (hSl : Ss w A cap l) (hx : a.eval x = .slice A n cap)
    (h63 : l0.length + l.length ≤ 1000000) (hbase : base ≤ w.heap.size)
    (h : ∀ v' w', w'.ownsRow base 62 2 v' (l0 ++ l).length ((l0 ++ l).flatMap tf) → w.grownBy w' v.ownBlock → wpList Try.prog ops Q rest (a.put o.dst v') w') : wpList Try.prog ops Q (o :: rest) a w := by
  subst hn
  obtain ⟨i0, hi, hz0, hz1, hz2⟩ := el_of elIt
  cases A with
  | none =>
    have hz := hSl.nl rfl
    have hle := hSl.le
    obtain rfl : l = [] := List.eq_nil_of_length_eq_zero (by omega)
    subst hz
    exact wpList_append_own_none hgd s x 27 ho base 62 i0 2 Try.underlying27 hi v l0.length (l0.flatMap tf) hs hown hx (h v w (by simpa using hown) ⟨rfl, rfl, rfl, Nat.le_refl _, fun _ _ _ => rfl⟩)
  | some ad =>
    have hsrc : ∀ j u, (l.flatMap tf)[j]? = some u → w.cell? (ad.add j) = some u := fun j u hj => by
      rcases hSl.has with h1 | ⟨b, off, h1, h2, h3⟩
      · rw [h1] at hj; simp at hj
      · cases h1
        rw [Addr.add_lit]
        exact h3 j u hj
    refine wpList_append_own w hgd s x 27 ho base 62 i0 zI 2 16 Try.underlying27 hi hz0 hz1 hz2 rfl (by decide) v l0.length (l0.flatMap tf) hs hown ad l.length cap (l.flatMap tf) hx (tf_len l) hsrc (tf_one l) (by unfold maxLen; omega) (by omega) hbase ?_
    intro v' w' h1 h2 _
    exact h v' w' (by rw [List.length_append, List.flatMap_append]; exact h1) h2

set_option maxRecDepth 100000 in
set_option maxHeartbeats 4000000 in
theorem rset_any (A : Option Addr) (cap : Nat) (l : List Ti) (id : Int) (t : Nat) (hl : l.length ≤ 1000) (w : World) (hI : Ss w A cap l) : Calls Try.prog 21 #[.slice A l.length cap, .int .i64 id, .int .u64 (t : Nat)] w fun e w' => ∃ A' c', e = .returned (.slice A' (setL l id t).length c') ∧ Ss w' A' c' (setL l id t) ∧ Below w.heap.size w w' := by
  obtain ⟨i0, hi, hz0, hz1, hz2⟩ := el_of elIt
  have HD := Lib.hid (rdel_any A cap l id hl w hI)
  have hLl : (delL l id).length ≤ 1000 := Nat.le_trans (List.length_filter_le _ _) hl
  obtain ⟨L, hL⟩ : ∃ L, delL l id = L := ⟨_, rfl⟩
  have hset : setL l id t = insL L ⟨id, t⟩ := by unfold setL; rw [hL]
  rw [hL] at HD hLl
  rw [hset]
  clear hL hset hI
  go_enter Try.func21, Try.ntmps21
  go_upto_region 3 with (go_at_call 22; with_reducible (refine HD.out.mono ?_); rintro e w1 ⟨A1, kc, rfl, hS1, hb1⟩)
  have hba := (Below.refl w1.heap.size w1).alloc (Nat.le_refl _) (Obj.cells #[.int .i64 id, .int .u64 (t : Nat)] 62)
  have hbk := heap_alloc_new w1 (Obj.cells #[.int .i64 id, .int .u64 (t : Nat)] 62)
  have HS2 := Lib.hid (And.intro (hS1.below hba) (And.intro hbk (And.intro (hb1.trans (hba.mono hb1.size)) (heap_lt hbk))))
  clear hS1 hb1 hba hbk HD
  generalize w1.alloc (Obj.cells #[.int .i64 id, .int .u64 (t : Nat)] 62) = w2 at *
  generalize w1.heap.size = q at *
  go_wp2_with fail
  go_loopw [10, 11] (fun v x wr => ∃ j : Nat, j ≤ L.length ∧ x = .int .i64 j ∧ (∀ y ∈ L.take j, ltT y ⟨id, t⟩) ∧ wr.ownsRow w2.heap.size 62 2 v (L.take j).length ((L.take j).flatMap tf) ∧ Below w2.heap.size w2 wr) (fun _ x _ => L.length - (intOf x).toNat)
  case atStart => exact ⟨0, Nat.zero_le _, rfl, (fun y hy => by simp at hy), World.ownsRow_nil _ _ _ _, Below.refl _ _⟩
  case round =>
    obtain ⟨j, hj, rfl, hall, hown, hbel⟩ := hrel
    obtain ⟨Av, cv, rfl⟩ := ownR_form hown
    have hS := HS2.out.1.below hbel
    have hxb : wr.heap[q]? = some (.cells #[.int .i64 id, .int .u64 (t : Nat)] 62 (0, 0)) := (hbel.block q HS2.out.2.2.2).trans HS2.out.2.1
    by_cases hlt : j < L.length
    · have d1 : decide ((j : Int) < (L.length : Nat)) = true := by simp; omega
      obtain ⟨b, off, rfl, hb, c0, c1⟩ := hS.at j hlt
      have x0 := blk_cell hxb 0
      have x1 := blk_cell hxb 1
      simp only [List.getElem?_toArray, List.getElem?_cons_zero, List.getElem?_cons_succ] at x0 x1
      have s0 : (0 : Int) ≤ (j : Nat) := by omega
      have s1 : (j : Int) < (L.length : Nat) := by omega
      have HLS := Lib.hid (fun W => less_any L[j] ⟨id, t⟩ W)
      by_cases hless : ltT L[j] ⟨id, t⟩
      · have HLS2 := Lib.hid (fun W => by have := HLS.out W; rw [decide_eq_true hless] at this; exact this)
        have hall2 : ∀ y ∈ L.take (j + 1), ltT y ⟨id, t⟩ := fun y hy => by
          rw [List.take_add_one, List.getElem?_eq_getElem hlt, List.mem_append] at hy
          rcases hy with hy | hy
          · exact hall y hy
          · simp at hy; subst hy; exact hless
        have hv : L.take (j + 1) = L.take j ++ [L[j]] := by rw [List.take_add_one, List.getElem?_eq_getElem hlt]; rfl
        have HT := Lib.hid (And.intro hall2 hv)
        have HOB := Lib.hid (And.intro hown hbel)
        have HA2 := Lib.hid (fun W (hW : Below wr.heap.size wr W) => (hS.below hW).at j hlt)
        have hl3 : (L.take j).length ≤ 1000 := by rw [List.length_take]; omega
        clear HLS hall hall2 hv hown hbel hS hxb
        generalize L[j] = r at *
        generalize L.take j = TK at *
        go_upto_region 5 with (fail)
        go_still_tail 10, (by kernel_rfl)
        change wpList _ _ _ _ _ wr.drew
        go_upto_region 6 with (go_at_call 28; with_reducible (refine (HLS2.out _).mono ?_); rintro e w5 ⟨rfl, hb5⟩)
        have hb6 : Below wr.heap.size wr w5 := ((Below.refl _ wr).drew).trans hb5
        obtain ⟨b', off', hbo, _, c2, c3⟩ := HA2.out w5 hb6
        cases hbo
        have ho3 := (ownR_below HOB.out.1 hb6).alloc (Obj.cells #[.int .i64 r.id, .int .u64 (r.t : Nat)] 62)
        have hbl5 := HOB.out.2.trans (hb6.mono HOB.out.2.size)
        have hb3 := hbl5.alloc hbl5.size (Obj.cells #[.int .i64 r.id, .int .u64 (r.t : Nat)] 62)
        have HO3 := Lib.hid ho3
        have HB3 := Lib.hid hb3
        have HFl := Lib.hid (flat_snoc TK r)
        clear hb5 hb6 ho3 hb3 hbl5 HOB HA2 HLS2 hless c0 c1 x0 x1
        go_wp2_with (at_builtin; (refine wpList_append_own _ rfl _ _ 27 rfl w2.heap.size 62 i0 zI 2 16 Try.underlying27 hi hz0 hz1 hz2 rfl (by decide) _ _ _ rfl HO3.out ⟨w5.heap.size, 0, none⟩ 1 1 (tf r) rfl rfl (newT w5 r) ?q3 ?q4 ?q5 HB3.out.size ?_))
        case q3 => intro u hu; simp [tf] at hu; rcases hu with rfl | rfl <;> rfl
        case q4 => unfold maxLen; omega
        case q5 => omega
        intro v' w7 hown7 hgrow7 hnil7
        have hb7 := HB3.out.grown hgrow7 HB3.out.size (fun k hk => (HO3.out.lt k hk).1)
        rw [← HFl.out, show TK.length + 1 = (TK ++ [r]).length by simp, ← HT.out.2] at hown7
        have HF := Lib.hid (And.intro hown7 hb7)
        clear hown7 hgrow7 hnil7 hb7
        go_wp2_with fail
        go_roundw
        case rel => exact ⟨j + 1, hlt, by go_num, HT.out.1, HF.out.1, HF.out.2⟩
        case measure => simp [intOf]; omega
      · have HLS2 := Lib.hid (fun W => by have := HLS.out W; rw [decide_eq_false hless] at this; exact this)
        have hins := ins_at hj hall (fun _ => hless)
        have hle := hS.le
        have hne : ¬ kc = j := by omega
        have HOB := Lib.hid (And.intro hown (And.intro hbel hxb))
        clear HLS hall hown hbel hS hxb hless
        generalize L[j] = r at *
        have hdl : (L.drop j).length = L.length - j := List.length_drop
        have HDL := Lib.hid hdl
        have m1 : (L.take j).length ≤ 1000 := by rw [List.length_take]; omega
        have m2 : (L.drop j).length ≤ 1000 := by rw [List.length_drop]; omega
        have HDR := Lib.hid (fun W (hW : Below w2.heap.size w2 W) => (show Ss W (some ⟨b, off + j * 2, none⟩) (kc - j) (L.drop j) from (HS2.out.1.below hW).drop j hj))
        clear hdl
        generalize L.take j = TK at *
        generalize L.drop j = DR at *
        go_upto_region 5 with (fail)
        go_still_tail 10, (by kernel_rfl)
        change wpList _ _ _ _ _ wr.drew
        go_upto_region 8 with (go_at_call 28; with_reducible (refine (HLS2.out _).mono ?_); rintro e w5 ⟨rfl, hb5⟩)
        have hb6 : Below wr.heap.size wr w5 := ((Below.refl _ wr).drew).trans hb5
        have hownw := ownR_below HOB.out.1 hb6
        have hbw := HOB.out.2.1.trans (hb6.mono HOB.out.2.1.size)
        have hxw := (hb6.block q (heap_lt HOB.out.2.2)).trans HOB.out.2.2
        clear hb5 hb6 HOB HLS2 x0 x1
        have y0 := blk_cell hxw 0
        have y1 := blk_cell hxw 1
        simp only [List.getElem?_toArray, List.getElem?_cons_zero, List.getElem?_cons_succ] at y0 y1
        have ho3 := hownw.alloc (Obj.cells #[.int .i64 id, .int .u64 (t : Nat)] 62)
        have hb3 := hbw.alloc hbw.size (Obj.cells #[.int .i64 id, .int .u64 (t : Nat)] 62)
        have HO3 := Lib.hid ho3
        have HB3 := Lib.hid hb3
        have HIN := Lib.hid hins
        clear ho3 hb3 hownw hbw hins hxw
        have HFl := Lib.hid (flat_snoc TK ⟨id, t⟩)
        go_wp2_with (at_builtin; (refine wpList_append_own _ rfl _ _ 27 rfl w2.heap.size 62 i0 zI 2 16 Try.underlying27 hi hz0 hz1 hz2 rfl (by decide) _ _ _ rfl HO3.out ⟨w5.heap.size, 0, none⟩ 1 1 (tf ⟨id, t⟩) rfl rfl (newT w5 ⟨id, t⟩) ?q3 ?q4 ?q5 HB3.out.size ?_))
        case q3 => intro u hu; simp [tf] at hu; rcases hu with rfl | rfl <;> rfl
        case q4 => unfold maxLen; omega
        case q5 => omega
        intro v7 w7 hown7 hgrow7 hnil7
        have hb7 := HB3.out.grown hgrow7 HB3.out.size (fun k hk => (HO3.out.lt k hk).1)
        rw [← HFl.out, show TK.length + 1 = (TK ++ [(⟨id, t⟩ : Ti)]).length by simp] at hown7
        have m3 : (TK ++ [(⟨id, t⟩ : Ti)]).length ≤ 1001 := by simp; omega
        have HO7 := Lib.hid hown7
        have HB7 := Lib.hid hb7
        have HS7 := Lib.hid (HDR.out w7 hb7)
        have HY := Lib.hid (show (TK ++ [(⟨id, t⟩ : Ti)]) ++ DR = insL L ⟨id, t⟩ by rw [HIN.out]; simp)
        clear hown7 hgrow7 hnil7 hb7
        generalize TK ++ [(⟨id, t⟩ : Ti)] = Y at *
        go_wp2_with (at_builtin; (refine wpList_append_it rfl _ _ rfl w2.heap.size _ Y rfl HO7.out (some ⟨b, off + j * 2, none⟩) (kc - j) _ DR HDL.out.symm HS7.out rfl ?q6 HB7.out.size ?_))
        case q6 => omega
        intro v8 w8 hown8 hgrow8
        have hb8 := HB7.out.grown hgrow8 HB7.out.size (fun k hk => (HO7.out.lt k hk).1)
        rw [← List.length_append, ← List.flatMap_append, HY.out] at hown8
        obtain ⟨A9, c9, h9, hS9⟩ := Ss.own hown8
        have HF := Lib.hid (And.intro h9 (And.intro hS9 (HS2.out.2.2.1.trans (hb8.mono HS2.out.2.2.1.size))))
        clear hown8 hgrow8 hb8 hS9 h9
        go_wp2_with fail
        go_ret
        exact ⟨A9, c9, by rw [← HF.out.1]; rfl, HF.out.2.1, HF.out.2.2⟩
    · obtain rfl : j = L.length := by omega
      have d1 : decide ((L.length : Int) < (L.length : Nat)) = false := by simp
      have hins := ins_at hj hall (fun h => absurd h hlt)
      have HD0 := Lib.hid (show L.drop L.length = [] from List.drop_length)
      have HOB := Lib.hid (And.intro hown (And.intro hbel hxb))
      clear hall hown hbel hS hxb
      by_cases hkc : kc = L.length
      · subst hkc
        have hdl : (L.drop L.length).length = L.length - L.length := List.length_drop
        have HDL := Lib.hid hdl
        have m1 : (L.take L.length).length ≤ 1000 := by rw [List.length_take]; omega
        have m2 : (L.drop L.length).length ≤ 1000 := by rw [List.length_drop]; omega
        have HDR := Lib.hid (fun W (hW : Below w2.heap.size w2 W) => (show Ss W (A1) (0) (L.drop L.length) from by rw [HD0.out]; exact ⟨fun _ => rfl, Nat.le_refl _, .inl rfl⟩))
        clear hdl
        generalize L.take L.length = TK at *
        generalize L.drop L.length = DR at *
        go_upto_region 5 with (fail)
        go_still_tail 10, (by kernel_rfl)
        change wpList _ _ _ _ _ wr.drew
        have hb6 : Below wr.heap.size wr wr.drew := (Below.refl _ wr).drew
        have hownw := ownR_below HOB.out.1 hb6
        have hbw := HOB.out.2.1.trans (hb6.mono HOB.out.2.1.size)
        have hxw := (hb6.block q (heap_lt HOB.out.2.2)).trans HOB.out.2.2
        clear hb6 HOB
        generalize wr.drew = w5 at *
        go_upto_region 8 with (fail)
        have y0 := blk_cell hxw 0
        have y1 := blk_cell hxw 1
        simp only [List.getElem?_toArray, List.getElem?_cons_zero, List.getElem?_cons_succ] at y0 y1
        have ho3 := hownw.alloc (Obj.cells #[.int .i64 id, .int .u64 (t : Nat)] 62)
        have hb3 := hbw.alloc hbw.size (Obj.cells #[.int .i64 id, .int .u64 (t : Nat)] 62)
        have HO3 := Lib.hid ho3
        have HB3 := Lib.hid hb3
        have HIN := Lib.hid hins
        clear ho3 hb3 hownw hbw hins hxw
        have HFl := Lib.hid (flat_snoc TK ⟨id, t⟩)
        go_wp2_with (at_builtin; (refine wpList_append_own _ rfl _ _ 27 rfl w2.heap.size 62 i0 zI 2 16 Try.underlying27 hi hz0 hz1 hz2 rfl (by decide) _ _ _ rfl HO3.out ⟨w5.heap.size, 0, none⟩ 1 1 (tf ⟨id, t⟩) rfl rfl (newT w5 ⟨id, t⟩) ?q3 ?q4 ?q5 HB3.out.size ?_))
        case q3 => intro u hu; simp [tf] at hu; rcases hu with rfl | rfl <;> rfl
        case q4 => unfold maxLen; omega
        case q5 => omega
        intro v7 w7 hown7 hgrow7 hnil7
        have hb7 := HB3.out.grown hgrow7 HB3.out.size (fun k hk => (HO3.out.lt k hk).1)
        rw [← HFl.out, show TK.length + 1 = (TK ++ [(⟨id, t⟩ : Ti)]).length by simp] at hown7
        have m3 : (TK ++ [(⟨id, t⟩ : Ti)]).length ≤ 1001 := by simp; omega
        have HO7 := Lib.hid hown7
        have HB7 := Lib.hid hb7
        have HS7 := Lib.hid (HDR.out w7 hb7)
        have HY := Lib.hid (show (TK ++ [(⟨id, t⟩ : Ti)]) ++ DR = insL L ⟨id, t⟩ by rw [HIN.out]; simp)
        clear hown7 hgrow7 hnil7 hb7
        generalize TK ++ [(⟨id, t⟩ : Ti)] = Y at *
        go_wp2_with (at_builtin; (refine wpList_append_it rfl _ _ rfl w2.heap.size _ Y rfl HO7.out (A1) (0) _ DR (by rw [HD0.out]; rfl) HS7.out rfl ?q6 HB7.out.size ?_))
        case q6 => omega
        intro v8 w8 hown8 hgrow8
        have hb8 := HB7.out.grown hgrow8 HB7.out.size (fun k hk => (HO7.out.lt k hk).1)
        rw [← List.length_append, ← List.flatMap_append, HY.out] at hown8
        obtain ⟨A9, c9, h9, hS9⟩ := Ss.own hown8
        have HF := Lib.hid (And.intro h9 (And.intro hS9 (HS2.out.2.2.1.trans (hb8.mono HS2.out.2.2.1.size))))
        clear hown8 hgrow8 hb8 hS9 h9
        go_wp2_with fail
        go_ret
        exact ⟨A9, c9, by rw [← HF.out.1]; rfl, HF.out.2.1, HF.out.2.2⟩
      · have hnl := HS2.out.1.nl
        have HNL := Lib.hid hnl
        clear hnl
        have hdl : (L.drop L.length).length = L.length - L.length := List.length_drop
        have HDL := Lib.hid hdl
        have m1 : (L.take L.length).length ≤ 1000 := by rw [List.length_take]; omega
        have m2 : (L.drop L.length).length ≤ 1000 := by rw [List.length_drop]; omega
        have HDR := Lib.hid (fun W (hW : Below w2.heap.size w2 W) => (show Ss W (A1.map (·.add (L.length * 2))) (kc - L.length) (L.drop L.length) from by rw [HD0.out]; exact ⟨fun h => (by have h2 : A1 = none := (by simpa using h); have h3 := HNL.out h2; omega), Nat.zero_le _, .inl rfl⟩))
        clear hdl
        generalize L.take L.length = TK at *
        generalize L.drop L.length = DR at *
        go_upto_region 5 with (fail)
        go_still_tail 10, (by kernel_rfl)
        change wpList _ _ _ _ _ wr.drew
        have hb6 : Below wr.heap.size wr wr.drew := (Below.refl _ wr).drew
        have hownw := ownR_below HOB.out.1 hb6
        have hbw := HOB.out.2.1.trans (hb6.mono HOB.out.2.1.size)
        have hxw := (hb6.block q (heap_lt HOB.out.2.2)).trans HOB.out.2.2
        clear hb6 HOB
        generalize wr.drew = w5 at *
        go_upto_region 8 with (fail)
        have y0 := blk_cell hxw 0
        have y1 := blk_cell hxw 1
        simp only [List.getElem?_toArray, List.getElem?_cons_zero, List.getElem?_cons_succ] at y0 y1
        have ho3 := hownw.alloc (Obj.cells #[.int .i64 id, .int .u64 (t : Nat)] 62)
        have hb3 := hbw.alloc hbw.size (Obj.cells #[.int .i64 id, .int .u64 (t : Nat)] 62)
        have HO3 := Lib.hid ho3
        have HB3 := Lib.hid hb3
        have HIN := Lib.hid hins
        clear ho3 hb3 hownw hbw hins hxw
        have HFl := Lib.hid (flat_snoc TK ⟨id, t⟩)
        go_wp2_with (at_builtin; (refine wpList_append_own _ rfl _ _ 27 rfl w2.heap.size 62 i0 zI 2 16 Try.underlying27 hi hz0 hz1 hz2 rfl (by decide) _ _ _ rfl HO3.out ⟨w5.heap.size, 0, none⟩ 1 1 (tf ⟨id, t⟩) rfl rfl (newT w5 ⟨id, t⟩) ?q3 ?q4 ?q5 HB3.out.size ?_))
        case q3 => intro u hu; simp [tf] at hu; rcases hu with rfl | rfl <;> rfl
        case q4 => unfold maxLen; omega
        case q5 => omega
        intro v7 w7 hown7 hgrow7 hnil7
        have hb7 := HB3.out.grown hgrow7 HB3.out.size (fun k hk => (HO3.out.lt k hk).1)
        rw [← HFl.out, show TK.length + 1 = (TK ++ [(⟨id, t⟩ : Ti)]).length by simp] at hown7
        have m3 : (TK ++ [(⟨id, t⟩ : Ti)]).length ≤ 1001 := by simp; omega
        have HO7 := Lib.hid hown7
        have HB7 := Lib.hid hb7
        have HS7 := Lib.hid (HDR.out w7 hb7)
        have HY := Lib.hid (show (TK ++ [(⟨id, t⟩ : Ti)]) ++ DR = insL L ⟨id, t⟩ by rw [HIN.out]; simp)
        clear hown7 hgrow7 hnil7 hb7
        generalize TK ++ [(⟨id, t⟩ : Ti)] = Y at *
        go_wp2_with (at_builtin; (refine wpList_append_it rfl _ _ rfl w2.heap.size _ Y rfl HO7.out (A1.map (·.add (L.length * 2))) (kc - L.length) _ DR (by rw [HD0.out]; rfl) HS7.out rfl ?q6 HB7.out.size ?_))
        case q6 => omega
        intro v8 w8 hown8 hgrow8
        have hb8 := HB7.out.grown hgrow8 HB7.out.size (fun k hk => (HO7.out.lt k hk).1)
        rw [← List.length_append, ← List.flatMap_append, HY.out] at hown8
        obtain ⟨A9, c9, h9, hS9⟩ := Ss.own hown8
        have HF := Lib.hid (And.intro h9 (And.intro hS9 (HS2.out.2.2.1.trans (hb8.mono HS2.out.2.2.1.size))))
        clear hown8 hgrow8 hb8 hS9 h9
        go_wp2_with fail
        go_ret
        exact ⟨A9, c9, by rw [← HF.out.1]; rfl, HF.out.2.1, HF.out.2.2⟩
end Go.Proofs.Ytdhahienhlknoaa
