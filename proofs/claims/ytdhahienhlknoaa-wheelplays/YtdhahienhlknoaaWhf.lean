/- The contracts of derrickref11's functions, with the bound of the slice that they hand back. -/
import Derived.Test.YtdhahienhlknoaaWhd
import Derived.Test.YtdhahienhlknoaaWhe
import Derived.StillTailTactics
namespace Go.Proofs.Ytdhahienhlknoaa
open Go.RowKit
set_option linter.unusedVariables false
theorem Ss.ownx {w : World} {l : List Ti} {B : Nat} {v : Value} (h : w.ownsRow B 62 2 v l.length (l.flatMap tf)) : ∃ A cap, v = .slice A l.length cap ∧ Ss w A cap l ∧ cap ≤ maxLen := by
  obtain ⟨A, cap, hv, hS⟩ := Ss.own h
  rcases h.2 with ⟨hv2, hn⟩ | ⟨g, cap2, cur, hv2, hB, hg, hc, hm, hz, ht⟩
  · rw [hv2] at hv
    have : cap = 0 := by injection hv with h1 h2 h3; exact h3.symm
    exact ⟨A, cap, by rw [hv2]; exact hv, hS, by omega⟩
  · rw [hv2] at hv
    have : cap = cap2 := by injection hv with h1 h2 h3; exact h3.symm
    exact ⟨A, cap, by rw [hv2]; exact hv, hS, by omega⟩
set_option maxRecDepth 100000 in
set_option maxHeartbeats 2000000 in
theorem rdel_x (A : Option Addr) (cap : Nat) (l : List Ti) (id : Int) (hl : l.length ≤ 1000) (w : World) (hI : Ss w A cap l) : Calls Try.prog 22 #[.slice A l.length cap, .int .i64 id] w fun e w' => ∃ A' c', e = .returned (.tuple #[.slice A' (delL l id).length c', .bool (hasL l id)]) ∧ Ss w' A' c' (delL l id) ∧ c' ≤ maxLen ∧ Below w.heap.size w w' := by
  obtain ⟨i0, hi, hz0, hz1, hz2⟩ := el_of elIt
  have HI := Lib.hid hI
  clear hI
  go_enter Try.func22, Try.ntmps22
  go_wp2_with fail
  go_loopw [6, 7, 8] (fun v y x wr => ∃ j : Nat, j ≤ l.length ∧ x = .int .i64 j ∧ y = .bool (hasL (l.take j) id) ∧ wr.ownsRow w.heap.size 62 2 v (delL (l.take j) id).length ((delL (l.take j) id).flatMap tf) ∧ Below w.heap.size w wr) (fun _ _ x _ => l.length - (intOf x).toNat)
  case atStart => exact ⟨0, Nat.zero_le _, rfl, rfl, World.ownsRow_nil _ _ _ _, Below.refl _ _⟩
  case round =>
    obtain ⟨j, hj, rfl, rfl, hown, hbel⟩ := hrel
    obtain ⟨Av, cv, rfl⟩ := ownR_form hown
    by_cases hlt : j < l.length
    · have d1 : decide ((j : Int) < (l.length : Nat)) = true := by simp; omega
      obtain ⟨b, off, rfl, hb, c0, c1⟩ := (HI.out.below hbel).at j hlt
      have s0 : (0 : Int) ≤ (j : Nat) := by omega
      have s1 : (j : Int) < (l.length : Nat) := by omega
      have ht := delL_take l id j hlt
      have hh := hasL_take l id j hlt
      have hle : (delL (l.take j) id).length ≤ 1000 := Nat.le_trans (List.length_filter_le _ _) (by rw [List.length_take]; omega)
      generalize l[j] = r at *
      by_cases e : r.id = id
      · rw [if_pos e] at ht
        rw [decide_eq_true e, Bool.or_true] at hh
        have HT := Lib.hid (And.intro ht hh)
        have HO := Lib.hid (And.intro hown hbel)
        have e1 : decide (r.id = id) = true := by simpa using e
        rw [e] at c0
        clear ht hh hown hbel e1
        go_wp2_with fail
        go_roundw
        case rel => exact ⟨j + 1, hlt, by go_num, by rw [HT.out.2], by rw [HT.out.1]; exact HO.out.1, HO.out.2⟩
        case measure => simp [intOf]; omega
      · rw [if_neg e] at ht
        rw [decide_eq_false e, Bool.or_false] at hh
        have e1 : decide (r.id = id) = false := by simpa using e
        have e2 : (r.id == id) = false := by simpa using e
        have ho3 := hown.alloc (Obj.cells #[.int .i64 r.id, .int .u64 (r.t : Nat)] 62)
        have hb3 := hbel.alloc hbel.size (Obj.cells #[.int .i64 r.id, .int .u64 (r.t : Nat)] 62)
        have HT := Lib.hid (And.intro ht hh)
        have HO3 := Lib.hid ho3
        have HB3 := Lib.hid hb3
        have HFl := Lib.hid (flat_snoc (delL (l.take j) id) r)
        clear ht hh hown hbel ho3 hb3
        generalize delL (l.take j) id = L at *
        go_wp2_with (at_builtin; (refine wpList_append_own _ rfl _ _ 27 rfl w.heap.size 62 i0 zI 2 16 Try.underlying27 hi hz0 hz1 hz2 rfl (by decide) _ _ _ rfl HO3.out ⟨wr.heap.size, 0, none⟩ 1 1 (tf r) rfl rfl (newT wr r) ?q3 ?q4 ?q5 HB3.out.size ?_))
        case q3 => intro u hu; simp [tf] at hu; rcases hu with rfl | rfl <;> rfl
        case q4 => unfold maxLen; omega
        case q5 => omega
        intro v' w3 hown2 hgrow hnil
        have hb4 := HB3.out.grown hgrow HB3.out.size (fun k hk => (HO3.out.lt k hk).1)
        rw [← HFl.out, show L.length + 1 = (L ++ [r]).length by simp, ← HT.out.1] at hown2
        have HF := Lib.hid (And.intro hown2 hb4)
        clear hown2 hgrow hnil hb4
        go_wp2_with fail
        go_roundw
        case rel => exact ⟨j + 1, hlt, by go_num, by rw [HT.out.2], HF.out.1, HF.out.2⟩
        case measure => simp [intOf]; omega
    · obtain rfl : j = l.length := by omega
      have d1 : decide ((l.length : Int) < (l.length : Nat)) = false := by simp
      rw [List.take_length] at hown ⊢
      obtain ⟨A2, c2, h2, hS, hmx⟩ := Ss.ownx hown
      cases h2
      have HX := Lib.hid hmx
      have HF := Lib.hid (And.intro hS hbel)
      clear hown hbel hS hmx
      go_wp2_with fail
      go_ret2
      exact ⟨Av, cv, rfl, HF.out.1, HX.out, HF.out.2⟩
set_option maxRecDepth 100000 in
set_option maxHeartbeats 4000000 in
theorem rset_x (A : Option Addr) (cap : Nat) (l : List Ti) (id : Int) (t : Nat) (hl : l.length ≤ 1000) (w : World) (hI : Ss w A cap l) : Calls Try.prog 21 #[.slice A l.length cap, .int .i64 id, .int .u64 (t : Nat)] w fun e w' => ∃ A' c', e = .returned (.slice A' (setL l id t).length c') ∧ Ss w' A' c' (setL l id t) ∧ c' ≤ maxLen ∧ Below w.heap.size w w' := by
  obtain ⟨i0, hi, hz0, hz1, hz2⟩ := el_of elIt
  have HD := Lib.hid (rdel_any A cap l id hl w hI)
  have hLl : (delL l id).length ≤ 1000 := Nat.le_trans (List.length_filter_le _ _) hl
  obtain ⟨L, hL⟩ : ∃ L, delL l id = L := ⟨_, rfl⟩
  have hset : setL l id t = insL L ⟨id, t⟩ := by unfold setL; rw [hL]
  rw [hL] at HD hLl
  rw [hset]
  clear hL hset hI
  go_enter Try.func21, Try.ntmps21
  go_upto_region 3 with (go_at_call 22; with_reducible (refine HD.out.mono ?_); rintro e w1 ⟨A1, kc, rfl, hS1, hb1⟩)
  have hba := (Below.refl w1.heap.size w1).alloc (Nat.le_refl _) (Obj.cells #[.int .i64 id, .int .u64 (t : Nat)] 62)
  have hbk := heap_alloc_new w1 (Obj.cells #[.int .i64 id, .int .u64 (t : Nat)] 62)
  have HS2 := Lib.hid (And.intro (hS1.below hba) (And.intro hbk (And.intro (hb1.trans (hba.mono hb1.size)) (heap_lt hbk))))
  clear hS1 hb1 hba hbk HD
  generalize w1.alloc (Obj.cells #[.int .i64 id, .int .u64 (t : Nat)] 62) = w2 at *
  generalize w1.heap.size = q at *
  go_wp2_with fail
  go_loopw [10, 11] (fun v x wr => ∃ j : Nat, j ≤ L.length ∧ x = .int .i64 j ∧ (∀ y ∈ L.take j, ltT y ⟨id, t⟩) ∧ wr.ownsRow w2.heap.size 62 2 v (L.take j).length ((L.take j).flatMap tf) ∧ Below w2.heap.size w2 wr) (fun _ x _ => L.length - (intOf x).toNat)
  case atStart => exact ⟨0, Nat.zero_le _, rfl, (fun y hy => by simp at hy), World.ownsRow_nil _ _ _ _, Below.refl _ _⟩
  case round =>
    obtain ⟨j, hj, rfl, hall, hown, hbel⟩ := hrel
    obtain ⟨Av, cv, rfl⟩ := ownR_form hown
    have hS := HS2.out.1.below hbel
    have hxb : wr.heap[q]? = some (.cells #[.int .i64 id, .int .u64 (t : Nat)] 62 (0, 0)) := (hbel.block q HS2.out.2.2.2).trans HS2.out.2.1
    by_cases hlt : j < L.length
    · have d1 : decide ((j : Int) < (L.length : Nat)) = true := by simp; omega
      obtain ⟨b, off, rfl, hb, c0, c1⟩ := hS.at j hlt
      have x0 := blk_cell hxb 0
      have x1 := blk_cell hxb 1
      simp only [List.getElem?_toArray, List.getElem?_cons_zero, List.getElem?_cons_succ] at x0 x1
      have s0 : (0 : Int) ≤ (j : Nat) := by omega
      have s1 : (j : Int) < (L.length : Nat) := by omega
      have HLS := Lib.hid (fun W => less_any L[j] ⟨id, t⟩ W)
      by_cases hless : ltT L[j] ⟨id, t⟩
      · have HLS2 := Lib.hid (fun W => by have := HLS.out W; rw [decide_eq_true hless] at this; exact this)
        have hall2 : ∀ y ∈ L.take (j + 1), ltT y ⟨id, t⟩ := fun y hy => by
          rw [List.take_add_one, List.getElem?_eq_getElem hlt, List.mem_append] at hy
          rcases hy with hy | hy
          · exact hall y hy
          · simp at hy; subst hy; exact hless
        have hv : L.take (j + 1) = L.take j ++ [L[j]] := by rw [List.take_add_one, List.getElem?_eq_getElem hlt]; rfl
        have HT := Lib.hid (And.intro hall2 hv)
        have HOB := Lib.hid (And.intro hown hbel)
        have HA2 := Lib.hid (fun W (hW : Below wr.heap.size wr W) => (hS.below hW).at j hlt)
        have hl3 : (L.take j).length ≤ 1000 := by rw [List.length_take]; omega
        clear HLS hall hall2 hv hown hbel hS hxb
        generalize L[j] = r at *
        generalize L.take j = TK at *
        go_upto_region 5 with (fail)
        go_still_tail 10, (by kernel_rfl)
        change wpList _ _ _ _ _ wr.drew
        go_upto_region 6 with (go_at_call 28; with_reducible (refine (HLS2.out _).mono ?_); rintro e w5 ⟨rfl, hb5⟩)
        have hb6 : Below wr.heap.size wr w5 := ((Below.refl _ wr).drew).trans hb5
        obtain ⟨b', off', hbo, _, c2, c3⟩ := HA2.out w5 hb6
        cases hbo
        have ho3 := (ownR_below HOB.out.1 hb6).alloc (Obj.cells #[.int .i64 r.id, .int .u64 (r.t : Nat)] 62)
        have hbl5 := HOB.out.2.trans (hb6.mono HOB.out.2.size)
        have hb3 := hbl5.alloc hbl5.size (Obj.cells #[.int .i64 r.id, .int .u64 (r.t : Nat)] 62)
        have HO3 := Lib.hid ho3
        have HB3 := Lib.hid hb3
        have HFl := Lib.hid (flat_snoc TK r)
        clear hb5 hb6 ho3 hb3 hbl5 HOB HA2 HLS2 hless c0 c1 x0 x1
        go_wp2_with (at_builtin; (refine wpList_append_own _ rfl _ _ 27 rfl w2.heap.size 62 i0 zI 2 16 Try.underlying27 hi hz0 hz1 hz2 rfl (by decide) _ _ _ rfl HO3.out ⟨w5.heap.size, 0, none⟩ 1 1 (tf r) rfl rfl (newT w5 r) ?q3 ?q4 ?q5 HB3.out.size ?_))
        case q3 => intro u hu; simp [tf] at hu; rcases hu with rfl | rfl <;> rfl
        case q4 => unfold maxLen; omega
        case q5 => omega
        intro v' w7 hown7 hgrow7 hnil7
        have hb7 := HB3.out.grown hgrow7 HB3.out.size (fun k hk => (HO3.out.lt k hk).1)
        rw [← HFl.out, show TK.length + 1 = (TK ++ [r]).length by simp, ← HT.out.2] at hown7
        have HF := Lib.hid (And.intro hown7 hb7)
        clear hown7 hgrow7 hnil7 hb7
        go_wp2_with fail
        go_roundw
        case rel => exact ⟨j + 1, hlt, by go_num, HT.out.1, HF.out.1, HF.out.2⟩
        case measure => simp [intOf]; omega
      · have HLS2 := Lib.hid (fun W => by have := HLS.out W; rw [decide_eq_false hless] at this; exact this)
        have hins := ins_at hj hall (fun _ => hless)
        have hle := hS.le
        have hne : ¬ kc = j := by omega
        have HOB := Lib.hid (And.intro hown (And.intro hbel hxb))
        clear HLS hall hown hbel hS hxb hless
        generalize L[j] = r at *
        have hdl : (L.drop j).length = L.length - j := List.length_drop
        have HDL := Lib.hid hdl
        have m1 : (L.take j).length ≤ 1000 := by rw [List.length_take]; omega
        have m2 : (L.drop j).length ≤ 1000 := by rw [List.length_drop]; omega
        have HDR := Lib.hid (fun W (hW : Below w2.heap.size w2 W) => (show Ss W (some ⟨b, off + j * 2, none⟩) (kc - j) (L.drop j) from (HS2.out.1.below hW).drop j hj))
        clear hdl
        generalize L.take j = TK at *
        generalize L.drop j = DR at *
        go_upto_region 5 with (fail)
        go_still_tail 10, (by kernel_rfl)
        change wpList _ _ _ _ _ wr.drew
        go_upto_region 8 with (go_at_call 28; with_reducible (refine (HLS2.out _).mono ?_); rintro e w5 ⟨rfl, hb5⟩)
        have hb6 : Below wr.heap.size wr w5 := ((Below.refl _ wr).drew).trans hb5
        have hownw := ownR_below HOB.out.1 hb6
        have hbw := HOB.out.2.1.trans (hb6.mono HOB.out.2.1.size)
        have hxw := (hb6.block q (heap_lt HOB.out.2.2)).trans HOB.out.2.2
        clear hb5 hb6 HOB HLS2 x0 x1
        have y0 := blk_cell hxw 0
        have y1 := blk_cell hxw 1
        simp only [List.getElem?_toArray, List.getElem?_cons_zero, List.getElem?_cons_succ] at y0 y1
        have ho3 := hownw.alloc (Obj.cells #[.int .i64 id, .int .u64 (t : Nat)] 62)
        have hb3 := hbw.alloc hbw.size (Obj.cells #[.int .i64 id, .int .u64 (t : Nat)] 62)
        have HO3 := Lib.hid ho3
        have HB3 := Lib.hid hb3
        have HIN := Lib.hid hins
        clear ho3 hb3 hownw hbw hins hxw
        have HFl := Lib.hid (flat_snoc TK ⟨id, t⟩)
        go_wp2_with (at_builtin; (refine wpList_append_own _ rfl _ _ 27 rfl w2.heap.size 62 i0 zI 2 16 Try.underlying27 hi hz0 hz1 hz2 rfl (by decide) _ _ _ rfl HO3.out ⟨w5.heap.size, 0, none⟩ 1 1 (tf ⟨id, t⟩) rfl rfl (newT w5 ⟨id, t⟩) ?q3 ?q4 ?q5 HB3.out.size ?_))
        case q3 => intro u hu; simp [tf] at hu; rcases hu with rfl | rfl <;> rfl
        case q4 => unfold maxLen; omega
        case q5 => omega
        intro v7 w7 hown7 hgrow7 hnil7
        have hb7 := HB3.out.grown hgrow7 HB3.out.size (fun k hk => (HO3.out.lt k hk).1)
        rw [← HFl.out, show TK.length + 1 = (TK ++ [(⟨id, t⟩ : Ti)]).length by simp] at hown7
        have m3 : (TK ++ [(⟨id, t⟩ : Ti)]).length ≤ 1001 := by simp; omega
        have HO7 := Lib.hid hown7
        have HB7 := Lib.hid hb7
        have HS7 := Lib.hid (HDR.out w7 hb7)
        have HY := Lib.hid (show (TK ++ [(⟨id, t⟩ : Ti)]) ++ DR = insL L ⟨id, t⟩ by rw [HIN.out]; simp)
        clear hown7 hgrow7 hnil7 hb7
        generalize TK ++ [(⟨id, t⟩ : Ti)] = Y at *
        go_wp2_with (at_builtin; (refine wpList_append_it rfl _ _ rfl w2.heap.size _ Y rfl HO7.out (some ⟨b, off + j * 2, none⟩) (kc - j) _ DR HDL.out.symm HS7.out rfl ?q6 HB7.out.size ?_))
        case q6 => omega
        intro v8 w8 hown8 hgrow8
        have hb8 := HB7.out.grown hgrow8 HB7.out.size (fun k hk => (HO7.out.lt k hk).1)
        rw [← List.length_append, ← List.flatMap_append, HY.out] at hown8
        obtain ⟨A9, c9, h9, hS9, hmx⟩ := Ss.ownx hown8; have HX := Lib.hid hmx; clear hmx
        have HF := Lib.hid (And.intro h9 (And.intro hS9 (HS2.out.2.2.1.trans (hb8.mono HS2.out.2.2.1.size))))
        clear hown8 hgrow8 hb8 hS9 h9
        go_wp2_with fail
        go_ret
        exact ⟨A9, c9, by rw [← HF.out.1]; rfl, HF.out.2.1, HX.out, HF.out.2.2⟩
    · obtain rfl : j = L.length := by omega
      have d1 : decide ((L.length : Int) < (L.length : Nat)) = false := by simp
      have hins := ins_at hj hall (fun h => absurd h hlt)
      have HD0 := Lib.hid (show L.drop L.length = [] from List.drop_length)
      have HOB := Lib.hid (And.intro hown (And.intro hbel hxb))
      clear hall hown hbel hS hxb
      by_cases hkc : kc = L.length
      · subst hkc
        have hdl : (L.drop L.length).length = L.length - L.length := List.length_drop
        have HDL := Lib.hid hdl
        have m1 : (L.take L.length).length ≤ 1000 := by rw [List.length_take]; omega
        have m2 : (L.drop L.length).length ≤ 1000 := by rw [List.length_drop]; omega
        have HDR := Lib.hid (fun W (hW : Below w2.heap.size w2 W) => (show Ss W (A1) (0) (L.drop L.length) from by rw [HD0.out]; exact ⟨fun _ => rfl, Nat.le_refl _, .inl rfl⟩))
        clear hdl
        generalize L.take L.length = TK at *
        generalize L.drop L.length = DR at *
        go_upto_region 5 with (fail)
        go_still_tail 10, (by kernel_rfl)
        change wpList _ _ _ _ _ wr.drew
        have hb6 : Below wr.heap.size wr wr.drew := (Below.refl _ wr).drew
        have hownw := ownR_below HOB.out.1 hb6
        have hbw := HOB.out.2.1.trans (hb6.mono HOB.out.2.1.size)
        have hxw := (hb6.block q (heap_lt HOB.out.2.2)).trans HOB.out.2.2
        clear hb6 HOB
        generalize wr.drew = w5 at *
        go_upto_region 8 with (fail)
        have y0 := blk_cell hxw 0
        have y1 := blk_cell hxw 1
        simp only [List.getElem?_toArray, List.getElem?_cons_zero, List.getElem?_cons_succ] at y0 y1
        have ho3 := hownw.alloc (Obj.cells #[.int .i64 id, .int .u64 (t : Nat)] 62)
        have hb3 := hbw.alloc hbw.size (Obj.cells #[.int .i64 id, .int .u64 (t : Nat)] 62)
        have HO3 := Lib.hid ho3
        have HB3 := Lib.hid hb3
        have HIN := Lib.hid hins
        clear ho3 hb3 hownw hbw hins hxw
        have HFl := Lib.hid (flat_snoc TK ⟨id, t⟩)
        go_wp2_with (at_builtin; (refine wpList_append_own _ rfl _ _ 27 rfl w2.heap.size 62 i0 zI 2 16 Try.underlying27 hi hz0 hz1 hz2 rfl (by decide) _ _ _ rfl HO3.out ⟨w5.heap.size, 0, none⟩ 1 1 (tf ⟨id, t⟩) rfl rfl (newT w5 ⟨id, t⟩) ?q3 ?q4 ?q5 HB3.out.size ?_))
        case q3 => intro u hu; simp [tf] at hu; rcases hu with rfl | rfl <;> rfl
        case q4 => unfold maxLen; omega
        case q5 => omega
        intro v7 w7 hown7 hgrow7 hnil7
        have hb7 := HB3.out.grown hgrow7 HB3.out.size (fun k hk => (HO3.out.lt k hk).1)
        rw [← HFl.out, show TK.length + 1 = (TK ++ [(⟨id, t⟩ : Ti)]).length by simp] at hown7
        have m3 : (TK ++ [(⟨id, t⟩ : Ti)]).length ≤ 1001 := by simp; omega
        have HO7 := Lib.hid hown7
        have HB7 := Lib.hid hb7
        have HS7 := Lib.hid (HDR.out w7 hb7)
        have HY := Lib.hid (show (TK ++ [(⟨id, t⟩ : Ti)]) ++ DR = insL L ⟨id, t⟩ by rw [HIN.out]; simp)
        clear hown7 hgrow7 hnil7 hb7
        generalize TK ++ [(⟨id, t⟩ : Ti)] = Y at *
        go_wp2_with (at_builtin; (refine wpList_append_it rfl _ _ rfl w2.heap.size _ Y rfl HO7.out (A1) (0) _ DR (by rw [HD0.out]; rfl) HS7.out rfl ?q6 HB7.out.size ?_))
        case q6 => omega
        intro v8 w8 hown8 hgrow8
        have hb8 := HB7.out.grown hgrow8 HB7.out.size (fun k hk => (HO7.out.lt k hk).1)
        rw [← List.length_append, ← List.flatMap_append, HY.out] at hown8
        obtain ⟨A9, c9, h9, hS9, hmx⟩ := Ss.ownx hown8; have HX := Lib.hid hmx; clear hmx
        have HF := Lib.hid (And.intro h9 (And.intro hS9 (HS2.out.2.2.1.trans (hb8.mono HS2.out.2.2.1.size))))
        clear hown8 hgrow8 hb8 hS9 h9
        go_wp2_with fail
        go_ret
        exact ⟨A9, c9, by rw [← HF.out.1]; rfl, HF.out.2.1, HX.out, HF.out.2.2⟩
      · have hnl := HS2.out.1.nl
        have HNL := Lib.hid hnl
        clear hnl
        have hdl : (L.drop L.length).length = L.length - L.length := List.length_drop
        have HDL := Lib.hid hdl
        have m1 : (L.take L.length).length ≤ 1000 := by rw [List.length_take]; omega
        have m2 : (L.drop L.length).length ≤ 1000 := by rw [List.length_drop]; omega
        have HDR := Lib.hid (fun W (hW : Below w2.heap.size w2 W) => (show Ss W (A1.map (·.add (L.length * 2))) (kc - L.length) (L.drop L.length) from by rw [HD0.out]; exact ⟨fun h => (by have h2 : A1 = none := (by simpa using h); have h3 := HNL.out h2; omega), Nat.zero_le _, .inl rfl⟩))
        clear hdl
        generalize L.take L.length = TK at *
        generalize L.drop L.length = DR at *
        go_upto_region 5 with (fail)
        go_still_tail 10, (by kernel_rfl)
        change wpList _ _ _ _ _ wr.drew
        have hb6 : Below wr.heap.size wr wr.drew := (Below.refl _ wr).drew
        have hownw := ownR_below HOB.out.1 hb6
        have hbw := HOB.out.2.1.trans (hb6.mono HOB.out.2.1.size)
        have hxw := (hb6.block q (heap_lt HOB.out.2.2)).trans HOB.out.2.2
        clear hb6 HOB
        generalize wr.drew = w5 at *
        go_upto_region 8 with (fail)
        have y0 := blk_cell hxw 0
        have y1 := blk_cell hxw 1
        simp only [List.getElem?_toArray, List.getElem?_cons_zero, List.getElem?_cons_succ] at y0 y1
        have ho3 := hownw.alloc (Obj.cells #[.int .i64 id, .int .u64 (t : Nat)] 62)
        have hb3 := hbw.alloc hbw.size (Obj.cells #[.int .i64 id, .int .u64 (t : Nat)] 62)
        have HO3 := Lib.hid ho3
        have HB3 := Lib.hid hb3
        have HIN := Lib.hid hins
        clear ho3 hb3 hownw hbw hins hxw
        have HFl := Lib.hid (flat_snoc TK ⟨id, t⟩)
        go_wp2_with (at_builtin; (refine wpList_append_own _ rfl _ _ 27 rfl w2.heap.size 62 i0 zI 2 16 Try.underlying27 hi hz0 hz1 hz2 rfl (by decide) _ _ _ rfl HO3.out ⟨w5.heap.size, 0, none⟩ 1 1 (tf ⟨id, t⟩) rfl rfl (newT w5 ⟨id, t⟩) ?q3 ?q4 ?q5 HB3.out.size ?_))
        case q3 => intro u hu; simp [tf] at hu; rcases hu with rfl | rfl <;> rfl
        case q4 => unfold maxLen; omega
        case q5 => omega
        intro v7 w7 hown7 hgrow7 hnil7
        have hb7 := HB3.out.grown hgrow7 HB3.out.size (fun k hk => (HO3.out.lt k hk).1)
        rw [← HFl.out, show TK.length + 1 = (TK ++ [(⟨id, t⟩ : Ti)]).length by simp] at hown7
        have m3 : (TK ++ [(⟨id, t⟩ : Ti)]).length ≤ 1001 := by simp; omega
        have HO7 := Lib.hid hown7
        have HB7 := Lib.hid hb7
        have HS7 := Lib.hid (HDR.out w7 hb7)
        have HY := Lib.hid (show (TK ++ [(⟨id, t⟩ : Ti)]) ++ DR = insL L ⟨id, t⟩ by rw [HIN.out]; simp)
        clear hown7 hgrow7 hnil7 hb7
        generalize TK ++ [(⟨id, t⟩ : Ti)] = Y at *
        go_wp2_with (at_builtin; (refine wpList_append_it rfl _ _ rfl w2.heap.size _ Y rfl HO7.out (A1.map (·.add (L.length * 2))) (kc - L.length) _ DR (by rw [HD0.out]; rfl) HS7.out rfl ?q6 HB7.out.size ?_))
        case q6 => omega
        intro v8 w8 hown8 hgrow8
        have hb8 := HB7.out.grown hgrow8 HB7.out.size (fun k hk => (HO7.out.lt k hk).1)
        rw [← List.length_append, ← List.flatMap_append, HY.out] at hown8
        obtain ⟨A9, c9, h9, hS9, hmx⟩ := Ss.ownx hown8; have HX := Lib.hid hmx; clear hmx
        have HF := Lib.hid (And.intro h9 (And.intro hS9 (HS2.out.2.2.1.trans (hb8.mono HS2.out.2.2.1.size))))
        clear hown8 hgrow8 hb8 hS9 h9
        go_wp2_with fail
        go_ret
        exact ⟨A9, c9, by rw [← HF.out.1]; rfl, HF.out.2.1, HX.out, HF.out.2.2⟩
set_option maxRecDepth 100000 in
set_option maxHeartbeats 2000000 in
theorem rdue_x (A : Option Addr) (cap : Nat) (l : List Ti) (now : Nat) (hl : l.length ≤ 1000) (hcap : cap ≤ maxLen) (w : World) (hI : Ss w A cap l) : Calls Try.prog 23 #[.slice A l.length cap, .int .u64 (now : Nat)] w fun e w' => ∃ A' c' A2 c2, e = .returned (.tuple #[.slice A' (restL l now).length c', .slice A2 (dueL l now).length c2]) ∧ Ss w' A' c' (restL l now) ∧ c' ≤ maxLen ∧ NsI w' A2 ((dueL l now).map (·.id)) ∧ Below w.heap.size w w' := by
  obtain ⟨i0, hi, hz0, hz1, hz2⟩ := el_of elI
  have HI := Lib.hid hI
  have hle := hI.le
  clear hI
  go_enter Try.func23, Try.ntmps23
  go_wp2_with fail
  go_loopw [6, 7] (fun v x wr => ∃ j : Nat, j ≤ l.length ∧ x = .int .i64 j ∧ (∀ y ∈ l.take j, y.t ≤ now) ∧ wr.ownsRow w.heap.size 3 1 v j (valI ((l.take j).map (·.id))) ∧ Below w.heap.size w wr) (fun _ x _ => l.length - (intOf x).toNat)
  case atStart => exact ⟨0, Nat.zero_le _, rfl, (fun y hy => by simp at hy), World.ownsRow_nil _ _ _ _, Below.refl _ _⟩
  case round =>
    obtain ⟨j, hj, rfl, hall, hown, hbel⟩ := hrel
    obtain ⟨Av, cv, rfl⟩ := ownR_form hown
    by_cases hlt : j < l.length
    · have d1 : decide ((j : Int) < (l.length : Nat)) = true := by simp; omega
      obtain ⟨b, off, rfl, hb, c0, c1⟩ := (HI.out.below hbel).at j hlt
      have s0 : (0 : Int) ≤ (j : Nat) := by omega
      have s1 : (j : Int) < (l.length : Nat) := by omega
      by_cases e : l[j].t ≤ now
      · have e1 : decide ((l[j].t : Int) ≤ (now : Nat)) = true := by simp; omega
        have hall2 : ∀ y ∈ l.take (j + 1), y.t ≤ now := fun y hy => by
          rw [List.take_add_one, List.getElem?_eq_getElem hlt, List.mem_append] at hy
          rcases hy with hy | hy
          · exact hall y hy
          · simp at hy; subst hy; exact e
        have hv : valI ((l.take (j + 1)).map (·.id)) = valI ((l.take j).map (·.id)) ++ [Value.int .i64 l[j].id] := by
          rw [List.take_add_one, List.getElem?_eq_getElem hlt, List.map_append]
          exact valI_snoc _ _
        have ho3 := hown.alloc (Obj.cells #[.int .i64 l[j].id] 3)
        have hb3 := hbel.alloc hbel.size (Obj.cells #[.int .i64 l[j].id] 3)
        have HT := Lib.hid (And.intro hall2 hv)
        have HO3 := Lib.hid ho3
        have HB3 := Lib.hid hb3
        clear hall hall2 hv hown hbel ho3 hb3
        generalize l[j] = r at *
        generalize valI ((l.take j).map (·.id)) = vs at *
        go_wp2_with (at_builtin; (refine wpList_append_own _ rfl _ _ 43 rfl w.heap.size 3 i0 (.int .i64 0) 1 8 Try.underlying43 hi hz0 hz1 hz2 rfl (by decide) _ _ _ rfl HO3.out ⟨wr.heap.size, 0, none⟩ 1 1 [Value.int .i64 r.id] rfl rfl (newI wr r.id) ?q3 ?q4 ?q5 HB3.out.size ?_))
        case q3 => first | (intro u hu; simp at hu; subst hu; rfl) | rfl
        case q4 => unfold maxLen; omega
        case q5 => omega
        intro v' w3 hown2 hgrow hnil
        have hb4 := HB3.out.grown hgrow HB3.out.size (fun k hk => (HO3.out.lt k hk).1)
        rw [← HT.out.2] at hown2
        have HF := Lib.hid (And.intro hown2 hb4)
        clear hown2 hgrow hnil hb4
        go_wp2_with fail
        go_roundw
        case rel => exact ⟨j + 1, hlt, by go_num, HT.out.1, HF.out.1, HF.out.2⟩
        case measure => simp [intOf]; omega
      · have e1 : decide ((l[j].t : Int) ≤ (now : Nat)) = false := by simp; omega
        have e3 : decide (l[j].t ≤ now) = false := by simp; omega
        obtain ⟨hd, hr⟩ := due_at hj hall (fun _ => by omega)
        have hne : ¬ cap = j := by omega
        have hSS := (HI.out.below hbel).drop j hj
        have hlen : (l.drop j).length = l.length - j := List.length_drop
        have hdl : (l.take j).length = j := by rw [List.length_take]; omega
        have hown2 : wr.ownsRow w.heap.size 3 1 (.slice Av j cv) ((l.take j).map (·.id)).length (valI ((l.take j).map (·.id))) := by rw [List.length_map, hdl]; exact hown
        obtain ⟨A2, c2, h2, hN⟩ := nsI_own hown2
        rw [List.length_map, hdl] at h2
        cases h2
        rw [← hr] at hSS hlen
        rw [← hd] at hN hdl
        have HF := Lib.hid (And.intro hSS (And.intro hN (And.intro hbel (And.intro hlen hdl))))
        clear hSS hN hown hown2 hall hbel hlen hdl hd hr e
        generalize l[j] = r at *
        go_wp2_with fail
        go_ret2
        exact ⟨some ⟨b, off + j * 2, none⟩, cap - j, Av, cv, by rw [HF.out.2.2.2.1, HF.out.2.2.2.2]; rfl, HF.out.1, Nat.le_trans (Nat.sub_le _ _) hcap, HF.out.2.1, HF.out.2.2.1⟩
    · obtain rfl : j = l.length := by omega
      have d1 : decide ((l.length : Int) < (l.length : Nat)) = false := by simp
      obtain ⟨hd, hr⟩ := due_at hj hall (fun h => absurd h hlt)
      rw [List.take_length] at hd hown
      rw [List.drop_length] at hr
      have hown2 : wr.ownsRow w.heap.size 3 1 (.slice Av l.length cv) (l.map (·.id)).length (valI (l.map (·.id))) := by rw [List.length_map]; exact hown
      obtain ⟨A2, c2, h2, hN⟩ := nsI_own hown2
      rw [List.length_map] at h2
      cases h2
      have HF := Lib.hid (And.intro hN (And.intro hbel (And.intro hd hr)))
      clear hown hown2 hN hbel hd hr hall
      by_cases hc : cap = l.length
      · go_wp2_with fail
        go_ret2
        exact ⟨A, 0, Av, cv, by rw [HF.out.2.2.1, HF.out.2.2.2]; rfl, by rw [HF.out.2.2.2]; exact ⟨fun _ => rfl, Nat.le_refl _, .inl rfl⟩, Nat.zero_le _, by rw [HF.out.2.2.1]; exact HF.out.1, HF.out.2.1⟩
      · go_wp2_with fail
        go_ret2
        exact ⟨A.map (·.add (l.length * 2)), cap - l.length, Av, cv, by rw [HF.out.2.2.1, HF.out.2.2.2]; rfl, by
          rw [HF.out.2.2.2]
          refine ⟨fun h => ?_, Nat.zero_le _, .inl rfl⟩
          have : A = none := by simpa using h
          have := HI.out.nl this
          omega, Nat.le_trans (Nat.sub_le _ _) hcap, by rw [HF.out.2.2.1]; exact HF.out.1, HF.out.2.1⟩
end Go.Proofs.Ytdhahienhlknoaa
