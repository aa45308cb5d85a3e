/- derricklaw11.do: a deed, of both. -/
import Derived.Test.YtdhahienhlknoaaWvb
import Derived.Test.YtdhahienhlknoaaWvf
import Derived.Test.YtdhahienhlknoaaWhf
namespace Go.Proofs.Ytdhahienhlknoaa
open Go.RowKit
set_option linter.unusedVariables false
theorem hasL_look : ∀ (l : List Ti) (id : Int), hasL l id = (look l id).isSome
  | [], id => by simp [hasL, look_nil]
  | x :: l, id => by
    have ih := hasL_look l id
    unfold hasL at ih ⊢
    rw [List.any_cons, look_cons, ih]
    by_cases e : x.id = id
    · simp [e]
    · have e2 : (x.id == id) = false := by simpa using e
      rw [e2]
      simp [e]
theorem Fw.trans {bm : Nat → Nat} {s : Nat} {a b c : World} (h : Fw bm s a b) (k : Fw bm s b c) : Fw bm s a c :=
  ⟨k.os.trans h.os, k.tape.trans h.tape, k.output.trans h.output, Nat.le_trans h.size k.size, fun i hi hn => (k.block i (Nat.lt_of_lt_of_le hi h.size) hn).trans (h.block i hi hn)⟩
/-- A block of cells is no map of the wheel's. -/
theorem Wl.cell_kept {w w' : World} {g sb s n : Nat} {bm : Nat → Nat} {l : List Ti} (hl : Wl w g sb s n bm l) (hf : Fw bm s w w') {b o : Nat} {v : Value} (h : w.cell? ⟨b, o, none⟩ = some v) : w'.cell? ⟨b, o, none⟩ = some v := by
  have hne : ∀ i, i < s → b ≠ bm i := fun i hi e => by
    obtain ⟨_, ⟨es, c, h0, _⟩, _⟩ := hl.mp i hi
    rw [e] at h
    simp [World.cell?, h0] at h
  have hb := hf.block b (cell_size h) hne
  unfold World.cell? at h ⊢
  simp only at h ⊢
  rw [hb]
  exact h
theorem Ss.fw {w w' : World} {A : Option Addr} {c : Nat} {l0 : List Ti} {g sb s n : Nat} {bm : Nat → Nat} {l : List Ti} (h : Ss w A c l0) (hl : Wl w g sb s n bm l) (hf : Fw bm s w w') : Ss w' A c l0 := by
  refine ⟨h.nl, h.le, ?_⟩
  rcases h.has with h1 | ⟨b, off, h1, h2, h3⟩
  · exact .inl h1
  · exact .inr ⟨b, off, h1, Nat.lt_of_lt_of_le h2 hf.size, fun j u hj => hl.cell_kept hf (h3 j u hj)⟩
/-- The world within do. -/
structure Do (w : World) (g sb s n : Nat) (bm : Nat → Nat) (l : List Ti) (q : Nat) (kd i : Int) (tt : Nat) (W : World) : Prop where
  cw : Wl W g sb s n bm l
  fr : Fw bm s w W
  bx : W.cell? ⟨q, 0, none⟩ = some (.int .i64 kd) ∧ W.cell? ⟨q, 1, none⟩ = some (.int .i64 i) ∧ W.cell? ⟨q, 2, none⟩ = some (.int .u64 (tt : Nat))
section
variable {w W W' : World} {g sb s n n' q : Nat} {bm : Nat → Nat} {l l' : List Ti} {kd i : Int} {tt : Nat}
theorem cell3 (w : World) (a b c : Value) (T : TypeId) : (w.alloc (.cells #[a, b, c] T)).cell? ⟨w.heap.size, 0, none⟩ = some a ∧ (w.alloc (.cells #[a, b, c] T)).cell? ⟨w.heap.size, 1, none⟩ = some b ∧ (w.alloc (.cells #[a, b, c] T)).cell? ⟨w.heap.size, 2, none⟩ = some c := by
  have e := heap_alloc_new w (Obj.cells #[a, b, c] T)
  exact ⟨by rw [blk_cell e 0]; rfl, by rw [blk_cell e 1]; rfl, by rw [blk_cell e 2]; rfl⟩
theorem Do.start (h : Wl w g sb s n bm l) (kd i : Int) (tt : Nat) (T : TypeId) : Do w g sb s n bm l w.heap.size kd i tt (w.alloc (.cells #[.int .i64 kd, .int .i64 i, .int .u64 (tt : Nat)] T)) :=
  ⟨h.low h.isLow ((Below.refl _ w).alloc (Nat.le_refl _) _), Fw.bel ((Below.refl _ w).alloc (Nat.le_refl _) _), cell3 _ _ _ _ _⟩
theorem Do.low (h : Do w g sb s n bm l q kd i tt W) (hb : Below W.heap.size W W') : Do w g sb s n bm l q kd i tt W' :=
  ⟨h.cw.low h.cw.isLow hb, h.fr.below (hb.mono h.fr.size), (hb.cell (p := ⟨q, 0, none⟩) (cell_size h.bx.1)).trans h.bx.1, (hb.cell (p := ⟨q, 1, none⟩) (cell_size h.bx.2.1)).trans h.bx.2.1, (hb.cell (p := ⟨q, 2, none⟩) (cell_size h.bx.2.2)).trans h.bx.2.2⟩
theorem Do.drew (h : Do w g sb s n bm l q kd i tt W) : Do w g sb s n bm l q kd i tt W.drew := h.low ((Below.refl _ W).drew)
theorem Do.fw (h : Do w g sb s n bm l q kd i tt W) (hl : Wl W' g sb s n' bm l') (hf : Fw bm s W W') : Do w g sb s n' bm l' q kd i tt W' :=
  ⟨hl, h.fr.trans hf, h.cw.cell_kept hf h.bx.1, h.cw.cell_kept hf h.bx.2.1, h.cw.cell_kept hf h.bx.2.2⟩
end
/-- What a deed makes of the times. -/
def doL (kd i : Int) (tt : Nat) (l : List Ti) : List Ti := if kd = 0 then setL l i tt else if kd = 1 then delL l i else restL l tt
theorem doL_le (kd i : Int) (tt : Nat) (l : List Ti) : (doL kd i tt l).length ≤ l.length + 1 := by
  unfold doL
  have := setL_le l i tt
  have := delL_le l i
  have := restL_le l tt
  split
  · omega
  · split <;> omega
set_option maxRecDepth 100000 in
set_option maxHeartbeats 8000000 in
theorem do_any (HS : SortC 200) (kd i : Int) (tt : Nat) (hwd : (Lit.int .i64 i).wf = true) (hts : tt < 18446744073709551616) (A : Option Addr) (c : Nat) (hc : c ≤ maxLen) {w : World} {g sb s n : Nat} {bm : Nat → Nat} {l : List Ti} (hl : l.length ≤ 200) (hn : n < 100000) (h : Wl w g sb s n bm l) (hS : Ss w A c l) :
    Calls Try.prog 11 #[.pointer (some ⟨g, 0, none⟩), .slice A l.length c, .agg #[.int .i64 kd, .int .i64 i, .int .u64 (tt : Nat)]] w fun e w' => ∃ A' c' n', n' ≤ n + 1 ∧ e = .returned (.tuple #[.slice A' (doL kd i tt l).length c', .bool true]) ∧ Ss w' A' c' (doL kd i tt l) ∧ c' ≤ maxLen ∧ Wl w' g sb s n' bm (doL kd i tt l) ∧ Fw bm s w w' := by
  have HD0 := Lib.hid (Do.start h kd i tt 32)
  have HX0 := Lib.hid (hS.below ((Below.refl _ w).alloc (Nat.le_refl _) (Obj.cells #[.int .i64 kd, .int .i64 i, .int .u64 (tt : Nat)] 32)))
  clear h hS
  by_cases e0 : kd = 0
  · subst e0
    have HR := Lib.hid (fun W hI => rset_x A c l i tt (by omega) W hI)
    rw [show doL 0 i tt l = setL l i tt from if_pos rfl]
    have HW2 := Lib.hid (fun W (h : Wl W g sb s n bm l) => set_f i hwd tt hts h hn)
    clear hwd
    go_enter Try.func11, Try.ntmps11
    obtain ⟨b0, b1, b2⟩ := HD0.out.bx
    go_upto_region 3 with fail
    clear b0 b1 b2
    generalize w.alloc (Obj.cells #[.int .i64 0, .int .i64 i, .int .u64 (tt : Nat)] 32) = w1 at *
    generalize w.heap.size = q at *
    have HDd := Lib.hid HD0.out.drew
    have HXd := Lib.hid (HX0.out.below ((Below.refl _ w1).drew))
    go_region_held3 (fun w' => w'.cell? ⟨q, 0, none⟩ = some (.int .i64 0) ∧ w'.cell? ⟨q, 1, none⟩ = some (.int .i64 i) ∧ w'.cell? ⟨q, 2, none⟩ = some (.int .u64 (tt : Nat))) (first | exact HDd.out.bx | exact HDa.out.bx | exact HDb.out.bx) (first
      | (go_at_call 21; (with_reducible (refine (HR.out _ HXd.out).mono ?_)); rintro e w2 ⟨A2, c2, rfl, hS2, hm2, hb2⟩; have HDa := Lib.hid (HDd.out.low hb2); have HXa := Lib.hid (And.intro hS2 hm2); clear hS2 hm2 hb2)
      | (go_at_call 16; (with_reducible (refine (HW2.out _ HDa.out.cw).mono ?_)); rintro e w3 ⟨rfl, hl3, hf3⟩; have HDb := Lib.hid (HDa.out.fw hl3 hf3); have HXb := Lib.hid (And.intro (HXa.out.1.fw HDa.out.cw hf3) HXa.out.2); clear hl3 hf3))
    go_wp2_with fail
    go_ret2
    exact ⟨_, _, n + 1, Nat.le_refl _, by first | rfl | simp, HXb.out.1, HXb.out.2, HDb.out.cw, HDb.out.fr⟩
  · have m0 : (kd == 0) = false := by simpa using e0
    have m00 : decide (kd = 0) = false := by simpa using e0
    by_cases e1 : kd = 1
    · subst e1
      have HR := Lib.hid (fun W hI => rdel_x A c l i (by omega) W hI)
      rw [show doL 1 i tt l = delL l i from rfl]
      have HW1 := Lib.hid (del_f i hwd HD0.out.cw)
      rw [hasL_look] at HR
      clear hwd
      go_enter Try.func11, Try.ntmps11
      obtain ⟨b0, b1, b2⟩ := HD0.out.bx
      go_upto_region 5 with fail
      generalize w.alloc (Obj.cells #[.int .i64 1, .int .i64 i, .int .u64 (tt : Nat)] 32) = w1 at *
      generalize w.heap.size = q at *
      generalize (look l i).isSome = bb at *
      go_upto_region 6 with (go_at_call 17; (with_reducible (refine HW1.out.mono ?_)); rintro e w2 ⟨rfl, hl2, hf2⟩; have HDa := Lib.hid (HD0.out.fw hl2 hf2); have HXa := Lib.hid (HX0.out.fw HD0.out.cw hf2); clear hl2 hf2)
      clear b0 b1 b2
      obtain ⟨b0, b1, b2⟩ := HDa.out.bx
      go_wp2_with (go_at_call 22; (with_reducible (refine (HR.out _ HXa.out).mono ?_)); rintro e w3 ⟨A3, c3, rfl, hS3, hm3, hb3⟩; have HDb := Lib.hid (HDa.out.low hb3); have HXb := Lib.hid (And.intro hS3 hm3); clear hS3 hm3 hb3)
      go_ret2
      exact ⟨_, _, n, Nat.le_succ _, by first | rfl | simp, HXb.out.1, HXb.out.2, HDb.out.cw, HDb.out.fr⟩
    · have m1 : (kd == 1) = false := by simpa using e1
      have m10 : decide (kd = 1) = false := by simpa using e1
      have HR := Lib.hid (fun W hI => rdue_x A c l tt (by omega) hc W hI)
      rw [show doL kd i tt l = restL l tt from by unfold doL; rw [if_neg e0, if_neg e1]]
      have HW1 := Lib.hid (due_f HS tt HD0.out.cw hl)
      have HI := Lib.hid (fun A4 c4 A5 c5 W hI hJ => ints_due A4 c4 A5 c5 l tt hl W hI hJ)
      clear hwd
      generalize (dueL l tt).length = dl at *
      generalize (dueL l tt).map (·.id) = is at *
      go_enter Try.func11, Try.ntmps11
      obtain ⟨b0, b1, b2⟩ := HD0.out.bx
      go_upto_region 8 with fail
      generalize w.alloc (Obj.cells #[.int .i64 kd, .int .i64 i, .int .u64 (tt : Nat)] 32) = w1 at *
      generalize w.heap.size = q at *
      go_upto_region 9 with (go_at_call 19; (with_reducible (refine HW1.out.mono ?_)); rintro e w2 ⟨A2, c2, rfl, hn2, hl2, hf2⟩; have HDa := Lib.hid (HD0.out.fw hl2 hf2); have HXa := Lib.hid (And.intro (HX0.out.fw HD0.out.cw hf2) hn2); clear hl2 hf2 hn2)
      clear b0 b1 b2
      obtain ⟨b0, b1, b2⟩ := HDa.out.bx
      go_upto_region 10 with (go_at_call 23; (with_reducible (refine (HR.out _ HXa.out.1).mono ?_)); rintro e w3 ⟨A3, c3, A4, c4, rfl, hS3, hm3, hn3, hb3⟩; have HDb := Lib.hid (HDa.out.low hb3); have HXb := Lib.hid (And.intro hS3 (And.intro hm3 (And.intro (HXa.out.2.below hb3) hn3))); clear hS3 hm3 hn3 hb3)
      clear b0 b1 b2
      go_wp2_with (go_at_call 18; (with_reducible (refine (HI.out _ _ _ _ _ HXb.out.2.2.1 HXb.out.2.2.2).mono ?_)); rintro e w4 ⟨rfl, hb4⟩; have HDc := Lib.hid (HDb.out.low hb4); have HXc := Lib.hid (And.intro (HXb.out.1.below hb4) HXb.out.2.1); clear hb4)
      go_ret2
      exact ⟨_, _, n, Nat.le_succ _, by first | rfl | simp, HXc.out.1, HXc.out.2, HDc.out.cw, HDc.out.fr⟩
end Go.Proofs.Ytdhahienhlknoaa
