/- The law ModelDrops (written by tools/gen_edr.py). -/
import Derived.Test.YtnmgeoeppfdnhaaEmu
namespace Go.Proofs.Ytnmgeoeppfdnhaa.D
open Go.RowKit
set_option linter.unusedVariables false
set_option linter.unusedSimpArgs false

/-- What a law holds: two boxes of questions and the model. -/
structure Lw (W w : World) (h p : Nat) (m : List En) (f : Qu → Option Ev) (q o : Qu) : Prop where
  lo : Below W.heap.size W w
  bq : Blk w W.heap.size 25 (qf q).toArray
  bo : Blk w (W.heap.size + 1) 25 (qf o).toArray
  mh : Mh w h p 5 m f
  wp : W.heap.size + 1 < p
/-- A box of what was told. -/
structure Bx (w : World) (r p : Nat) (e : En) (A : Option Addr) (c : Nat) : Prop where
  bx : Blk w r 35 (evL ⟨e, A, c⟩).toArray
  sl : Sl rf w A c e.l
  aw : ∀ b off, A = some ⟨b, off, none⟩ → e.l ≠ [] → ¬ b = p
  rp : ¬ r = p
section
variable {W w w' : World} {h p r c : Nat} {m m' : List En} {f f' : Qu → Option Ev} {q o : Qu} {e : En} {A : Option Addr}
theorem Lw.low (z : Lw W w h p m f q o) (hb : Below w.heap.size w w') : Lw W w' h p m f q o := ⟨z.lo.trans (hb.mono z.lo.size), z.bq.eq (hb.block _ z.bq.lt), z.bo.eq (hb.block _ z.bo.lt), z.mh.low hb, z.wp⟩
theorem Lw.turn (z : Lw W w h p m f q o) (v : Mh w' h p 5 m' f') (hc : Ch (fun i => i = p) w w') : Lw W w' h p m' f' q o :=
  ⟨((Ch.bel z.lo).trans hc).isBelow (n := W.heap.size) (fun i e => by have := z.wp; omega) (Nat.le_refl _), z.bq.ch hc (fun e => by have := z.wp; omega), z.bo.ch hc (fun e => by have := z.wp; omega), v, z.wp⟩
theorem Bx.low (b : Bx w r p e A c) (hb : Below w.heap.size w w') : Bx w' r p e A c := ⟨b.bx.eq (hb.block _ b.bx.lt), b.sl.below' hb, b.aw, b.rp⟩
theorem Bx.ch (b : Bx w r p e A c) (hc : Ch (fun i => i = p) w w') : Bx w' r p e A c := ⟨b.bx.ch hc b.rp, b.sl.ch hc b.aw, b.aw, b.rp⟩
/-- A look's answer in a box. -/
theorem Bx.new {w0 : World} (v : Mh w0 h p 5 m f) (hb : Below w0.heap.size w0 w) (s : Sl rf w A c e.l) (n : Nw w0.heap.size A) : Bx ((w.alloc (Obj.cells #[.string ⟨#[]⟩, .int .u16 0, .int .u16 0, .slice none 0 0, .int .i64 0, .int .i64 0, .int .u64 0] 35)).setRow w.heap.size (evL ⟨e, A, c⟩).toArray) w.heap.size p e A c ∧ Below w0.heap.size w0 ((w.alloc (Obj.cells #[.string ⟨#[]⟩, .int .u16 0, .int .u16 0, .slice none 0 0, .int .i64 0, .int .i64 0, .int .u64 0] 35)).setRow w.heap.size (evL ⟨e, A, c⟩).toArray) := by
  obtain ⟨k3, b3⟩ := box_of w ⟨e, A, c⟩
  have hp := v.em.lt
  have hsz := hb.size
  exact ⟨⟨k3, s.below' b3, fun b off e _ => by have := n b off e; omega, by omega⟩, hb.trans (b3.mono hsz)⟩
end
theorem look_same {m m' : List En} {q : Qu} (h : entL m' q = entL m q) (now : Nat) : lookL m' q now = lookL m q now := by
  unfold lookL
  rw [h]
theorem look_sm {w : World} {h p : Nat} {room : Int} {m : List En} {f : Qu → Option Ev} (v : Mh w h p room m f) (q : Qu) (now : Nat) : (lookL m q now).1.l.length ≤ 3518437208883 := by
  unfold lookL
  cases hf : f q with
  | none => rw [v.is_none hf]; exact Nat.zero_le _
  | some x =>
    rw [v.is_some hf]
    simp only
    split
    · exact (v.re q x hf).sm
    · exact Nat.zero_le _
set_option maxRecDepth 100000 in
set_option maxHeartbeats 8000000 in
theorem drops_law (A : Option Addr) (cap : Nat) (zs : List Dd) (q o : Qu) (hq : q.Fine) (ho : o.Fine) (W : World) (hS : Sl df W A cap zs) (hD : ∀ D ∈ zs, ArgD W D) :
    Calls Try.prog 5 #[.slice A zs.length cap, qV q, qV o] W fun e w' => e = .returned (.bool true) ∧ Below W.heap.size W w' := by
  unfold qV
  have h2 := two_qg W q o
  have HX := Lib.hid (And.intro h2.1 (And.intro h2.2.1 h2.2.2.below))
  have HA := Lib.hid (And.intro hS hD)
  unfold qf at HX
  clear h2 hS hD
  have HSh := Lib.hid (fun V => shown_any V)
  go_enter Try.func5, Try.ntmps5
  go_upto_region 1 with (fail)
  generalize (W.alloc (Obj.cells #[.string q.n, .int .u16 (q.k : Nat), .int .u16 (q.c : Nat)] 25)).alloc (Obj.cells #[.string o.n, .int .u16 (o.k : Nat), .int .u16 (o.c : Nat)] 25) = w1 at *
  go_upto_region 2 with (go_at_call 9; (with_reducible (refine (HSh.out _).mono ?_)); rintro e w2 ⟨rfl, hb2⟩; have HX2 := Lib.hid (And.intro (HX.out.1.eq (hb2.block _ HX.out.1.lt)) (And.intro (HX.out.2.1.eq (hb2.block _ HX.out.2.1.lt)) (HX.out.2.2.trans (hb2.mono HX.out.2.2.size)))); clear hb2)
  have HR := Lib.hid (ran_any A cap zs w2 (HA.out.1.below' HX2.out.2.2) (fun D hD => argd_low (HA.out.2 D hD) HX2.out.2.2))
  clear HX HSh
  go_upto_region 3 with (go_at_call 16; (with_reducible (refine (HR.out).mono ?_)); rintro e w3 ⟨h, p, m, f, rfl, v3, l3, b3, hh, hp⟩; have HZ3 := Lib.hid (show Lw W w3 h p m f q o from ⟨HX2.out.2.2.trans (b3.mono HX2.out.2.2.size), HX2.out.1.eq (b3.block _ HX2.out.1.lt), HX2.out.2.1.eq (b3.block _ HX2.out.2.1.lt), v3, Nat.lt_of_lt_of_le HX2.out.2.1.lt hp⟩); have HP := Lib.hid l3; clear v3 l3 b3 hh hp)
  clear HR HX2
  have HLn := Lib.hid (len_any HZ3.out.mh)
  go_upto_region 4 with (go_at_call 13; (with_reducible (refine (HLn.out).mono ?_)); rintro e w4 ⟨rfl, rfl⟩)
  clear HLn
  have hH := has_any q hq HZ3.out.mh
  unfold qV at hH
  obtain ⟨hb, hbb⟩ : ∃ hb, (entL m q).isSome = hb := ⟨_, rfl⟩
  rw [hbb] at hH
  have HH := Lib.hid hH
  have HBB := Lib.hid hbb
  clear hH hbb
  obtain ⟨b0, b1, b2⟩ := q_cells (q := q) HZ3.out.bq
  obtain ⟨c0, c1, c2⟩ := q_cells (q := o) HZ3.out.bo
  go_upto_region 5 with (go_at_call 14; (with_reducible (refine (HH.out).mono ?_)); rintro e w5 ⟨rfl, hb5⟩; have HZ5 := Lib.hid (HZ3.out.low hb5); clear hb5)
  clear b0 b1 b2 c0 c1 c2
  obtain ⟨E, HE⟩ : ∃ E, Hid ((lookL m o 0).1 = E) := ⟨_, Lib.hid rfl⟩
  obtain ⟨is, HIs⟩ : ∃ is, Hid ((lookL m o 0).2 = is) := ⟨_, Lib.hid rfl⟩
  have HSm := Lib.hid (show E.l.length ≤ 3518437208883 by rw [← HE.out]; exact look_sm HZ5.out.mh o 0)
  have hL := look_any o ho 0 HZ5.out.mh
  rw [HE.out, HIs.out] at hL
  unfold qV at hL
  simp only [evV_eq] at hL
  have HL := Lib.hid (show Calls Try.prog 17 #[.pointer (some ⟨h, 0, none⟩), .agg #[.string o.n, .int .u16 (o.k : Nat), .int .u16 (o.c : Nat)], .int .u64 0] w5 _ from hL)
  clear hL
  obtain ⟨b0, b1, b2⟩ := q_cells (q := q) HZ5.out.bq
  obtain ⟨c0, c1, c2⟩ := q_cells (q := o) HZ5.out.bo
  go_upto_region 6 with (first | (refine wpList_store_row rfl 35 _ _ rfl (w6.heap.size) (evL ⟨E, A6, c6⟩).toArray rfl rfl 35 _ HNw.out (infoEa _) rfl (evL_one _) ?_) | (go_at_call 17; (with_reducible (refine (HL.out).mono ?_)); rintro e w6 ⟨A6, c6, rfl, s1, n1, hb1⟩; have HV := Lib.hid (And.intro hb1 (And.intro s1 n1)); have HNw := Lib.hid (Blk.new w6 35 zE); unfold zE at HNw; clear s1 n1 hb1))
  clear b0 b1 b2 c0 c1 c2
  have hx := Bx.new (e := E) HZ5.out.mh HV.out.1 HV.out.2.1 HV.out.2.2
  have HZ6 := Lib.hid (And.intro (HZ5.out.low hx.2) hx.1)
  have hbl := hx.2
  clear HL HV HNw
  clear HZ5 hbl hx
  generalize (w6.alloc (Obj.cells #[.string ⟨#[]⟩, .int .u16 0, .int .u16 0, .slice none 0 0, .int .i64 0, .int .i64 0, .int .u64 0] 35)).setRow w6.heap.size (evL ⟨E, A6, c6⟩).toArray = w7 at *
  generalize w6.heap.size = r6 at *
  have hDp := drop_any q hq HZ6.out.1.mh
  rw [HBB.out] at hDp
  unfold qV at hDp
  have HDp := Lib.hid hDp
  clear hDp
  obtain ⟨b0, b1, b2⟩ := q_cells (q := q) HZ6.out.1.bq
  obtain ⟨c0, c1, c2⟩ := q_cells (q := o) HZ6.out.1.bo
  go_upto_region 7 with (go_at_call 20; (with_reducible (refine (HDp.out).mono ?_)); rintro e w8 ⟨f8, rfl, v8, k8⟩; have HZ8 := Lib.hid (And.intro (HZ6.out.1.turn v8 k8) (HZ6.out.2.ch k8)); clear v8 k8)
  clear b0 b1 b2 c0 c1 c2
  have hno : entL (dropL m q) q = none := by rw [ent_drop HZ6.out.1.mh.ok, if_pos rfl]
  have HNo := Lib.hid hno
  have HOt := Lib.hid (show ¬ o = q → entL (dropL m q) o = entL m o from fun hne => by rw [ent_drop HZ6.out.1.mh.ok, if_neg hne])
  have HLe := Lib.hid (drop_len HZ6.out.1.mh.ok q)
  rw [HBB.out] at HLe
  have hDp := drop_any q hq HZ8.out.1.mh
  rw [drop_no hno, hno, Option.isSome_none] at hDp
  unfold qV at hDp
  have HDq := Lib.hid hDp
  clear hDp hno HDp HZ6
  generalize dropL m q = m1 at *
  obtain ⟨b0, b1, b2⟩ := q_cells (q := q) HZ8.out.1.bq
  obtain ⟨c0, c1, c2⟩ := q_cells (q := o) HZ8.out.1.bo
  go_upto_region 8 with (go_at_call 20; (with_reducible (refine (HDq.out).mono ?_)); rintro e w9 ⟨f9, rfl, v9, k9⟩; have HZ9 := Lib.hid (And.intro (HZ8.out.1.turn v9 k9) (HZ8.out.2.ch k9)); have HZ10 := Lib.hid HZ9.out.1; clear v9 k9)
  clear b0 b1 b2 c0 c1 c2
  clear HDq HZ8
  obtain ⟨E2, HE2⟩ : ∃ E2, Hid ((lookL m1 o 0).1 = E2) := ⟨_, Lib.hid rfl⟩
  obtain ⟨is2, HIs2⟩ : ∃ is2, Hid ((lookL m1 o 0).2 = is2) := ⟨_, Lib.hid rfl⟩
  have hL := look_any o ho 0 HZ10.out.mh
  rw [HE2.out, HIs2.out] at hL
  unfold qV at hL
  simp only [evV_eq] at hL
  have HL := Lib.hid (show Calls Try.prog 17 #[.pointer (some ⟨h, 0, none⟩), .agg #[.string o.n, .int .u16 (o.k : Nat), .int .u16 (o.c : Nat)], .int .u64 0] w9 _ from hL)
  clear hL
  obtain ⟨b0, b1, b2⟩ := q_cells (q := q) HZ10.out.bq
  obtain ⟨c0, c1, c2⟩ := q_cells (q := o) HZ10.out.bo
  go_upto_region 9 with (first | (refine wpList_store_row rfl 35 _ _ rfl (w11.heap.size) (evL ⟨E2, A11, c11⟩).toArray rfl rfl 35 _ HNw.out (infoEa _) rfl (evL_one _) ?_) | (go_at_call 17; (with_reducible (refine (HL.out).mono ?_)); rintro e w11 ⟨A11, c11, rfl, s1, n1, hb1⟩; have HV := Lib.hid (And.intro hb1 (And.intro s1 n1)); have HNw := Lib.hid (Blk.new w11 35 zE); unfold zE at HNw; clear s1 n1 hb1))
  clear b0 b1 b2 c0 c1 c2
  have hx := Bx.new (e := E2) HZ10.out.mh HV.out.1 HV.out.2.1 HV.out.2.2
  have HZ11 := Lib.hid (And.intro (HZ10.out.low hx.2) hx.1)
  have hbl := hx.2
  clear HL HV HNw
  have HB9 := Lib.hid (HZ9.out.2.low hbl)
  clear HZ9 HZ10 hbl hx
  generalize (w11.alloc (Obj.cells #[.string ⟨#[]⟩, .int .u16 0, .int .u16 0, .slice none 0 0, .int .i64 0, .int .i64 0, .int .u64 0] 35)).setRow w11.heap.size (evL ⟨E2, A11, c11⟩).toArray = w12 at *
  generalize w11.heap.size = r11 at *
  have HHs := Lib.hid (by have hH := has_any q hq HZ11.out.1.mh; rw [HNo.out, Option.isSome_none] at hH; unfold qV at hH; exact hH)
  have HLn := Lib.hid (fun (V : World) (hV : Below w12.heap.size w12 V) => len_any (HZ11.out.1.mh.low hV))
  have hq2 := fun V => eq_qu o q V
  have hn5 := HP.out
  have hle := HLe.out
  obtain ⟨b0, b1, b2⟩ := q_cells (q := q) HZ11.out.1.bq
  obtain ⟨c0, c1, c2⟩ := q_cells (q := o) HZ11.out.1.bo
  by_cases hoq : o = q
  · simp only [decide_eq_true hoq] at hq2
    clear hoq HOt HE HE2 HIs HIs2
    cases hb with
    | true =>
      have hle2 : m1.length + 1 = m.length := by simpa using hle
      have hle3 : ((m.length : Nat) : Int) = ((m1.length : Nat) : Int) + 1 := by omega
      have hb5 : m1.length ≤ 5 := by omega
      rw [hle3]
      clear hle hle2 hle3 HLe HBB HNo
      generalize m1.length = n1 at *
      go_wp2_with (first | (go_at_call 14; (with_reducible (refine (HHs.out).mono ?_)); rintro e w13 ⟨rfl, hb13⟩; have HB13 := Lib.hid hb13; have HZ13 := Lib.hid (HZ11.out.1.low hb13); obtain ⟨b0, b1, b2⟩ := q_cells (q := q) HZ13.out.bq; obtain ⟨c0, c1, c2⟩ := q_cells (q := o) HZ13.out.bo; clear hb13) | (go_at_call 13; (with_reducible (refine (HLn.out _ HB13.out).mono ?_)); rintro e w14 ⟨rfl, rfl⟩))
      go_ret
      exact ⟨rfl, HZ13.out.lo⟩
    | false =>
      have hle2 : m1.length = m.length := by simpa using hle
      rw [← hle2]
      clear hle hle2 HLe HBB HNo
      generalize m1.length = n1 at *
      go_wp2_with (first | (go_at_call 14; (with_reducible (refine (HHs.out).mono ?_)); rintro e w13 ⟨rfl, hb13⟩; have HB13 := Lib.hid hb13; have HZ13 := Lib.hid (HZ11.out.1.low hb13); obtain ⟨b0, b1, b2⟩ := q_cells (q := q) HZ13.out.bq; obtain ⟨c0, c1, c2⟩ := q_cells (q := o) HZ13.out.bo; clear hb13) | (go_at_call 13; (with_reducible (refine (HLn.out _ HB13.out).mono ?_)); rintro e w14 ⟨rfl, rfl⟩))
      go_ret
      exact ⟨rfl, HZ13.out.lo⟩
  · simp only [decide_eq_false hoq] at hq2
    have hlk := look_same (HOt.out hoq) 0
    have h1 : E2 = E := by rw [← HE.out, ← HE2.out, hlk]
    have h2 : is2 = is := by rw [← HIs.out, ← HIs2.out, hlk]
    subst h1
    subst h2
    have HSa := Lib.hid (fun (V : World) (hV : Below w12.heap.size w12 V) => (by have h := same_yes E2 A6 c6 A11 c11 HSm.out V (HB9.out.low hV).sl (HZ11.out.2.low hV).sl; unfold evL at h; exact h))
    clear hoq HOt HE HE2 HIs HIs2 hlk
    cases hb with
    | true =>
      have hle2 : m1.length + 1 = m.length := by simpa using hle
      have hle3 : ((m.length : Nat) : Int) = ((m1.length : Nat) : Int) + 1 := by omega
      have hb5 : m1.length ≤ 5 := by omega
      rw [hle3]
      clear hle hle2 hle3 HLe HBB HNo
      generalize m1.length = n1 at *
      go_wp2_with (first | (go_at_call 14; (with_reducible (refine (HHs.out).mono ?_)); rintro e w13 ⟨rfl, hb13⟩; have HB13 := Lib.hid hb13; have HZ13 := Lib.hid (HZ11.out.1.low hb13); obtain ⟨b0, b1, b2⟩ := q_cells (q := q) HZ13.out.bq; obtain ⟨c0, c1, c2⟩ := q_cells (q := o) HZ13.out.bo; obtain ⟨e0, e1, e2, e3, e4, e5, e6⟩ := e_cells (x := ⟨E2, A6, c6⟩) (HB9.out.low hb13).bx; obtain ⟨g0, g1, g2, g3, g4, g5, g6⟩ := e_cells (x := ⟨E2, A11, c11⟩) (HZ11.out.2.low hb13).bx; clear hb13) | (go_at_call 13; (with_reducible (refine (HLn.out _ HB13.out).mono ?_)); rintro e w14 ⟨rfl, rfl⟩) | (go_at_call 19; (with_reducible (refine (HSa.out _ HB13.out).mono ?_)); rintro e w15 ⟨rfl, hb15⟩; have HF := Lib.hid (HZ13.out.lo.trans (hb15.mono HZ13.out.lo.size)); clear hb15))
      go_ret
      exact ⟨rfl, HF.out⟩
    | false =>
      have hle2 : m1.length = m.length := by simpa using hle
      rw [← hle2]
      clear hle hle2 HLe HBB HNo
      generalize m1.length = n1 at *
      go_wp2_with (first | (go_at_call 14; (with_reducible (refine (HHs.out).mono ?_)); rintro e w13 ⟨rfl, hb13⟩; have HB13 := Lib.hid hb13; have HZ13 := Lib.hid (HZ11.out.1.low hb13); obtain ⟨b0, b1, b2⟩ := q_cells (q := q) HZ13.out.bq; obtain ⟨c0, c1, c2⟩ := q_cells (q := o) HZ13.out.bo; obtain ⟨e0, e1, e2, e3, e4, e5, e6⟩ := e_cells (x := ⟨E2, A6, c6⟩) (HB9.out.low hb13).bx; obtain ⟨g0, g1, g2, g3, g4, g5, g6⟩ := e_cells (x := ⟨E2, A11, c11⟩) (HZ11.out.2.low hb13).bx; clear hb13) | (go_at_call 13; (with_reducible (refine (HLn.out _ HB13.out).mono ?_)); rintro e w14 ⟨rfl, rfl⟩) | (go_at_call 19; (with_reducible (refine (HSa.out _ HB13.out).mono ?_)); rintro e w15 ⟨rfl, hb15⟩; have HF := Lib.hid (HZ13.out.lo.trans (hb15.mono HZ13.out.lo.size)); clear hb15))
      go_ret
      exact ⟨rfl, HF.out⟩
end Go.Proofs.Ytnmgeoeppfdnhaa.D
