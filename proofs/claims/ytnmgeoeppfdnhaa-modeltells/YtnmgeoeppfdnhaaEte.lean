/- The law ModelTells (written by tools/gen_ete.py). -/
import Derived.Test.YtnmgeoeppfdnhaaEdr
namespace Go.Proofs.Ytnmgeoeppfdnhaa.D
open Go.RowKit
set_option linter.unusedVariables false
set_option linter.unusedSimpArgs false

/-- What the law holds: a box of an entry, one of a question, and the model. -/
structure Lt (W w : World) (h p : Nat) (m : List En) (f : Qu → Option Ev) (x : Ev) (q : Qu) : Prop where
  lo : Below W.heap.size W w
  bx : Blk w W.heap.size 35 (evL x).toArray
  bq : Blk w (W.heap.size + 1) 25 (qf q).toArray
  mh : Mh w h p 5 m f
  wp : W.heap.size + 1 < p
section
variable {W w w' : World} {h p r c : Nat} {m m' : List En} {f f' : Qu → Option Ev} {x : Ev} {q : Qu}
theorem Lt.low (z : Lt W w h p m f x q) (hb : Below w.heap.size w w') : Lt W w' h p m f x q := ⟨z.lo.trans (hb.mono z.lo.size), z.bx.eq (hb.block _ z.bx.lt), z.bq.eq (hb.block _ z.bq.lt), z.mh.low hb, z.wp⟩
theorem Lt.turn (z : Lt W w h p m f x q) (v : Mh w' h p 5 m' f') (hc : Ch (fun i => i = p) w w') : Lt W w' h p m' f' x q :=
  ⟨((Ch.bel z.lo).trans hc).isBelow (n := W.heap.size) (fun i e => by have := z.wp; omega) (Nat.le_refl _), z.bx.ch hc (fun e => by have := z.wp; omega), z.bq.ch hc (fun e => by have := z.wp; omega), v, z.wp⟩
end
theorem wrapAdd (a b : Nat) : IntKind.u64.wrap ((a : Int) + (b : Int)) = (((a + b) % 18446744073709551616 : Nat) : Int) := by
  simp [IntKind.wrap, IntKind.bits, IntKind.signed]
theorem xq_box (w : World) (x : Ev) (q : Qu) : Blk ((w.alloc (Obj.cells (evL x).toArray 35)).alloc (Obj.cells (qf q).toArray 25)) w.heap.size 35 (evL x).toArray ∧ Blk ((w.alloc (Obj.cells (evL x).toArray 35)).alloc (Obj.cells (qf q).toArray 25)) (w.heap.size + 1) 25 (qf q).toArray ∧ Below w.heap.size w ((w.alloc (Obj.cells (evL x).toArray 35)).alloc (Obj.cells (qf q).toArray 25)) := by
  have h1 := Blk.new w 35 (evL x).toArray
  have b1 := (Below.refl w.heap.size w).alloc (Nat.le_refl _) (Obj.cells (evL x).toArray 35)
  have s1 : (w.alloc (Obj.cells (evL x).toArray 35)).heap.size = w.heap.size + 1 := by simp
  generalize w.alloc (Obj.cells (evL x).toArray 35) = w1 at *
  have h2 := Blk.new w1 25 (qf q).toArray
  rw [s1] at h2
  have b2 := (Below.refl w1.heap.size w1).alloc (Nat.le_refl _) (Obj.cells (qf q).toArray 25)
  exact ⟨h1.eq (b2.block _ h1.lt), h2, b1.trans (b2.mono b1.size)⟩
set_option maxRecDepth 100000 in
set_option maxHeartbeats 8000000 in
theorem tells_law (A : Option Addr) (cap : Nat) (zs : List Dd) (x : Ev) (now later : Nat) (q : Qu) (hnow : now < 18446744073709551616) (hlat : later < 4294967296) (hq : q.Fine) (W : World) (hS : Sl df W A cap zs) (hD : ∀ D ∈ zs, ArgD W D) (ha : Arg W x) :
    Calls Try.prog 4 #[.slice A zs.length cap, evV x, .int .u64 (now : Nat), .int .u32 (later : Nat), qV q] W fun e w' => e = .returned (.bool true) ∧ Below W.heap.size W w' := by
  rw [evV_eq]
  unfold qV
  have h2 := xq_box W x q
  have HX := Lib.hid h2
  have HA := Lib.hid (And.intro hS (And.intro hD ha))
  unfold evL qf at HX
  clear h2 hS hD ha
  have HSh := Lib.hid (fun V => shown_any V)
  go_enter Try.func4, Try.ntmps4
  go_upto_region 1 with (fail)
  generalize (W.alloc (Obj.cells #[.string x.e.q.n, .int .u16 (x.e.q.k : Nat), .int .u16 (x.e.q.c : Nat), .slice x.A x.e.l.length x.cap, .int .i64 x.e.rc, .int .i64 x.e.rk, .int .u64 (x.e.ex : Nat)] 35)).alloc (Obj.cells #[.string q.n, .int .u16 (q.k : Nat), .int .u16 (q.c : Nat)] 25) = w1 at *
  go_upto_region 2 with (go_at_call 9; (with_reducible (refine (HSh.out _).mono ?_)); rintro e w2 ⟨rfl, hb2⟩; have HX2 := Lib.hid (And.intro (HX.out.1.eq (hb2.block _ HX.out.1.lt)) (And.intro (HX.out.2.1.eq (hb2.block _ HX.out.2.1.lt)) (HX.out.2.2.trans (hb2.mono HX.out.2.2.size)))); clear hb2)
  have HR := Lib.hid (ran_any A cap zs w2 (HA.out.1.below' HX2.out.2.2) (fun D hD => argd_low (HA.out.2.1 D hD) HX2.out.2.2))
  clear HX HSh
  go_upto_region 3 with (go_at_call 16; (with_reducible (refine (HR.out).mono ?_)); rintro e w3 ⟨h, p, m, f, rfl, v3, l3, b3, hh, hp⟩; have HZ3 := Lib.hid (show Lt W w3 h p m f x q from ⟨HX2.out.2.2.trans (b3.mono HX2.out.2.2.size), HX2.out.1.eq (b3.block _ HX2.out.1.lt), HX2.out.2.1.eq (b3.block _ HX2.out.2.1.lt), v3, Nat.lt_of_lt_of_le HX2.out.2.1.lt hp⟩); have HP := Lib.hid l3; clear v3 l3 b3 hh hp)
  clear HR HX2
  obtain ⟨E1, HE1⟩ : ∃ E, Hid ((lookL m q now).1 = E) := ⟨_, Lib.hid rfl⟩
  obtain ⟨is1, HI1⟩ : ∃ is, Hid ((lookL m q now).2 = is) := ⟨_, Lib.hid rfl⟩
  have HSm1 := Lib.hid (show E1.l.length ≤ 3518437208883 by rw [← HE1.out]; exact look_sm HZ3.out.mh q now)
  have hL := look_any q hq now HZ3.out.mh
  rw [HE1.out, HI1.out] at hL
  unfold qV at hL
  simp only [evV_eq] at hL
  have HL := Lib.hid (show Calls Try.prog 17 #[.pointer (some ⟨h, 0, none⟩), .agg #[.string q.n, .int .u16 (q.k : Nat), .int .u16 (q.c : Nat)], .int .u64 (now : Nat)] w3 _ from hL)
  clear hL
  obtain ⟨e0, e1, e2, e3, e4, e5, e6⟩ := e_cells (x := x) HZ3.out.bx
  obtain ⟨b0, b1, b2⟩ := q_cells (q := q) HZ3.out.bq
  go_upto_region 4 with (first | (refine wpList_store_row rfl 35 _ _ rfl (w4.heap.size) (evL ⟨E1, A4, c4⟩).toArray rfl rfl 35 _ HNw.out (infoEa _) rfl (evL_one _) ?_) | (go_at_call 17; (with_reducible (refine (HL.out).mono ?_)); rintro e w4 ⟨A4, c4, rfl, s1, n1, hb1⟩; have HV := Lib.hid (And.intro hb1 (And.intro s1 n1)); have HNw := Lib.hid (Blk.new w4 35 zE); unfold zE at HNw; clear s1 n1 hb1))
  clear b0 b1 b2 e0 e1 e2 e3 e4 e5 e6
  have hx := Bx.new (e := E1) HZ3.out.mh HV.out.1 HV.out.2.1 HV.out.2.2
  have hbl := hx.2
  clear HL HV HNw
  have HZ5 := Lib.hid (And.intro (HZ3.out.low hbl) hx.1)
  clear hx hbl HZ3
  generalize (w4.alloc (Obj.cells #[.string ⟨#[]⟩, .int .u16 0, .int .u16 0, .slice none 0 0, .int .i64 0, .int .i64 0, .int .u64 0] 35)).setRow w4.heap.size (evL ⟨E1, A4, c4⟩).toArray = w5 at *
  generalize w4.heap.size = r4 at *
  have hR := arg_re (X := fun i => i = p) HA.out.2.2 HZ5.out.1.lo (fun i e => by have := HZ5.out.1.wp; omega)
  have hI := ins_any x now HZ5.out.1.mh (by have := HP.out; omega) hR
  obtain ⟨c, HC⟩ : ∃ c, Hid ((insL m 5 x.e now).2 = c) := ⟨_, Lib.hid rfl⟩
  have hei := fun o => ent_ins HZ5.out.1.mh.ok 5 x.e now o
  rw [HC.out, evV_eq] at hI
  simp only [HC.out] at hei
  have HI := Lib.hid hI
  have HEI := Lib.hid hei
  clear hI hei hR HC
  generalize (insL m 5 x.e now).1 = m1 at *
  obtain ⟨e0, e1, e2, e3, e4, e5, e6⟩ := e_cells (x := x) HZ5.out.1.bx
  obtain ⟨b0, b1, b2⟩ := q_cells (q := q) HZ5.out.1.bq
  go_upto_region 5 with (go_at_call 18; (with_reducible (refine (HI.out).mono ?_)); rintro e w6 ⟨f6, rfl, v6, k6⟩; have HZ6 := Lib.hid (And.intro (HZ5.out.1.turn v6 k6) (HZ5.out.2.ch k6)); clear v6 k6)
  clear b0 b1 b2 e0 e1 e2 e3 e4 e5 e6
  clear HI HZ5
  go_upto_region 6 with (fail)
  rw [wrapAdd]
  obtain ⟨th, HTh⟩ : ∃ th, Hid ((now + later) % 18446744073709551616 = th) := ⟨_, Lib.hid rfl⟩
  rw [HTh.out]
  clear HTh
  by_cases hov : th < now
  · have d0 : decide ((th : Int) < (now : Nat)) = true := by simp; omega
    have d1 : decide (th < now) = true := by simpa using hov
    go_wp2_with fail
    go_ret
    exact ⟨rfl, HZ6.out.1.lo⟩
  · have d0 : decide ((th : Int) < (now : Nat)) = false := by simp; omega
    have d1 : decide (th < now) = false := by simpa using hov
    go_upto_region 8 with (fail)
    clear d0 d1 hov
    obtain ⟨E2, HE2⟩ : ∃ E, Hid ((lookL m1 x.e.q th).1 = E) := ⟨_, Lib.hid rfl⟩
    obtain ⟨is2, HI2⟩ : ∃ is, Hid ((lookL m1 x.e.q th).2 = is) := ⟨_, Lib.hid rfl⟩
    obtain ⟨E3, HE3⟩ : ∃ E, Hid ((lookL m1 q now).1 = E) := ⟨_, Lib.hid rfl⟩
    obtain ⟨is3, HI3⟩ : ∃ is, Hid ((lookL m1 q now).2 = is) := ⟨_, Lib.hid rfl⟩
    have HSm2 := Lib.hid (show E2.l.length ≤ 3518437208883 by rw [← HE2.out]; exact look_sm HZ6.out.1.mh x.e.q th)
    have hL := look_any x.e.q HA.out.2.2.q th HZ6.out.1.mh
    rw [HE2.out, HI2.out] at hL
    unfold qV at hL
    simp only [evV_eq] at hL
    have HL := Lib.hid (show Calls Try.prog 17 #[.pointer (some ⟨h, 0, none⟩), .agg #[.string x.e.q.n, .int .u16 (x.e.q.k : Nat), .int .u16 (x.e.q.c : Nat)], .int .u64 (th : Nat)] w6 _ from hL)
    clear hL
    obtain ⟨e0, e1, e2, e3, e4, e5, e6⟩ := e_cells (x := x) HZ6.out.1.bx
    obtain ⟨b0, b1, b2⟩ := q_cells (q := q) HZ6.out.1.bq
    go_upto_region 9 with (first | (refine wpList_store_row rfl 35 _ _ rfl (w7.heap.size) (evL ⟨E2, A7, c7⟩).toArray rfl rfl 35 _ HNw.out (infoEa _) rfl (evL_one _) ?_) | (go_at_call 17; (with_reducible (refine (HL.out).mono ?_)); rintro e w7 ⟨A7, c7, rfl, s1, n1, hb1⟩; have HV := Lib.hid (And.intro hb1 (And.intro s1 n1)); have HNw := Lib.hid (Blk.new w7 35 zE); unfold zE at HNw; clear s1 n1 hb1))
    clear b0 b1 b2 e0 e1 e2 e3 e4 e5 e6
    have hx := Bx.new (e := E2) HZ6.out.1.mh HV.out.1 HV.out.2.1 HV.out.2.2
    have hbl := hx.2
    clear HL HV HNw
    have HZ8 := Lib.hid (And.intro (HZ6.out.1.low hbl) (And.intro (HZ6.out.2.low hbl) hx.1))
    clear hx hbl HZ6
    generalize (w7.alloc (Obj.cells #[.string ⟨#[]⟩, .int .u16 0, .int .u16 0, .slice none 0 0, .int .i64 0, .int .i64 0, .int .u64 0] 35)).setRow w7.heap.size (evL ⟨E2, A7, c7⟩).toArray = w8 at *
    generalize w7.heap.size = r7 at *
    have hL := look_any x.e.q HA.out.2.2.q th HZ8.out.1.mh
    rw [HE2.out, HI2.out] at hL
    unfold qV at hL
    simp only [evV_eq] at hL
    have HL := Lib.hid (show Calls Try.prog 17 #[.pointer (some ⟨h, 0, none⟩), .agg #[.string x.e.q.n, .int .u16 (x.e.q.k : Nat), .int .u16 (x.e.q.c : Nat)], .int .u64 (th : Nat)] w8 _ from hL)
    clear hL
    obtain ⟨e0, e1, e2, e3, e4, e5, e6⟩ := e_cells (x := x) HZ8.out.1.bx
    obtain ⟨b0, b1, b2⟩ := q_cells (q := q) HZ8.out.1.bq
    go_upto_region 10 with (first | (refine wpList_store_row rfl 35 _ _ rfl (w9.heap.size) (evL ⟨E2, A9, c9⟩).toArray rfl rfl 35 _ HNw.out (infoEa _) rfl (evL_one _) ?_) | (go_at_call 17; (with_reducible (refine (HL.out).mono ?_)); rintro e w9 ⟨A9, c9, rfl, s1, n1, hb1⟩; have HV := Lib.hid (And.intro hb1 (And.intro s1 n1)); have HNw := Lib.hid (Blk.new w9 35 zE); unfold zE at HNw; clear s1 n1 hb1))
    clear b0 b1 b2 e0 e1 e2 e3 e4 e5 e6
    have hx := Bx.new (e := E2) HZ8.out.1.mh HV.out.1 HV.out.2.1 HV.out.2.2
    have hbl := hx.2
    clear HL HV HNw
    have HZ10 := Lib.hid (And.intro (HZ8.out.1.low hbl) (And.intro (HZ8.out.2.1.low hbl) (And.intro (HZ8.out.2.2.low hbl) hx.1)))
    clear hx hbl HZ8
    generalize (w9.alloc (Obj.cells #[.string ⟨#[]⟩, .int .u16 0, .int .u16 0, .slice none 0 0, .int .i64 0, .int .i64 0, .int .u64 0] 35)).setRow w9.heap.size (evL ⟨E2, A9, c9⟩).toArray = w10 at *
    generalize w9.heap.size = r9 at *
    have hL := look_any q hq now HZ10.out.1.mh
    rw [HE3.out, HI3.out] at hL
    unfold qV at hL
    simp only [evV_eq] at hL
    have HL := Lib.hid (show Calls Try.prog 17 #[.pointer (some ⟨h, 0, none⟩), .agg #[.string q.n, .int .u16 (q.k : Nat), .int .u16 (q.c : Nat)], .int .u64 (now : Nat)] w10 _ from hL)
    clear hL
    obtain ⟨e0, e1, e2, e3, e4, e5, e6⟩ := e_cells (x := x) HZ10.out.1.bx
    obtain ⟨b0, b1, b2⟩ := q_cells (q := q) HZ10.out.1.bq
    go_upto_region 11 with (first | (refine wpList_store_row rfl 35 _ _ rfl (w11.heap.size) (evL ⟨E3, A11, c11⟩).toArray rfl rfl 35 _ HNw.out (infoEa _) rfl (evL_one _) ?_) | (go_at_call 17; (with_reducible (refine (HL.out).mono ?_)); rintro e w11 ⟨A11, c11, rfl, s1, n1, hb1⟩; have HV := Lib.hid (And.intro hb1 (And.intro s1 n1)); have HNw := Lib.hid (Blk.new w11 35 zE); unfold zE at HNw; clear s1 n1 hb1))
    clear b0 b1 b2 e0 e1 e2 e3 e4 e5 e6
    have hx := Bx.new (e := E3) HZ10.out.1.mh HV.out.1 HV.out.2.1 HV.out.2.2
    have hbl := hx.2
    clear HL HV HNw
    have HZ := Lib.hid (And.intro (HZ10.out.1.low hbl) (And.intro (HZ10.out.2.1.low hbl) (And.intro (HZ10.out.2.2.1.low hbl) (And.intro (HZ10.out.2.2.2.low hbl) hx.1))))
    clear hx hbl HZ10
    generalize (w11.alloc (Obj.cells #[.string ⟨#[]⟩, .int .u16 0, .int .u16 0, .slice none 0 0, .int .i64 0, .int .i64 0, .int .u64 0] 35)).setRow w11.heap.size (evL ⟨E3, A11, c11⟩).toArray = w12 at *
    generalize w11.heap.size = r11 at *
    have HBv := Lib.hid (Below.refl w12.heap.size w12)
    have hne := fun V => ne_qu q x.e.q V
    have HSa := Lib.hid (fun (V : World) (hV : Below w12.heap.size w12 V) => (by have h := same_yes E2 A7 c7 A9 c9 HSm2.out V (HZ.out.2.2.1.low hV).sl (HZ.out.2.2.2.1.low hV).sl; unfold evL at h; exact h))
    by_cases hqe : q = x.e.q
    · simp only [decide_eq_true hqe, Bool.not_true] at hne
      clear hqe HE1 HE3 HI1 HI3 HSm1
      by_cases hc : c = 0
      · subst hc
        have hel : entL m1 x.e.q = some x.e := by rw [HEI.out, if_pos ⟨rfl, rfl⟩]
        have hlk : lookL m1 x.e.q th = if th < x.e.ex then (x.e, true) else (default, false) := by unfold lookL; rw [hel]
        by_cases hl : th < x.e.ex
        · rw [if_pos hl] at hlk
          have h1 : E2 = x.e := by rw [← HE2.out, hlk]
          have h2 : is2 = true := by rw [← HI2.out, hlk]
          subst h1
          subst h2
          have d1 : decide (((th : Nat) : Int) < (x.e.ex : Nat)) = true := by simp; omega
          have d2 : decide ((x.e.ex : Nat) ≤ ((th : Nat) : Int)) = false := by simp; omega
          have HSc := Lib.hid (fun (V : World) (hV : Below w12.heap.size w12 V) => (by have h := same_yes x.e A7 c7 x.A x.cap HSm2.out V (HZ.out.2.2.1.low hV).sl (HA.out.2.2.sl.below' ((HZ.out.1.low hV).lo)); unfold evL at h; exact h))
          have d3 : decide (th < x.e.ex) = true := by simpa using hl
          clear hel hlk HE2 HI2 HEI hl HSm2
          obtain ⟨e0, e1, e2, e3, e4, e5, e6⟩ := e_cells (x := x) HZ.out.1.bx
          obtain ⟨b0, b1, b2⟩ := q_cells (q := q) HZ.out.1.bq
          obtain ⟨u0, u1, u2, u3, u4, u5, u6⟩ := e_cells (x := ⟨E1, A4, c4⟩) HZ.out.2.1.bx
          obtain ⟨g0, g1, g2, g3, g4, g5, g6⟩ := e_cells (x := ⟨x.e, A7, c7⟩) HZ.out.2.2.1.bx
          obtain ⟨k0, k1, k2, k3, k4, k5, k6⟩ := e_cells (x := ⟨x.e, A9, c9⟩) HZ.out.2.2.2.1.bx
          obtain ⟨v0, v1, v2, v3, v4, v5, v6⟩ := e_cells (x := ⟨E3, A11, c11⟩) HZ.out.2.2.2.2.bx
          go_wp2_with (first | (go_at_call 19; (with_reducible (refine (HSa.out _ HBv.out).mono ?_)); rintro e wv ⟨rfl, hbv⟩; replace HBv := Lib.hid (HBv.out.trans (hbv.mono HBv.out.size)); clear hbv; obtain ⟨e0, e1, e2, e3, e4, e5, e6⟩ := e_cells (x := x) (HZ.out.1.low HBv.out).bx; obtain ⟨b0, b1, b2⟩ := q_cells (q := q) (HZ.out.1.low HBv.out).bq; obtain ⟨u0, u1, u2, u3, u4, u5, u6⟩ := e_cells (x := ⟨E1, A4, c4⟩) (HZ.out.2.1.low HBv.out).bx; obtain ⟨g0, g1, g2, g3, g4, g5, g6⟩ := e_cells (x := ⟨x.e, A7, c7⟩) (HZ.out.2.2.1.low HBv.out).bx; obtain ⟨k0, k1, k2, k3, k4, k5, k6⟩ := e_cells (x := ⟨x.e, A9, c9⟩) (HZ.out.2.2.2.1.low HBv.out).bx; obtain ⟨v0, v1, v2, v3, v4, v5, v6⟩ := e_cells (x := ⟨E3, A11, c11⟩) (HZ.out.2.2.2.2.low HBv.out).bx) | (go_at_call 19; (with_reducible (refine (HSc.out _ HBv.out).mono ?_)); rintro e wv ⟨rfl, hbv⟩; replace HBv := Lib.hid (HBv.out.trans (hbv.mono HBv.out.size)); clear hbv; obtain ⟨e0, e1, e2, e3, e4, e5, e6⟩ := e_cells (x := x) (HZ.out.1.low HBv.out).bx; obtain ⟨b0, b1, b2⟩ := q_cells (q := q) (HZ.out.1.low HBv.out).bq; obtain ⟨u0, u1, u2, u3, u4, u5, u6⟩ := e_cells (x := ⟨E1, A4, c4⟩) (HZ.out.2.1.low HBv.out).bx; obtain ⟨g0, g1, g2, g3, g4, g5, g6⟩ := e_cells (x := ⟨x.e, A7, c7⟩) (HZ.out.2.2.1.low HBv.out).bx; obtain ⟨k0, k1, k2, k3, k4, k5, k6⟩ := e_cells (x := ⟨x.e, A9, c9⟩) (HZ.out.2.2.2.1.low HBv.out).bx; obtain ⟨v0, v1, v2, v3, v4, v5, v6⟩ := e_cells (x := ⟨E3, A11, c11⟩) (HZ.out.2.2.2.2.low HBv.out).bx))
          go_ret
          exact ⟨rfl, (HZ.out.1.low HBv.out).lo⟩
        · rw [if_neg hl] at hlk
          have h2 : is2 = false := by rw [← HI2.out, hlk]
          subst h2
          have d1 : decide (((th : Nat) : Int) < (x.e.ex : Nat)) = false := by simp; omega
          have d2 : decide ((x.e.ex : Nat) ≤ ((th : Nat) : Int)) = true := by simp; omega
          have hl2 : ¬ th < x.e.ex := hl
          have d3 : decide (th < x.e.ex) = false := by simpa using hl
          clear hel hlk HE2 HI2 HEI HSm2 hl2
          obtain ⟨e0, e1, e2, e3, e4, e5, e6⟩ := e_cells (x := x) HZ.out.1.bx
          obtain ⟨b0, b1, b2⟩ := q_cells (q := q) HZ.out.1.bq
          obtain ⟨u0, u1, u2, u3, u4, u5, u6⟩ := e_cells (x := ⟨E1, A4, c4⟩) HZ.out.2.1.bx
          obtain ⟨g0, g1, g2, g3, g4, g5, g6⟩ := e_cells (x := ⟨E2, A7, c7⟩) HZ.out.2.2.1.bx
          obtain ⟨k0, k1, k2, k3, k4, k5, k6⟩ := e_cells (x := ⟨E2, A9, c9⟩) HZ.out.2.2.2.1.bx
          obtain ⟨v0, v1, v2, v3, v4, v5, v6⟩ := e_cells (x := ⟨E3, A11, c11⟩) HZ.out.2.2.2.2.bx
          go_wp2_with ((go_at_call 19; (with_reducible (refine (HSa.out _ HBv.out).mono ?_)); rintro e wv ⟨rfl, hbv⟩; replace HBv := Lib.hid (HBv.out.trans (hbv.mono HBv.out.size)); clear hbv; obtain ⟨e0, e1, e2, e3, e4, e5, e6⟩ := e_cells (x := x) (HZ.out.1.low HBv.out).bx; obtain ⟨b0, b1, b2⟩ := q_cells (q := q) (HZ.out.1.low HBv.out).bq; obtain ⟨u0, u1, u2, u3, u4, u5, u6⟩ := e_cells (x := ⟨E1, A4, c4⟩) (HZ.out.2.1.low HBv.out).bx; obtain ⟨g0, g1, g2, g3, g4, g5, g6⟩ := e_cells (x := ⟨E2, A7, c7⟩) (HZ.out.2.2.1.low HBv.out).bx; obtain ⟨k0, k1, k2, k3, k4, k5, k6⟩ := e_cells (x := ⟨E2, A9, c9⟩) (HZ.out.2.2.2.1.low HBv.out).bx; obtain ⟨v0, v1, v2, v3, v4, v5, v6⟩ := e_cells (x := ⟨E3, A11, c11⟩) (HZ.out.2.2.2.2.low HBv.out).bx))
          go_ret
          exact ⟨rfl, (HZ.out.1.low HBv.out).lo⟩
      · have d4 : (c == 0) = false := by simpa using hc
        have d5 : (c != 0) = true := by simpa using hc
        have d6 : decide (c = 0) = false := by simpa using hc
        clear HE2 HI2 HEI HSm2 hc
        obtain ⟨e0, e1, e2, e3, e4, e5, e6⟩ := e_cells (x := x) HZ.out.1.bx
        obtain ⟨b0, b1, b2⟩ := q_cells (q := q) HZ.out.1.bq
        obtain ⟨u0, u1, u2, u3, u4, u5, u6⟩ := e_cells (x := ⟨E1, A4, c4⟩) HZ.out.2.1.bx
        obtain ⟨g0, g1, g2, g3, g4, g5, g6⟩ := e_cells (x := ⟨E2, A7, c7⟩) HZ.out.2.2.1.bx
        obtain ⟨k0, k1, k2, k3, k4, k5, k6⟩ := e_cells (x := ⟨E2, A9, c9⟩) HZ.out.2.2.2.1.bx
        obtain ⟨v0, v1, v2, v3, v4, v5, v6⟩ := e_cells (x := ⟨E3, A11, c11⟩) HZ.out.2.2.2.2.bx
        go_wp2_with ((go_at_call 19; (with_reducible (refine (HSa.out _ HBv.out).mono ?_)); rintro e wv ⟨rfl, hbv⟩; replace HBv := Lib.hid (HBv.out.trans (hbv.mono HBv.out.size)); clear hbv; obtain ⟨e0, e1, e2, e3, e4, e5, e6⟩ := e_cells (x := x) (HZ.out.1.low HBv.out).bx; obtain ⟨b0, b1, b2⟩ := q_cells (q := q) (HZ.out.1.low HBv.out).bq; obtain ⟨u0, u1, u2, u3, u4, u5, u6⟩ := e_cells (x := ⟨E1, A4, c4⟩) (HZ.out.2.1.low HBv.out).bx; obtain ⟨g0, g1, g2, g3, g4, g5, g6⟩ := e_cells (x := ⟨E2, A7, c7⟩) (HZ.out.2.2.1.low HBv.out).bx; obtain ⟨k0, k1, k2, k3, k4, k5, k6⟩ := e_cells (x := ⟨E2, A9, c9⟩) (HZ.out.2.2.2.1.low HBv.out).bx; obtain ⟨v0, v1, v2, v3, v4, v5, v6⟩ := e_cells (x := ⟨E3, A11, c11⟩) (HZ.out.2.2.2.2.low HBv.out).bx))
        go_ret
        exact ⟨rfl, (HZ.out.1.low HBv.out).lo⟩
    · simp only [decide_eq_false hqe, Bool.not_false] at hne
      have hlk := look_same (show entL m1 q = entL m q by rw [HEI.out, if_neg (fun h => hqe h.1)]) now
      have h1 : E3 = E1 := by rw [← HE1.out, ← HE3.out, hlk]
      have h2 : is3 = is1 := by rw [← HI1.out, ← HI3.out, hlk]
      subst h1
      subst h2
      have HSb := Lib.hid (fun (V : World) (hV : Below w12.heap.size w12 V) => (by have h := same_yes E3 A4 c4 A11 c11 HSm1.out V (HZ.out.2.1.low hV).sl (HZ.out.2.2.2.2.low hV).sl; unfold evL at h; exact h))
      clear hqe HE1 HE3 HI1 HI3 HSm1 hlk
      by_cases hc : c = 0
      · subst hc
        have hel : entL m1 x.e.q = some x.e := by rw [HEI.out, if_pos ⟨rfl, rfl⟩]
        have hlk : lookL m1 x.e.q th = if th < x.e.ex then (x.e, true) else (default, false) := by unfold lookL; rw [hel]
        by_cases hl : th < x.e.ex
        · rw [if_pos hl] at hlk
          have h1 : E2 = x.e := by rw [← HE2.out, hlk]
          have h2 : is2 = true := by rw [← HI2.out, hlk]
          subst h1
          subst h2
          have d1 : decide (((th : Nat) : Int) < (x.e.ex : Nat)) = true := by simp; omega
          have d2 : decide ((x.e.ex : Nat) ≤ ((th : Nat) : Int)) = false := by simp; omega
          have HSc := Lib.hid (fun (V : World) (hV : Below w12.heap.size w12 V) => (by have h := same_yes x.e A7 c7 x.A x.cap HSm2.out V (HZ.out.2.2.1.low hV).sl (HA.out.2.2.sl.below' ((HZ.out.1.low hV).lo)); unfold evL at h; exact h))
          have d3 : decide (th < x.e.ex) = true := by simpa using hl
          clear hel hlk HE2 HI2 HEI hl HSm2
          obtain ⟨e0, e1, e2, e3, e4, e5, e6⟩ := e_cells (x := x) HZ.out.1.bx
          obtain ⟨b0, b1, b2⟩ := q_cells (q := q) HZ.out.1.bq
          obtain ⟨u0, u1, u2, u3, u4, u5, u6⟩ := e_cells (x := ⟨E3, A4, c4⟩) HZ.out.2.1.bx
          obtain ⟨g0, g1, g2, g3, g4, g5, g6⟩ := e_cells (x := ⟨x.e, A7, c7⟩) HZ.out.2.2.1.bx
          obtain ⟨k0, k1, k2, k3, k4, k5, k6⟩ := e_cells (x := ⟨x.e, A9, c9⟩) HZ.out.2.2.2.1.bx
          obtain ⟨v0, v1, v2, v3, v4, v5, v6⟩ := e_cells (x := ⟨E3, A11, c11⟩) HZ.out.2.2.2.2.bx
          go_wp2_with (first | (go_at_call 19; (with_reducible (refine (HSa.out _ HBv.out).mono ?_)); rintro e wv ⟨rfl, hbv⟩; replace HBv := Lib.hid (HBv.out.trans (hbv.mono HBv.out.size)); clear hbv; obtain ⟨e0, e1, e2, e3, e4, e5, e6⟩ := e_cells (x := x) (HZ.out.1.low HBv.out).bx; obtain ⟨b0, b1, b2⟩ := q_cells (q := q) (HZ.out.1.low HBv.out).bq; obtain ⟨u0, u1, u2, u3, u4, u5, u6⟩ := e_cells (x := ⟨E3, A4, c4⟩) (HZ.out.2.1.low HBv.out).bx; obtain ⟨g0, g1, g2, g3, g4, g5, g6⟩ := e_cells (x := ⟨x.e, A7, c7⟩) (HZ.out.2.2.1.low HBv.out).bx; obtain ⟨k0, k1, k2, k3, k4, k5, k6⟩ := e_cells (x := ⟨x.e, A9, c9⟩) (HZ.out.2.2.2.1.low HBv.out).bx; obtain ⟨v0, v1, v2, v3, v4, v5, v6⟩ := e_cells (x := ⟨E3, A11, c11⟩) (HZ.out.2.2.2.2.low HBv.out).bx) | (go_at_call 19; (with_reducible (refine (HSb.out _ HBv.out).mono ?_)); rintro e wv ⟨rfl, hbv⟩; replace HBv := Lib.hid (HBv.out.trans (hbv.mono HBv.out.size)); clear hbv; obtain ⟨e0, e1, e2, e3, e4, e5, e6⟩ := e_cells (x := x) (HZ.out.1.low HBv.out).bx; obtain ⟨b0, b1, b2⟩ := q_cells (q := q) (HZ.out.1.low HBv.out).bq; obtain ⟨u0, u1, u2, u3, u4, u5, u6⟩ := e_cells (x := ⟨E3, A4, c4⟩) (HZ.out.2.1.low HBv.out).bx; obtain ⟨g0, g1, g2, g3, g4, g5, g6⟩ := e_cells (x := ⟨x.e, A7, c7⟩) (HZ.out.2.2.1.low HBv.out).bx; obtain ⟨k0, k1, k2, k3, k4, k5, k6⟩ := e_cells (x := ⟨x.e, A9, c9⟩) (HZ.out.2.2.2.1.low HBv.out).bx; obtain ⟨v0, v1, v2, v3, v4, v5, v6⟩ := e_cells (x := ⟨E3, A11, c11⟩) (HZ.out.2.2.2.2.low HBv.out).bx) | (go_at_call 19; (with_reducible (refine (HSc.out _ HBv.out).mono ?_)); rintro e wv ⟨rfl, hbv⟩; replace HBv := Lib.hid (HBv.out.trans (hbv.mono HBv.out.size)); clear hbv; obtain ⟨e0, e1, e2, e3, e4, e5, e6⟩ := e_cells (x := x) (HZ.out.1.low HBv.out).bx; obtain ⟨b0, b1, b2⟩ := q_cells (q := q) (HZ.out.1.low HBv.out).bq; obtain ⟨u0, u1, u2, u3, u4, u5, u6⟩ := e_cells (x := ⟨E3, A4, c4⟩) (HZ.out.2.1.low HBv.out).bx; obtain ⟨g0, g1, g2, g3, g4, g5, g6⟩ := e_cells (x := ⟨x.e, A7, c7⟩) (HZ.out.2.2.1.low HBv.out).bx; obtain ⟨k0, k1, k2, k3, k4, k5, k6⟩ := e_cells (x := ⟨x.e, A9, c9⟩) (HZ.out.2.2.2.1.low HBv.out).bx; obtain ⟨v0, v1, v2, v3, v4, v5, v6⟩ := e_cells (x := ⟨E3, A11, c11⟩) (HZ.out.2.2.2.2.low HBv.out).bx))
          go_ret
          exact ⟨rfl, (HZ.out.1.low HBv.out).lo⟩
        · rw [if_neg hl] at hlk
          have h2 : is2 = false := by rw [← HI2.out, hlk]
          subst h2
          have d1 : decide (((th : Nat) : Int) < (x.e.ex : Nat)) = false := by simp; omega
          have d2 : decide ((x.e.ex : Nat) ≤ ((th : Nat) : Int)) = true := by simp; omega
          have hl2 : ¬ th < x.e.ex := hl
          have d3 : decide (th < x.e.ex) = false := by simpa using hl
          clear hel hlk HE2 HI2 HEI HSm2 hl2
          obtain ⟨e0, e1, e2, e3, e4, e5, e6⟩ := e_cells (x := x) HZ.out.1.bx
          obtain ⟨b0, b1, b2⟩ := q_cells (q := q) HZ.out.1.bq
          obtain ⟨u0, u1, u2, u3, u4, u5, u6⟩ := e_cells (x := ⟨E3, A4, c4⟩) HZ.out.2.1.bx
          obtain ⟨g0, g1, g2, g3, g4, g5, g6⟩ := e_cells (x := ⟨E2, A7, c7⟩) HZ.out.2.2.1.bx
          obtain ⟨k0, k1, k2, k3, k4, k5, k6⟩ := e_cells (x := ⟨E2, A9, c9⟩) HZ.out.2.2.2.1.bx
          obtain ⟨v0, v1, v2, v3, v4, v5, v6⟩ := e_cells (x := ⟨E3, A11, c11⟩) HZ.out.2.2.2.2.bx
          go_wp2_with (first | (go_at_call 19; (with_reducible (refine (HSa.out _ HBv.out).mono ?_)); rintro e wv ⟨rfl, hbv⟩; replace HBv := Lib.hid (HBv.out.trans (hbv.mono HBv.out.size)); clear hbv; obtain ⟨e0, e1, e2, e3, e4, e5, e6⟩ := e_cells (x := x) (HZ.out.1.low HBv.out).bx; obtain ⟨b0, b1, b2⟩ := q_cells (q := q) (HZ.out.1.low HBv.out).bq; obtain ⟨u0, u1, u2, u3, u4, u5, u6⟩ := e_cells (x := ⟨E3, A4, c4⟩) (HZ.out.2.1.low HBv.out).bx; obtain ⟨g0, g1, g2, g3, g4, g5, g6⟩ := e_cells (x := ⟨E2, A7, c7⟩) (HZ.out.2.2.1.low HBv.out).bx; obtain ⟨k0, k1, k2, k3, k4, k5, k6⟩ := e_cells (x := ⟨E2, A9, c9⟩) (HZ.out.2.2.2.1.low HBv.out).bx; obtain ⟨v0, v1, v2, v3, v4, v5, v6⟩ := e_cells (x := ⟨E3, A11, c11⟩) (HZ.out.2.2.2.2.low HBv.out).bx) | (go_at_call 19; (with_reducible (refine (HSb.out _ HBv.out).mono ?_)); rintro e wv ⟨rfl, hbv⟩; replace HBv := Lib.hid (HBv.out.trans (hbv.mono HBv.out.size)); clear hbv; obtain ⟨e0, e1, e2, e3, e4, e5, e6⟩ := e_cells (x := x) (HZ.out.1.low HBv.out).bx; obtain ⟨b0, b1, b2⟩ := q_cells (q := q) (HZ.out.1.low HBv.out).bq; obtain ⟨u0, u1, u2, u3, u4, u5, u6⟩ := e_cells (x := ⟨E3, A4, c4⟩) (HZ.out.2.1.low HBv.out).bx; obtain ⟨g0, g1, g2, g3, g4, g5, g6⟩ := e_cells (x := ⟨E2, A7, c7⟩) (HZ.out.2.2.1.low HBv.out).bx; obtain ⟨k0, k1, k2, k3, k4, k5, k6⟩ := e_cells (x := ⟨E2, A9, c9⟩) (HZ.out.2.2.2.1.low HBv.out).bx; obtain ⟨v0, v1, v2, v3, v4, v5, v6⟩ := e_cells (x := ⟨E3, A11, c11⟩) (HZ.out.2.2.2.2.low HBv.out).bx))
          go_ret
          exact ⟨rfl, (HZ.out.1.low HBv.out).lo⟩
      · have d4 : (c == 0) = false := by simpa using hc
        have d5 : (c != 0) = true := by simpa using hc
        have d6 : decide (c = 0) = false := by simpa using hc
        clear HE2 HI2 HEI HSm2 hc
        obtain ⟨e0, e1, e2, e3, e4, e5, e6⟩ := e_cells (x := x) HZ.out.1.bx
        obtain ⟨b0, b1, b2⟩ := q_cells (q := q) HZ.out.1.bq
        obtain ⟨u0, u1, u2, u3, u4, u5, u6⟩ := e_cells (x := ⟨E3, A4, c4⟩) HZ.out.2.1.bx
        obtain ⟨g0, g1, g2, g3, g4, g5, g6⟩ := e_cells (x := ⟨E2, A7, c7⟩) HZ.out.2.2.1.bx
        obtain ⟨k0, k1, k2, k3, k4, k5, k6⟩ := e_cells (x := ⟨E2, A9, c9⟩) HZ.out.2.2.2.1.bx
        obtain ⟨v0, v1, v2, v3, v4, v5, v6⟩ := e_cells (x := ⟨E3, A11, c11⟩) HZ.out.2.2.2.2.bx
        go_wp2_with (first | (go_at_call 19; (with_reducible (refine (HSa.out _ HBv.out).mono ?_)); rintro e wv ⟨rfl, hbv⟩; replace HBv := Lib.hid (HBv.out.trans (hbv.mono HBv.out.size)); clear hbv; obtain ⟨e0, e1, e2, e3, e4, e5, e6⟩ := e_cells (x := x) (HZ.out.1.low HBv.out).bx; obtain ⟨b0, b1, b2⟩ := q_cells (q := q) (HZ.out.1.low HBv.out).bq; obtain ⟨u0, u1, u2, u3, u4, u5, u6⟩ := e_cells (x := ⟨E3, A4, c4⟩) (HZ.out.2.1.low HBv.out).bx; obtain ⟨g0, g1, g2, g3, g4, g5, g6⟩ := e_cells (x := ⟨E2, A7, c7⟩) (HZ.out.2.2.1.low HBv.out).bx; obtain ⟨k0, k1, k2, k3, k4, k5, k6⟩ := e_cells (x := ⟨E2, A9, c9⟩) (HZ.out.2.2.2.1.low HBv.out).bx; obtain ⟨v0, v1, v2, v3, v4, v5, v6⟩ := e_cells (x := ⟨E3, A11, c11⟩) (HZ.out.2.2.2.2.low HBv.out).bx) | (go_at_call 19; (with_reducible (refine (HSb.out _ HBv.out).mono ?_)); rintro e wv ⟨rfl, hbv⟩; replace HBv := Lib.hid (HBv.out.trans (hbv.mono HBv.out.size)); clear hbv; obtain ⟨e0, e1, e2, e3, e4, e5, e6⟩ := e_cells (x := x) (HZ.out.1.low HBv.out).bx; obtain ⟨b0, b1, b2⟩ := q_cells (q := q) (HZ.out.1.low HBv.out).bq; obtain ⟨u0, u1, u2, u3, u4, u5, u6⟩ := e_cells (x := ⟨E3, A4, c4⟩) (HZ.out.2.1.low HBv.out).bx; obtain ⟨g0, g1, g2, g3, g4, g5, g6⟩ := e_cells (x := ⟨E2, A7, c7⟩) (HZ.out.2.2.1.low HBv.out).bx; obtain ⟨k0, k1, k2, k3, k4, k5, k6⟩ := e_cells (x := ⟨E2, A9, c9⟩) (HZ.out.2.2.2.1.low HBv.out).bx; obtain ⟨v0, v1, v2, v3, v4, v5, v6⟩ := e_cells (x := ⟨E3, A11, c11⟩) (HZ.out.2.2.2.2.low HBv.out).bx))
        go_ret
        exact ⟨rfl, (HZ.out.1.low HBv.out).lo⟩
end Go.Proofs.Ytnmgeoeppfdnhaa.D
