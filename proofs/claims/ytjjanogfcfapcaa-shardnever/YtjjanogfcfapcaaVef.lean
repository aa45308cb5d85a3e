/- derricklaw12.ShardNever: what stays, and the way where the first entry has ended (written by tools/gen_vef.py). -/
import Derived.Test.YtjjanogfcfapcaaVee
import Derived.Test.YtjjanogfcfapcaaVdn
namespace Go.Proofs.Ytjjanogfcfapcaa.D
open Go.RowKit
set_option linter.unusedVariables false

/-- Both entries' boxes, and the shard. -/
structure Nv (w0 wr : World) (h : Nat) (K : Ly) (S : Sd) (q : Nat) (x y : Ev) : Prop where
  sh : Sh wr h K S
  bx : Blk wr q 39 (evL x).toArray
  by_ : Blk wr (q + 1) 39 (evL y).toArray
  rx : Re K.X wr x
  ry : Re K.X wr y
  lo : Below w0.heap.size w0 wr
  kx : ∀ i, K.X i → q + 1 < i
  q0 : w0.heap.size ≤ q
theorem Nv.deed {w0 wr w' : World} {h : Nat} {K : Ly} {S S' : Sd} {q : Nat} {x y : Ev} (n : Nv w0 wr h K S q x y) (s : Sh w' h K S') (hc : Ch K.X wr w') : Nv w0 w' h K S' q x y :=
  ⟨s, n.bx.eq (hc.block _ n.bx.lt (fun e => by have := n.kx _ e; omega)), n.by_.eq (hc.block _ n.by_.lt (fun e => by have := n.kx _ e; omega)), n.rx.ch hc, n.ry.ch hc, n.lo.trans (hc.isBelow (fun i hi => by have := n.kx i hi; have := n.q0; omega) n.lo.size), n.kx, n.q0⟩
theorem Nv.low {w0 wr w' : World} {h : Nat} {K : Ly} {S : Sd} {q : Nat} {x y : Ev} (n : Nv w0 wr h K S q x y) (hb : Below wr.heap.size wr w') : Nv w0 w' h K S q x y := n.deed (n.sh.low hb) (Ch.bel hb)

set_option maxRecDepth 100000 in
set_option maxHeartbeats 4000000 in
theorem never_a (A : Option Addr) (cap : Nat) (l : List Dd) (x y : Ev) (now : Nat) (hex : x.e.ex ≤ now) (w : World) (hL : Sl df w A cap l) (hA : ∀ D ∈ l, ArgD w D) (hx : Arg w x) (hy : Arg w y) : Calls Try.prog 5 #[.slice A l.length cap, .agg (evL x).toArray, .agg (evL y).toArray, .int .u64 (now : Nat)] w fun e w' => e = .returned (.bool true) ∧ Below w.heap.size w w' := by
  have h2 := two_e w (evL x).toArray (evL y).toArray
  obtain ⟨T3, hT3⟩ : ∃ T3 : World, (w.alloc (Obj.cells (evL x).toArray 39)).alloc (Obj.cells (evL y).toArray 39) = T3 := ⟨_, rfl⟩
  rw [hT3] at h2
  have H2 := Lib.hid h2
  have HSH := Lib.hid (fun W => shown_any W)
  have HR := Lib.hid (fun W (hW : Below w.heap.size w W) => ran_any A cap l W (hL.below' hW) (fun D hD => argd_low (hA D hD) hW))
  have HXY := Lib.hid (And.intro hx hy)
  clear hL hA hx hy h2
  go_enter Try.func5, Try.ntmps5
  go_upto_region 1 with (fail)
  try rw [hT3]
  clear hT3
  generalize T3 = w1 at *
  go_upto_region 3 with (first | (go_at_call 9; with_reducible (refine (HSH.out _).mono ?_); rintro e w2 ⟨rfl, hb2⟩; have HB2 := Lib.hid hb2; clear hb2) | (go_at_call 18; with_reducible (refine (HR.out _ (H2.out.2.2.trans (HB2.out.mono H2.out.2.2.size))).mono ?_); rintro e w3 ⟨h, K, rfl, hs3, hb3, hk3⟩; have HW := Lib.hid (HB2.out.trans (hb3.mono HB2.out.size)); have HS2 := Lib.hid (And.intro hs3 (And.intro ((H2.out.2.2.trans (HB2.out.mono H2.out.2.2.size)).trans (hb3.mono (Nat.le_trans H2.out.2.2.size HB2.out.size))) (And.intro (fun i hi => Nat.le_trans (Nat.le_trans H2.out.2.2.size HB2.out.size) (hk3 i hi)) (fun i hi => Nat.lt_of_lt_of_le (Nat.lt_of_lt_of_le H2.out.2.1.lt HB2.out.size) (hk3 i hi))))); clear hs3 hb3 hk3))
  have HN := Lib.hid (Nv.mk HS2.out.1 (H2.out.1.eq (HW.out.block _ H2.out.1.lt)) (H2.out.2.1.eq (HW.out.block _ H2.out.2.1.lt)) (arg_re HXY.out.1 HS2.out.2.1 HS2.out.2.2.1) (arg_re HXY.out.2 HS2.out.2.1 HS2.out.2.2.1) HS2.out.2.1 HS2.out.2.2.2 (Nat.le_refl _))
  clear HR HSH HW H2 HXY HS2
  generalize runS 4 (l.take 200) = S at *
  have HEV := Lib.hid (ev_any HN.out.sh x.e.q HN.out.rx.q)
  unfold qV at HEV
  obtain ⟨e0, e1, e2, e3, e4, e5, e6⟩ := e_cells (x := x) HN.out.bx
  go_upto_region 4 with ((go_at_call 21; with_reducible (refine (HEV.out).mono ?_); rintro e w4 ⟨rfl, s4, hc4⟩; have HN1 := Lib.hid (HN.out.deed s4 hc4); clear s4 hc4))
  clear e0 e1 e2 e3 e4 e5 e6 HEV
  have hok1 := HN1.out.sh.ok
  have hcode := ins_new_code hok1 x.e now (ev_none HN.out.sh.ok x.e.q)
  have HI := Lib.hid (ins_any HN1.out.sh x HN1.out.rx now)
  unfold evV at HI
  rw [if_pos hex] at hcode
  simp only [hcode] at HI
  go_upto_region 5 with (first | (refine wpList_load_row rfl 39 _ rfl (w.heap.size) rfl 39 _ _ _ HN1.out.bx Try.underlying39 rfl (infoEa _) ?_) | (go_at_call 19; with_reducible (refine (HI.out).mono ?_); rintro e w5 ⟨A5, c5, rfl, sl5, nw5, s5, hc5⟩; have HN2 := Lib.hid (HN1.out.deed s5 hc5); clear sl5 nw5 s5 hc5))
  obtain ⟨e0, e1, e2, e3, e4, e5, e6⟩ := e_cells (x := x) HN2.out.bx
  go_wp2_with fail
  go_ret
  exact ⟨rfl, HN2.out.lo⟩
end Go.Proofs.Ytjjanogfcfapcaa.D
