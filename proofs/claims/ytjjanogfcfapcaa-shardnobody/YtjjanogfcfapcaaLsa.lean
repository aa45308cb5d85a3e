/- The contracts of derricklaw12.entry and derricklaw12.shown. -/
import Derived.Test.YtjjanogfcfapcaaVpl
import Derived.Test.YtjjanogfcfapcaaLsv
namespace Go.Proofs.Ytjjanogfcfapcaa
open Go.RowKit
set_option linter.unusedVariables false

def sA : En := ⟨⟨⟨#[1, 97, 0]⟩, 1, 1⟩, [], 0, 3, 9⟩
def sB : En := ⟨⟨⟨#[1, 98, 0]⟩, 1, 1⟩, [], 0, 3, 9⟩
theorem c1 : (insS (newS 1) sA 1).2 = ([], 0) := by kernel_rfl
theorem c2 : (insS (insS (newS 1) sA 1).1 sB 1).2 = ([sA.q], 0) := by kernel_rfl
theorem c3 : (lookS (insS (insS (newS 1) sA 1).1 sB 1).1 sA.q 1).2 = (default, false) := by kernel_rfl
theorem c3' : (lookS (insS (insS (newS 1) sA 1).1 sB 1).1 sA.q 1).1 = (insS (insS (newS 1) sA 1).1 sB 1).1 := by kernel_rfl
theorem c4 : (lookS (insS (insS (newS 1) sA 1).1 sB 1).1 sB.q 1).2 = (sB, true) := by kernel_rfl
theorem ret_e1 {w : World} {fn : Func} {p : Tmp} {R : Ending → World → Prop} {a : Act} {g : Nat} (cs : Array Value) (hs : cs.size = 7) (h : fn.results = #[.cell p 39]) (hp : a.tmps.getD p undef = .pointer (some ⟨g, 0, none⟩)) (hd : a.defers = [])
    (hg : w.heap[g]? = some (.cells cs 39 (0, 0))) (hR : R (.returned (.agg cs)) w) : bodyPost Try.prog fn R .ret a w :=
  bodyPost_ret (results_cell_row h _ w g 39 cs (0, 0) _ hp hg Try.underlying39 rfl (by rw [hs]; exact infoE)) hd hR
set_option maxHeartbeats 1000000 in
theorem entry_any (n : ByteArray) (r : Int) (ex : Nat) (w : World) : Calls Try.prog 25 #[.string n, .int .i64 r, .int .u64 (ex : Nat)] w fun e w' => e = .returned (evV ⟨⟨⟨n, 1, 1⟩, [], 0, r, ex⟩, none, 0⟩) ∧ Below w.heap.size w w' := by
  have HX := Lib.hid (blk_new_eq w 39 zE)
  have HB := Lib.hid ((Below.refl w.heap.size w).alloc (Nat.le_refl _) (Obj.cells zE 39))
  unfold zE at HX HB
  go_enter Try.func25, Try.ntmps25
  go_upto_region 1 with (fail)
  generalize w.alloc (Obj.cells #[.string ⟨#[]⟩, .int .u16 0, .int .u16 0, .slice none 0 0, .int .i64 0, .int .i64 0, .int .u64 0] 39) = w1 at *
  go_wp2_with (refine wpList_store_row rfl 39 _ _ rfl w.heap.size (evL ⟨⟨⟨n, 1, 1⟩, [], 0, r, ex⟩, none, 0⟩).toArray rfl rfl 39 _ HX.out (infoEa _) rfl (evL_one _) ?_)
  exact ret_e1 (evL ⟨⟨⟨n, 1, 1⟩, [], 0, r, ex⟩, none, 0⟩).toArray rfl rfl rfl rfl (setRow_heap _ _ _ _ _ _ HX.out) ⟨rfl, setRow_below HB.out (Nat.le_refl _) _⟩
def xA : Ev := ⟨sA, none, 0⟩
def xB : Ev := ⟨sB, none, 0⟩
def D1 : Sd := (insS (newS 1) sA 1).1
def D2 : Sd := (insS D1 sB 1).1
def D3 : Sd := (lookS D2 sB.q 1).1
theorem fineA : sA.q.Fine := ⟨by decide, by decide, by decide⟩
theorem fineB : sB.q.Fine := ⟨by decide, by decide, by decide⟩
theorem reA (X : Nat → Prop) (w : World) : Re X w xA := ⟨Sl.nil _ _, (fun b off h => by cases h), fineA, by decide, by decide⟩
theorem reB (X : Nat → Prop) (w : World) : Re X w xB := ⟨Sl.nil _ _, (fun b off h => by cases h), fineB, by decide, by decide⟩
theorem entA (w : World) : Calls Try.prog 25 #[.string ⟨#[1, 97, 0]⟩, .int .i64 3, .int .u64 9] w fun e w' => e = .returned (.agg (evL xA).toArray) ∧ Below w.heap.size w w' := entry_any ⟨#[1, 97, 0]⟩ 3 9 w
theorem entB (w : World) : Calls Try.prog 25 #[.string ⟨#[1, 98, 0]⟩, .int .i64 3, .int .u64 9] w fun e w' => e = .returned (.agg (evL xB).toArray) ∧ Below w.heap.size w w' := entry_any ⟨#[1, 98, 0]⟩ 3 9 w
section
variable {w : World} {h : Nat} {K : Ly}
theorem i1 (H : Sh w h K (newS 1)) : Calls Try.prog 19 #[.pointer (some ⟨h, 0, none⟩), .agg (evL xA).toArray, .int .u64 1] w fun e w' => (∃ A cap, e = .returned (.tuple #[.slice A 0 cap, .int .i64 0])) ∧ Sh w' h K D1 ∧ Ch K.X w w' := by
  refine (ins_any H xA (reA _ _) 1).mono ?_
  rintro e w' ⟨A, cap, he, _, _, hs, hc⟩
  have c := c1
  rw [show xA.e = sA from rfl] at he hs
  rw [c] at he
  exact ⟨⟨A, cap, he⟩, hs, hc⟩
theorem i2 (H : Sh w h K D1) : Calls Try.prog 19 #[.pointer (some ⟨h, 0, none⟩), .agg (evL xB).toArray, .int .u64 1] w fun e w' => ∃ b off cap, e = .returned (.tuple #[.slice (some ⟨b, off, none⟩) 1 cap, .int .i64 0]) ∧ (w.heap.size ≤ b ∧ b < w'.heap.size ∧ w'.cell? ⟨b, off, none⟩ = some (.string sA.q.n) ∧ w'.cell? ⟨b, off + 1, none⟩ = some (.int .u16 (sA.q.k : Nat)) ∧ w'.cell? ⟨b, off + 2, none⟩ = some (.int .u16 (sA.q.c : Nat))) ∧ Sh w' h K D2 ∧ Ch K.X w w' := by
  refine (ins_any H xB (reB _ _) 1).mono ?_
  rintro e w' ⟨A, cap, he, sl, nw, hs, hc⟩
  have c : (insS D1 sB 1).2 = ([sA.q], 0) := c2
  rw [show xB.e = sB from rfl] at he hs sl
  rw [c] at he sl
  obtain ⟨b, off, rfl, hb, q0, q1, q2⟩ := sl.ask3 0 (by simp)
  rw [Nat.zero_mul, Nat.add_zero] at q0 q1 q2
  exact ⟨b, off, cap, he, ⟨nw b off rfl, hb, q0, q1, q2⟩, hs, hc⟩
theorem i3 (H : Sh w h K D2) : Calls Try.prog 22 #[.pointer (some ⟨h, 0, none⟩), qV sA.q, .int .u64 1] w fun e w' => (∃ x, e = .returned (.tuple #[.agg (evL x).toArray, .bool false])) ∧ Sh w' h K D2 ∧ Ch K.X w w' := by
  refine (look_any H sA.q fineA 1).mono ?_
  rintro e w' ⟨A, cap, he, _, _, hs, hc⟩
  have c : (lookS D2 sA.q 1).2 = (default, false) := c3
  have c' : (lookS D2 sA.q 1).1 = D2 := c3'
  rw [c] at he
  rw [c'] at hs
  exact ⟨⟨_, he⟩, hs, hc⟩
theorem i4 (H : Sh w h K D2) : Calls Try.prog 22 #[.pointer (some ⟨h, 0, none⟩), qV sB.q, .int .u64 1] w fun e w' => (∃ x, x.e = sB ∧ e = .returned (.tuple #[.agg (evL x).toArray, .bool true])) ∧ Sh w' h K D3 ∧ Ch K.X w w' := by
  refine (look_any H sB.q fineB 1).mono ?_
  rintro e w' ⟨A, cap, he, _, _, hs, hc⟩
  have c : (lookS D2 sB.q 1).2 = (sB, true) := c4
  rw [c] at he
  exact ⟨⟨⟨sB, A, cap⟩, rfl, he⟩, hs, hc⟩
theorem new_z (zr zs : Int) (r s : Nat) (hr : zr = r) (hs : zs = s) (h1 : 1 ≤ r) (h2 : r ≤ 64) (s1 : 1 ≤ s) (s2 : s ≤ 256) (w : World) :
    Calls Try.prog 10 #[.int .i64 zr, .int .i64 zs] w fun e w' => ∃ h K, e = .returned (.pointer (some ⟨h, 0, none⟩)) ∧ Sh w' h K (newS r) ∧ Below w.heap.size w w' ∧ (∀ i, K.X i → w.heap.size ≤ i) := by
  subst hr
  subst hs
  exact new_s r s h1 h2 s1 s2 w
end
theorem x_cells {w : World} {g : Nat} {t : TypeId} {x : Ev} {e : En} (he : x.e = e) (h : Blk w g t (evL x).toArray) : w.cell? ⟨g, 0, none⟩ = some (.string e.q.n) ∧ w.cell? ⟨g, 1, none⟩ = some (.int .u16 (e.q.k : Nat)) ∧ w.cell? ⟨g, 2, none⟩ = some (.int .u16 (e.q.c : Nat)) := by
  subst he
  exact ⟨h.cell 0, h.cell 1, h.cell 2⟩
/-- What shown has in memory. -/
structure Wn (w wr : World) (h : Nat) (K : Ly) (d : Sd) (ra rb : Nat) : Prop where
  sh : Sh wr h K d
  ba : Blk wr ra 39 (evL xA).toArray
  bb : Blk wr rb 39 (evL xB).toArray
  na : ¬ K.X ra
  nb : ¬ K.X rb
  lo : Below w.heap.size w wr
  kx : ∀ i, K.X i → w.heap.size ≤ i
theorem Wn.next {w wr w' : World} {h : Nat} {K : Ly} {d d' : Sd} {ra rb : Nat} (n : Wn w wr h K d ra rb) (hs : Sh w' h K d') (hc : Ch K.X wr w') : Wn w w' h K d' ra rb :=
  ⟨hs, n.ba.ch hc n.na, n.bb.ch hc n.nb, n.na, n.nb, n.lo.trans (hc.isBelow n.kx n.lo.size), n.kx⟩
theorem Wn.low {w wr w' : World} {h : Nat} {K : Ly} {d : Sd} {ra rb : Nat} (n : Wn w wr h K d ra rb) (hb : Below wr.heap.size wr w') : Wn w w' h K d ra rb := n.next (n.sh.low hb) (Ch.bel hb)
set_option maxRecDepth 100000 in
set_option maxHeartbeats 4000000 in
theorem shown_any (w : World) : Calls Try.prog 9 #[] w fun e w' => e = .returned (.bool true) ∧ Below w.heap.size w w' := by
  have HC := Lib.hid (fun V => new_z 1 4 1 4 rfl rfl (by omega) (by omega) (by omega) (by omega) V)
  have HA := Lib.hid (fun V => entA V)
  have HB := Lib.hid (fun V => entB V)
  go_enter Try.func9, Try.ntmps9
  go_upto_region 2 with (go_at_call 10; (with_reducible (refine (HC.out _).mono ?_)); rintro e w1 ⟨h, K, rfl, hs1, hb1, hk1⟩; have H1 := Lib.hid (And.intro hs1 (And.intro hb1 hk1)); clear hs1 hb1 hk1)
  go_upto_region 3 with (first | (refine wpList_store_row rfl 39 _ _ rfl w2.heap.size _ rfl rfl 39 _ HNw.out (infoEa xA) rfl (evL_one xA) ?_) | (go_at_call 25; (with_reducible (refine (HA.out _).mono ?_)); rintro e w2 ⟨rfl, hb2⟩; have HB2 := Lib.hid hb2; have HNw := Lib.hid (Blk.new w2 39 zE); unfold zE at HNw; clear hb2))
  obtain ⟨k3, b3⟩ := box_of w2 xA
  have b13 := HB2.out.trans (b3.mono HB2.out.size)
  have H3 := Lib.hid (And.intro (H1.out.1.low b13) (And.intro (H1.out.2.1.trans (b13.mono H1.out.2.1.size)) (And.intro H1.out.2.2 (And.intro k3 (show ¬ K.X w2.heap.size from by obtain ⟨M, _, v⟩ := H1.out.1.ex; exact v.notX HB2.out.size)))))
  unfold zE at H3
  clear k3 b3 b13 HNw HB2 H1
  generalize (w2.alloc (Obj.cells #[.string ⟨#[]⟩, .int .u16 0, .int .u16 0, .slice none 0 0, .int .i64 0, .int .i64 0, .int .u64 0] 39)).setRow w2.heap.size (evL xA).toArray = w3 at *
  generalize w2.heap.size = ra at *
  go_upto_region 4 with (first | (refine wpList_store_row rfl 39 _ _ rfl w4.heap.size _ rfl rfl 39 _ HNw.out (infoEa xB) rfl (evL_one xB) ?_) | (go_at_call 25; (with_reducible (refine (HB.out _).mono ?_)); rintro e w4 ⟨rfl, hb4⟩; have HB4 := Lib.hid hb4; have HNw := Lib.hid (Blk.new w4 39 zE); unfold zE at HNw; clear hb4))
  obtain ⟨k5, b5⟩ := box_of w4 xB
  have b35 := HB4.out.trans (b5.mono HB4.out.size)
  have H5 := Lib.hid (show Wn w _ h K (newS 1) ra w4.heap.size from ⟨H3.out.1.low b35, H3.out.2.2.2.1.eq (b35.block _ H3.out.2.2.2.1.lt), k5, H3.out.2.2.2.2, (by obtain ⟨M, _, v⟩ := H3.out.1.ex; exact v.notX HB4.out.size), H3.out.2.1.trans (b35.mono H3.out.2.1.size), H3.out.2.2.1⟩)
  unfold zE at H5
  clear k5 b5 b35 HNw HB4 H3
  generalize (w4.alloc (Obj.cells #[.string ⟨#[]⟩, .int .u16 0, .int .u16 0, .slice none 0 0, .int .i64 0, .int .i64 0, .int .u64 0] 39)).setRow w4.heap.size (evL xB).toArray = w5 at *
  generalize w4.heap.size = rb at *
  have HI := Lib.hid (i1 H5.out.sh)
  go_upto_region 5 with (first | (refine wpList_load_row rfl 39 _ rfl ra rfl 39 _ _ _ H5.out.ba Try.underlying39 rfl infoE ?_) | (go_at_call 19; (with_reducible (refine HI.out.mono ?_)); rintro e w6 ⟨⟨A6, c6, rfl⟩, hs6, hc6⟩; have H6 := Lib.hid (H5.out.next hs6 hc6); clear hs6 hc6))
  clear HI H5
  have HI := Lib.hid (i2 H6.out.sh)
  go_upto_region 6 with (first | (refine wpList_load_row rfl 39 _ rfl rb rfl 39 _ _ _ H6.out.bb Try.underlying39 rfl infoE ?_) | (go_at_call 19; (with_reducible (refine HI.out.mono ?_)); rintro e w7 ⟨yb, yo, c7, rfl, hy7, hs7, hc7⟩; have H7 := Lib.hid (And.intro (H6.out.next hs7 hc7) (And.intro (show ¬ K.X yb from by obtain ⟨M, _, v⟩ := H6.out.sh.ex; exact v.notX hy7.1) hy7)); clear hs7 hc7 hy7))
  clear HI H6
  have hI := i3 H7.out.1.sh
  unfold qV at hI
  have HI := Lib.hid hI
  obtain ⟨e0, e1, e2⟩ := x_cells (e := sA) rfl H7.out.1.ba
  clear hI
  go_upto_region 7 with (first | (refine wpList_store_row rfl 39 _ _ rfl w8.heap.size _ rfl rfl 39 _ HNw.out (infoEa x8) rfl (evL_one x8) ?_) | (go_at_call 22; (with_reducible (refine HI.out.mono ?_)); rintro e w8 ⟨⟨x8, rfl⟩, hs8, hc8⟩; have H8 := Lib.hid (And.intro (H7.out.1.next hs8 hc8) hc8); have HNw := Lib.hid (Blk.new w8 39 zE); unfold zE at HNw; clear hs8 hc8))
  have b9 := (box_of w8 x8).2
  have hc9 := H8.out.2.below b9
  have hy := H7.out.2
  have H9 := Lib.hid (And.intro (H8.out.1.low b9) (And.intro hy.1 (And.intro (Nat.lt_of_lt_of_le hy.2.2.1 hc9.size) (And.intro (hc9.cell hy.2.2.2.1 hy.1) (And.intro (hc9.cell hy.2.2.2.2.1 hy.1) (hc9.cell hy.2.2.2.2.2 hy.1))))))
  unfold zE at H9
  clear b9 hc9 hy HNw H8 H7 HI e0 e1 e2
  generalize (w8.alloc (Obj.cells #[.string ⟨#[]⟩, .int .u16 0, .int .u16 0, .slice none 0 0, .int .i64 0, .int .i64 0, .int .u64 0] 39)).setRow w8.heap.size (evL x8).toArray = w9 at *
  generalize w8.heap.size = r8 at *
  have hI := i4 H9.out.1.sh
  unfold qV at hI
  have HI := Lib.hid hI
  obtain ⟨e0, e1, e2⟩ := x_cells (e := sB) rfl H9.out.1.bb
  clear hI
  go_upto_region 8 with (first | (refine wpList_store_row rfl 39 _ _ rfl w10.heap.size _ rfl rfl 39 _ HNw.out (infoEa x10) rfl (evL_one x10) ?_) | (go_at_call 22; (with_reducible (refine HI.out.mono ?_)); rintro e w10 ⟨⟨x10, hx10, rfl⟩, hs10, hc10⟩; have HX10 := Lib.hid hx10; have H10 := Lib.hid (And.intro (H9.out.1.next hs10 hc10) hc10); have HNw := Lib.hid (Blk.new w10 39 zE); unfold zE at HNw; clear hs10 hc10 hx10))
  obtain ⟨k11, b11⟩ := box_of w10 x10
  have hc11 := H10.out.2.below b11
  have hy := H9.out.2
  have H11 := Lib.hid (And.intro (H10.out.1.low b11) (And.intro k11 (And.intro (hc11.cell hy.2.2.1 hy.1) (And.intro (hc11.cell hy.2.2.2.1 hy.1) (hc11.cell hy.2.2.2.2 hy.1)))))
  unfold zE at H11
  clear k11 b11 hc11 hy HNw H10 H9 HI e0 e1 e2
  generalize (w10.alloc (Obj.cells #[.string ⟨#[]⟩, .int .u16 0, .int .u16 0, .slice none 0 0, .int .i64 0, .int .i64 0, .int .u64 0] 39)).setRow w10.heap.size (evL x10).toArray = w11 at *
  generalize w10.heap.size = r10 at *
  obtain ⟨a0, a1, a2⟩ := x_cells (e := sA) rfl H11.out.1.ba
  obtain ⟨b0, b1, b2⟩ := x_cells (e := sB) rfl H11.out.1.bb
  obtain ⟨g0, g1, g2⟩ := x_cells HX10.out H11.out.2.1
  obtain ⟨y0, y1, y2⟩ := H11.out.2.2
  have HB11 := Lib.hid H11.out.1.lo
  clear H11 HX10
  generalize sA.q = qa at *
  generalize sB.q = qb at *
  go_quiet (fail)
  have HF := Lib.hid (HB11.out.trans ((below_drewN w11 nq).mono HB11.out.size))
  generalize w11.drewN nq = w12 at *
  clear a0 a1 a2 b0 b1 b2 g0 g1 g2 y0 y1 y2
  go_wp2_with fail
  go_ret
  exact ⟨by first | rfl | simp, HF.out⟩
end Go.Proofs.Ytjjanogfcfapcaa
