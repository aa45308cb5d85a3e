/- The contracts of the program's shard: Lookup of what is live, Evict. -/
import Derived.Test.YtjjanogfcfapcaaVpe
namespace Go.Proofs.Ytjjanogfcfapcaa
open Go.RowKit
set_option linter.unusedVariables false
theorem Ch.tail {X : Nat → Prop} {a b c : World} (h : Ch X a b) (k : Below a.heap.size b c) : Ch X a c := ⟨k.os.trans h.os, k.tape.trans h.tape, k.output.trans h.output, Nat.le_trans h.size k.size, fun i hi hx => (k.block i hi).trans (h.block i hi hx)⟩
/-- What the call has made turns: no part of the shard's. -/
theorem Sv.junk {w w' w0 : World} {h : Nat} {K : Ly} {M M0 : Ms Ev} {f f0 : Qu → Option Nat} {N N0 : Nat} {l l0 : List W.Ti} (v : Sv w h K M f N l) (v0 : Sv w0 h K M0 f0 N0 l0) (hb : Below w0.heap.size w w') (hre : ∀ j, Re K.X w' (M.c.getD j Z0).x) : Sv w' h K M f N l := by
  have hc : Ch (fun i => w0.heap.size ≤ i) w w' := ⟨hb.os, hb.tape, hb.output, hb.size, fun i _ hi => hb.block i (by omega)⟩
  have a1 := v0.bh.lt
  have a2 := v0.sp.bg.lt
  have a3 := v0.sp.bb.lt
  have a4 := v0.pm.lt
  have a5 := cell_size v0.wl.c0
  have a6 := cell_size (v0.wl.e0 0 v0.wl.pos)
  simp only at a5 a6
  exact ⟨v.up, v.bh.eq (hc.block _ v.bh.lt (by omega)), v.sp.keepC hc (by omega) (by omega), v.pm.block (hc.block _ v.pm.lt (by omega)), v.wl.ch hc (by omega) (by omega) (fun j hj => by have := (v0.wl.mp j hj).lt; omega), hre⟩
theorem evL_put (x : Ev) (A : Option Addr) (cap : Nat) : (evL x).toArray.setIfInBounds 3 (.slice A x.e.l.length cap) = (evL ⟨x.e, A, cap⟩).toArray := rfl

set_option maxRecDepth 100000 in
set_option maxHeartbeats 4000000 in
theorem look_live (q : Qu) (hq : q.Fine) (now : Nat) {w : World} {h : Nat} {K : Ly} {M : Ms Ev} {f : Qu → Option Nat} {N : Nat} {l : List W.Ti} (v : Sv w h K M f N l) {k : Nat} (hf : f q = some k) (hk : k < M.c.length) (hu : us M.c k = true) (hl : now < (M.c.getD k Z0).x.e.ex) :
    Calls Try.prog 22 #[.pointer (some ⟨h, 0, none⟩), qV q, .int .u64 (now : Nat)] w fun e w' => ∃ A cap, e = .returned (.tuple #[evV ⟨(M.c.getD k Z0).x.e, A, cap⟩, .bool true]) ∧ Sl rf w' A cap (M.c.getD k Z0).x.e.l ∧ Nw w.heap.size A ∧
      Sv w' h K ⟨M.c.set k ⟨(M.c.getD k Z0).x, true, true⟩, M.h⟩ f N l ∧ Ch K.X w w' := by
  have hF := fi_of w q
  have HC := Lib.hid (find_some q hq (v.low hF.b) hf hk hu)
  have HF := Lib.hid hF
  have HV := Lib.hid (v.low hF.b)
  have HV0 := Lib.hid v
  have HX := Lib.hid (fun (i : Nat) (hi : w.heap.size ≤ i) => v.notX hi)
  have HRe := Lib.hid (v.re k)
  have hd : decide (now < (M.c.getD k Z0).x.e.ex) = true := by simpa using hl
  unfold qV at HC ⊢
  unfold zE qf at HC HF HV
  clear v hF hl hf
  obtain ⟨x, HE⟩ : ∃ x, Hid ((M.c.getD k Z0).x = x) := ⟨_, Lib.hid rfl⟩
  rw [HE.out] at HC hd HRe ⊢
  have HL := Lib.hid (fun W => live_any x.e.ex now W)
  go_enter Try.func22, Try.ntmps22
  go_upto_region 1 with (fail)
  generalize (w.alloc (Obj.cells #[.string q.n, .int .u16 (q.k : Nat), .int .u16 (q.c : Nat)] 35)).alloc (Obj.cells #[.string ⟨#[]⟩, .int .u16 0, .int .u16 0, .slice none 0 0, .int .i64 0, .int .i64 0, .int .u64 0] 39) = w1 at *
  obtain ⟨b0, b1, b2⟩ := q_cells (q := q) HF.out.bq
  go_upto_region 2 with (first | (refine wpList_store_row rfl 39 _ _ rfl w2.heap.size _ rfl rfl 39 _ HNw.out (infoEa x) rfl (evL_one x) ?_) | (go_at_call 36; (with_reducible (refine (HC.out).mono ?_)); rintro e w2 ⟨rfl, hb2⟩; have HB2 := Lib.hid hb2; have HNw := Lib.hid (Blk.new w2 39 zE); unfold zE at HNw; clear hb2))
  clear b0 b1 b2
  obtain ⟨k3, b3⟩ := box_of w2 x
  have b23 := HB2.out.trans (b3.mono HB2.out.size)
  have HV3 := Lib.hid (HV.out.low b23)
  have HF3 := Lib.hid (And.intro (HF.out.br.eq (b23.block _ HF.out.br.lt)) (And.intro (HF.out.b.trans (b23.mono HF.out.b.size)) (And.intro k3 (show w.heap.size + 1 < w2.heap.size from Nat.lt_of_lt_of_le HF.out.br.lt HB2.out.size))))
  unfold zE at HF3 HV3
  clear k3 b3 b23 HNw HF HB2 HC HV
  generalize (w2.alloc (Obj.cells #[.string ⟨#[]⟩, .int .u16 0, .int .u16 0, .slice none 0 0, .int .i64 0, .int .i64 0, .int .u64 0] 39)).setRow w2.heap.size (evL x).toArray = w3 at *
  generalize w2.heap.size = r at *
  obtain ⟨e0, e1, e2, e3, e4, e5, e6⟩ := e_cells HF3.out.2.2.1
  clear e0 e1 e2 e3 e4 e5
  go_upto_region 4 with (go_at_call 35; (with_reducible (refine (HL.out _).mono ?_)); rintro e w4 ⟨rfl, rfl⟩)
  clear e6
  have HT := Lib.hid (touch_sv HV3.out hk hu)
  rw [HE.out] at HT
  have c0 := HV3.out.c0
  go_upto_region 5 with (go_at_call 43; (with_reducible (refine HT.out.mono ?_)); rintro e w5 ⟨rfl, v5, hc5⟩; have HV5 := Lib.hid (And.intro v5 hc5); clear v5 hc5)
  have hc5 := HV5.out.2
  have hC5 := (Ch.bel HF3.out.2.1 |>.trans hc5 : Ch K.X w w5)
  have hr := HF3.out.2.2.2
  have k5 := HF3.out.2.2.1.ch hc5 (HX.out r (by omega))
  have HK5 := Lib.hid (And.intro k5 (And.intro (HF3.out.1.ch hc5 (HX.out _ (by omega))) hC5))
  have HCl := Lib.hid (clone_any x.A x.cap x.e.l HRe.out.sm w5 (HRe.out.ch hC5).sl)
  have HS := Lib.hid hr
  obtain ⟨e0, e1, e2, e3, e4, e5, e6⟩ := e_cells k5
  have f3 := k5.frozen 3
  clear hc5 hC5 k5 hr c0 HT HF3 HV3 HL
  have HE3 := Lib.hid e3
  clear e0 e1 e2 e4 e5 e6 f3
  go_upto_region 6 with (go_at_call 38; (with_reducible (refine HCl.out.mono ?_)); rintro e w6 ⟨A', cap', rfl, sl6, nw6, hb6⟩; have HS6 := Lib.hid (And.intro sl6 (And.intro nw6 hb6)); have g3 := (HK5.out.1.eq (hb6.block _ HK5.out.1.lt)).frozen 3; have d3 := (hb6.cell (p := ⟨r, 3, none⟩) HK5.out.1.lt).trans HE3.out; clear sl6 nw6 hb6)
  clear e3 g3 d3 HE3
  have hb6 := HS6.out.2.2
  have k7 := (HK5.out.1.eq (hb6.block _ HK5.out.1.lt)).set_ 3 (.slice A' x.e.l.length cap')
  rw [evL_put] at k7
  have r7 := (HK5.out.2.1.eq (hb6.block _ HK5.out.2.1.lt)).far ⟨r, 3, none⟩ (.slice A' x.e.l.length cap') (by have := HS.out; simp only; omega)
  have b7 : Below w.heap.size w5 (w6.setCell ⟨r, 3, none⟩ (.slice A' x.e.l.length cap')) := (hb6.mono HK5.out.2.2.size).setCell (p := ⟨r, 3, none⟩) (by have := HS.out; simp only; omega) _
  have s7 : Sl rf (w6.setCell ⟨r, 3, none⟩ (.slice A' x.e.l.length cap')) A' cap' x.e.l := by
    refine HS6.out.1.ch (X := fun i => i = r) ⟨rfl, rfl, rfl, by simp, fun i _ hi => Below.heap_setCell w6 ⟨r, 3, none⟩ _ i hi⟩ (fun b off hb _ e => ?_)
    have h1 := HS6.out.2.1 b off hb
    have h2 := HK5.out.1.lt
    omega
  have HK7 := Lib.hid (And.intro k7 (And.intro r7 (And.intro b7 s7)))
  have HN := Lib.hid (show Nw w5.heap.size A' from HS6.out.2.1)
  clear hb6 k7 r7 b7 s7 HS6 HCl
  generalize w6.setCell ⟨r, 3, none⟩ (.slice A' x.e.l.length cap') = w7 at *
  go_wp2_with (first | (refine wpList_load_row rfl 39 _ rfl r rfl 39 _ _ _ HK7.out.1 Try.underlying39 rfl infoE ?_) | (refine wpList_store_row rfl 39 _ _ rfl (w.heap.size + 1) _ rfl rfl 39 _ HK7.out.2.1 infoE rfl (evL_one _) ?_))
  have b8 := setRow_below (g := w.heap.size + 1) HK7.out.2.2.1 (by omega) (evL ⟨x.e, A', cap'⟩).toArray
  have hc8 : Ch K.X w (w7.setRow (w.heap.size + 1) (evL ⟨x.e, A', cap'⟩).toArray) := HK5.out.2.2.tail b8
  have hv8 := HV5.out.1.junk HV0.out b8 (HV0.out.re_set hk hc8 (HRe.out.ch hc8))
  have s8 : Sl rf (w7.setRow (w.heap.size + 1) (evL ⟨x.e, A', cap'⟩).toArray) A' cap' x.e.l := by
    refine HK7.out.2.2.2.ch (X := fun i => i = w.heap.size + 1) ⟨rfl, rfl, rfl, by simp, fun i _ hi => setRow_other w7 _ i _ hi⟩ (fun b off hb _ e => ?_)
    have h1 := HN.out b off hb
    have h2 := HK5.out.2.1.lt
    omega
  exact ret_e2 (evL ⟨x.e, A', cap'⟩).toArray rfl rfl rfl rfl rfl (setRow_heap _ _ _ _ _ _ HK7.out.2.1) ⟨A', cap', rfl, s8, (fun b off hb => Nat.le_trans HK5.out.2.2.size (HN.out b off hb)), hv8, hc8⟩
end Go.Proofs.Ytjjanogfcfapcaa
