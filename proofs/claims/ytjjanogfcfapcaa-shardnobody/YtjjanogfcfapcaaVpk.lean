/- The contract of the program's shard: Insert, where the entry is taken. -/
import Derived.Test.YtjjanogfcfapcaaVpj
namespace Go.Proofs.Ytjjanogfcfapcaa
open Go.RowKit
set_option linter.unusedVariables false

set_option maxRecDepth 100000 in
set_option maxHeartbeats 4000000 in
theorem ins_rep (x : Ev) (now : Nat) {w : World} {h : Nat} {K : Ly} {d : Sd} (H : Sh w h K d) (hx : Re K.X w x) (hd : ¬ x.e.ex ≤ now) {k : Nat} (hs : slotOf d.P.c x.e.q = some k) (hbt : btE (d.P.c.getD k Z0).x x.e now = true) :
    Calls Try.prog 19 #[.pointer (some ⟨h, 0, none⟩), evV x, .int .u64 (now : Nat)] w fun e w' => e = .returned (.tuple #[.slice none 0 0, .int .i64 0]) ∧ Sh w' h K (storeS d k x.e true) ∧ Ch K.X w w' := by
  rw [evV_eq]
  obtain ⟨M, hp, v⟩ := H.ex
  have hb := (Below.refl w.heap.size w).alloc (Nat.le_refl _) (Obj.cells (evL x).toArray 39)
  have HRo := Lib.hid (room_any (v.low hb))
  rw [pure_len hp] at HRo
  have n0 : ((d.P.c.length : Int) == 0) = false := by have := H.ok.ok.n1; rw [beq_eq_false_iff_ne]; omega
  have n1 : d.P.c.length ≠ 0 := by have := H.ok.ok.n1; omega
  have HL := Lib.hid (fun W => live_any x.e.ex now W)
  have HB := Lib.hid hb
  have HX := Lib.hid (blk_new_eq w 39 (evL x).toArray)
  have hl : decide (now < x.e.ex) = true := by simp; omega
  have hl2 : now < x.e.ex := by omega
  obtain ⟨hk, hu, hqk⟩ := H.find hs
  have hkM : k < M.c.length := by rw [pure_len hp]; exact hk
  have huM : us M.c k = true := by rw [pure_us hp]; exact hu
  have HC := Lib.hid (find_some x.e.q hx.q (v.low hb) hs hkM huM)
  have hye := pure_x hp k
  obtain ⟨y, hy⟩ : ∃ y, (M.c.getD k Z0).x = y := ⟨_, rfl⟩
  rw [hy] at HC hye
  rw [← hye] at hbt
  have HBt := Lib.hid (fun W => beats_any y x now W)
  rw [hbt] at HBt
  rw [evV_eq, evV_eq] at HBt
  unfold qV at HC
  have HNX := Lib.hid (fun (i : Nat) (hi : w.heap.size ≤ i) => v.notX hi)
  have HRe := Lib.hid hx
  have hl64 : d.l.length < 100000 := by have := ti_le H.ok.ti; have := H.ok.ok.n64; omega
  have HRp := Lib.hid (fun (w8 : World) (hb8 : Below w.heap.size w w8) (x' : Ev) (hx' : x'.e = x.e) (r8 : Re K.X w8 x') => (replace_any x' (v.low hb8) r8 hl64 hkM huM).mono (R' := fun e w9 => e = .returned (.tuple #[]) ∧ Sh w9 h K (storeS d k x.e true) ∧ Ch K.X w w9) (by
    rintro e w9 ⟨he, v9, hc9⟩
    have hn : ∀ j, j < d.P.c.length → us d.P.c j = true → qAt d.P.c j = x.e.q → j = k := fun j hj uj hq => H.ok.uq j k hj hk uj hu (by rw [hq, hqk])
    have hps := pure_set hp k ⟨x', true, true⟩
    rw [show (Ce.map Ev.e ⟨x', true, true⟩ : Ce En) = ⟨x.e, true, true⟩ by show (⟨x'.e, true, true⟩ : Ce En) = _; rw [hx']] at hps
    refine ⟨he, ⟨storeS_ok H.ok hk x.e true hn, _, hps, v9.fun (fun q => ?_) ?_ ?_⟩, (Ch.bel hb8).trans hc9⟩
    · show slotOf d.P.c q = slotOf (d.P.c.set k ⟨x.e, true, true⟩) q
      rw [slot_put H.ok.uq hk (e := ⟨x.e, true, true⟩) rfl hn (fun _ => hqk)]
      split
      · rename_i e; rw [e, hs]
      · rfl
    · show cnt d.P.c = cnt (d.P.c.set k ⟨x.e, true, true⟩)
      rw [← store_count H.ok.uq hk x.e true (.inl ⟨hu, hqk⟩), hs]
      rfl
    · show W.setL d.l k x'.e.ex = W.setL d.l k x.e.ex
      rw [hx']))
  clear v hp H hb hd hk hu hqk hy hye hbt hs hx hkM huM
  generalize d.P.c.length = n at *
  go_enter Try.func19, Try.ntmps19
  go_upto_region 1 with (fail)
  unfold evL at HB HX HRo HC
  generalize w.alloc (Obj.cells #[.string x.e.q.n, .int .u16 (x.e.q.k : Nat), .int .u16 (x.e.q.c : Nat), .slice x.A x.e.l.length x.cap, .int .i64 x.e.rc, .int .i64 x.e.rk, .int .u64 (x.e.ex : Nat)] 39) = w1 at *
  obtain ⟨e0, e1, e2, e3, e4, e5, e6⟩ := e_cells (x := x) HX.out
  go_upto_region 6 with (first | (refine wpList_store_row rfl 39 _ _ rfl w2.heap.size _ rfl rfl 39 _ HNw.out (infoEa y) rfl (evL_one y) ?_) | (go_at_call 17; (with_reducible (refine HRo.out.mono ?_)); rintro e w3 ⟨rfl, rfl⟩) | (go_at_call 35; (with_reducible (refine (HL.out _).mono ?_)); rintro e w4 ⟨rfl, rfl⟩) | (go_at_call 36; (with_reducible (refine HC.out.mono ?_)); rintro e w2 ⟨rfl, hb2⟩; have HB2 := Lib.hid hb2; have HNw := Lib.hid (Blk.new w2 39 zE); unfold zE at HNw; clear hb2))
  obtain ⟨k3, b3⟩ := box_of w2 y
  have b23 := HB2.out.trans (b3.mono HB2.out.size)
  have HF := Lib.hid (And.intro (HB.out.trans (b23.mono HB.out.size)) (And.intro k3 (HX.out.eq (b23.block _ HX.out.lt))))
  unfold zE at HF
  clear k3 b3 b23 HNw HB2 HC HX HB e0 e1 e2 e3 e4 e5 e6
  generalize (w2.alloc (Obj.cells #[.string ⟨#[]⟩, .int .u16 0, .int .u16 0, .slice none 0 0, .int .i64 0, .int .i64 0, .int .u64 0] 39)).setRow w2.heap.size (evL y).toArray = w5 at *
  generalize w2.heap.size = r at *
  obtain ⟨e0, e1, e2, e3, e4, e5, e6⟩ := e_cells (x := x) HF.out.2.2
  obtain ⟨g0, g1, g2, g3, g4, g5, g6⟩ := e_cells (x := y) HF.out.2.1
  go_upto_region 8 with (go_at_call 37; (with_reducible (refine (HBt.out _).mono ?_)); rintro e w6 ⟨rfl, hb6⟩; have HF6 := Lib.hid (And.intro (HF.out.1.trans (hb6.mono HF.out.1.size)) (HF.out.2.2.eq (hb6.block _ HF.out.2.2.lt))); clear hb6)
  clear e0 e1 e2 e3 e4 e5 e6 g0 g1 g2 g3 g4 g5 g6 HF
  have HE3 := Lib.hid ((e_cells (x := x) HF6.out.2).2.2.2.1)
  have HCl := Lib.hid (clone_any x.A x.cap x.e.l HRe.out.sm w6 (HRe.out.low HF6.out.1).sl)
  have e3 := HE3.out
  go_upto_region 9 with (go_at_call 38; (with_reducible (refine HCl.out.mono ?_)); rintro e w7 ⟨A', cap', rfl, sl7, nw7, hb7⟩; have HS7 := Lib.hid (And.intro sl7 (And.intro nw7 hb7)); have g3 := (HF6.out.2.eq (hb7.block _ HF6.out.2.lt)).frozen 3; have d3 := (hb7.cell (p := ⟨w.heap.size, 3, none⟩) HF6.out.2.lt).trans HE3.out; clear sl7 nw7 hb7)
  clear e3 g3 d3 HE3
  have hb7 := HS7.out.2.2
  have k8 : Blk (w7.setCell ⟨w.heap.size, 3, none⟩ (.slice A' x.e.l.length cap')) w.heap.size 39 (evL ⟨x.e, A', cap'⟩).toArray := (HF6.out.2.eq (hb7.block _ HF6.out.2.lt)).set_ 3 (.slice A' x.e.l.length cap')
  have b8 : Below w.heap.size w (w7.setCell ⟨w.heap.size, 3, none⟩ (.slice A' x.e.l.length cap')) := (HF6.out.1.trans (hb7.mono HF6.out.1.size)).setCell (p := ⟨w.heap.size, 3, none⟩) (Nat.le_refl _) _
  have s8 : Sl rf (w7.setCell ⟨w.heap.size, 3, none⟩ (.slice A' x.e.l.length cap')) A' cap' x.e.l := by
    refine HS7.out.1.ch (X := fun i => i = w.heap.size) ⟨rfl, rfl, rfl, by simp, fun i _ hi => Below.heap_setCell w7 ⟨w.heap.size, 3, none⟩ _ i hi⟩ (fun b off hb _ e => ?_)
    have h1 := HS7.out.2.1 b off hb
    have h2 := HF6.out.2.lt
    omega
  have r8 : Re K.X (w7.setCell ⟨w.heap.size, 3, none⟩ (.slice A' x.e.l.length cap')) ⟨x.e, A', cap'⟩ := ⟨s8, (fun b off e _ => HNX.out b (by have h1 := HS7.out.2.1 b off e; have h2 := HF6.out.2.lt; omega)), HRe.out.q, HRe.out.ex, HRe.out.sm⟩
  have HK8 := Lib.hid (And.intro k8 (And.intro b8 r8))
  clear hb7 k8 b8 s8 r8 HS7 HCl HF6
  generalize w7.setCell ⟨w.heap.size, 3, none⟩ (.slice A' x.e.l.length cap') = w8 at *
  have hR := HRp.out w8 HK8.out.2.1 ⟨x.e, A', cap'⟩ rfl HK8.out.2.2
  unfold evV at hR
  have HR := Lib.hid hR
  clear hR HRp
  go_wp2_with (first | (refine wpList_load_row rfl 39 _ rfl w.heap.size rfl 39 _ _ _ HK8.out.1 Try.underlying39 rfl infoE ?_) | (go_at_call 39; (with_reducible (refine HR.out.mono ?_)); rintro e w9 ⟨rfl, h9, k9⟩; have HF9 := Lib.hid (And.intro h9 k9); clear h9 k9))
  go_ret2
  exact ⟨rfl, HF9.out⟩
set_option maxRecDepth 100000 in
set_option maxHeartbeats 4000000 in
theorem ins_new (x : Ev) (now : Nat) {w : World} {h : Nat} {K : Ly} {d : Sd} (H : Sh w h K d) (hx : Re K.X w x) (hd : ¬ x.e.ex ≤ now) (hs : slotOf d.P.c x.e.q = none) :
    Calls Try.prog 19 #[.pointer (some ⟨h, 0, none⟩), evV x, .int .u64 (now : Nat)] w fun e w' => ∃ A cap, e = .returned (.tuple #[.slice A (roomS d now).2.length cap, .int .i64 0]) ∧ Sl qf w' A cap (roomS d now).2 ∧ Nw w.heap.size A ∧ Sh w' h K (putS (roomS d now).1 x.e) ∧ Ch K.X w w' := by
  rw [evV_eq]
  obtain ⟨M, hp, v⟩ := H.ex
  have hb := (Below.refl w.heap.size w).alloc (Nat.le_refl _) (Obj.cells (evL x).toArray 39)
  have HRo := Lib.hid (room_any (v.low hb))
  rw [pure_len hp] at HRo
  have n0 : ((d.P.c.length : Int) == 0) = false := by have := H.ok.ok.n1; rw [beq_eq_false_iff_ne]; omega
  have n1 : d.P.c.length ≠ 0 := by have := H.ok.ok.n1; omega
  have HL := Lib.hid (fun W => live_any x.e.ex now W)
  have HB := Lib.hid hb
  have HX := Lib.hid (blk_new_eq w 39 (evL x).toArray)
  have hl : decide (now < x.e.ex) = true := by simp; omega
  have hl2 : now < x.e.ex := by omega
  have HC := Lib.hid (find_none x.e.q hx.q (v.low hb) hs)
  unfold qV at HC
  have HNX := Lib.hid (fun (i : Nat) (hi : w.heap.size ≤ i) => v.notX hi)
  have HRe := Lib.hid hx
  have HRm := Lib.hid (fun W hb => room_all (H.low (w' := W) hb) now)
  obtain ⟨r1, r2, r3, r4⟩ := roomS_ok H.ok now
  obtain ⟨G, HG⟩ : ∃ G, Hid (roomS d now = G) := ⟨_, Lib.hid rfl⟩
  have r5 := r4 _ hs
  simp only [HG.out] at HRm r1 r2 r3 r5 ⊢
  have HAd := Lib.hid (fun (w8 : World) (H8 : Sh w8 h K G.1) (x' : Ev) (hx' : x'.e = x.e) (r8 : Re K.X w8 x') => (show Calls Try.prog 41 #[.pointer (some ⟨h, 0, none⟩), evV x'] w8 (fun e w9 => e = .returned (.tuple #[]) ∧ Sh w9 h K (putS G.1 x.e) ∧ Ch K.X w8 w9) from by
    obtain ⟨M8, p8, v8⟩ := H8.ex
    obtain ⟨i, hi⟩ := Option.isSome_iff_exists.1 r3
    have hiM : firstC M8.c = some i := by rw [pure_first p8]; exact hi
    obtain ⟨i1, i2, i3⟩ := first_of hi
    have hl64 : G.1.l.length < 100000 := by have := ti_le H8.ok.ti; have := H8.ok.ok.n64; omega
    have hN64 : cnt G.1.P.c < 1000 := by have := cnt_le G.1.P.c; have := H8.ok.ok.n64; omega
    refine (add_any x' v8 r8 hl64 hN64 hiM).mono ?_
    rintro e w9 ⟨he, v9, hc9⟩
    have hn : ∀ j, j < G.1.P.c.length → us G.1.P.c j = true → qAt G.1.P.c j = x.e.q → j = i := fun j hj uj hq => absurd hq (slot_none.1 r5 j hj uj)
    have hps := pure_set p8 i ⟨x', true, false⟩
    rw [show (Ce.map Ev.e ⟨x', true, false⟩ : Ce En) = ⟨x.e, true, false⟩ by show (⟨x'.e, true, false⟩ : Ce En) = _; rw [hx']] at hps
    have hput : putS G.1 x.e = storeS G.1 i x.e false := by unfold putS; rw [hi]
    rw [hput]
    refine ⟨he, ⟨storeS_ok H8.ok i1 x.e false hn, _, hps, v9.fun (fun q => ?_) ?_ ?_⟩, hc9⟩
    · show (if q = x'.e.q then some i else slotOf G.1.P.c q) = slotOf (G.1.P.c.set i ⟨x.e, true, false⟩) q
      rw [slot_put H8.ok.uq i1 (e := ⟨x.e, true, false⟩) rfl hn (fun e => by rw [i2] at e; cases e), hx']
    · show (if (slotOf G.1.P.c x'.e.q).isSome then cnt G.1.P.c else cnt G.1.P.c + 1) = cnt (G.1.P.c.set i ⟨x.e, true, false⟩)
      rw [hx']
      exact store_count H8.ok.uq i1 x.e false (.inr ⟨i2, r5⟩)
    · show W.setL G.1.l i x'.e.ex = W.setL G.1.l i x.e.ex
      rw [hx']))
  clear v hp H hb hd hs hx r1 r2 r3 r4 r5
  generalize d.P.c.length = n at *
  go_enter Try.func19, Try.ntmps19
  go_upto_region 1 with (fail)
  unfold evL at HB HX HRo HC
  generalize w.alloc (Obj.cells #[.string x.e.q.n, .int .u16 (x.e.q.k : Nat), .int .u16 (x.e.q.c : Nat), .slice x.A x.e.l.length x.cap, .int .i64 x.e.rc, .int .i64 x.e.rk, .int .u64 (x.e.ex : Nat)] 39) = w1 at *
  obtain ⟨e0, e1, e2, e3, e4, e5, e6⟩ := e_cells (x := x) HX.out
  go_upto_region 6 with (first | (refine wpList_store_row rfl 39 _ _ rfl w2.heap.size _ rfl rfl 39 _ HNw.out (infoEa (default : Ev)) rfl (evL_one (default : Ev)) ?_) | (go_at_call 17; (with_reducible (refine HRo.out.mono ?_)); rintro e w3 ⟨rfl, rfl⟩) | (go_at_call 35; (with_reducible (refine (HL.out _).mono ?_)); rintro e w4 ⟨rfl, rfl⟩) | (go_at_call 36; (with_reducible (refine HC.out.mono ?_)); rintro e w2 ⟨rfl, hb2⟩; have HB2 := Lib.hid hb2; have HNw := Lib.hid (Blk.new w2 39 zE); unfold zE at HNw; clear hb2))
  obtain ⟨k3, b3⟩ := box_of w2 (default : Ev)
  have b23 := HB2.out.trans (b3.mono HB2.out.size)
  have HF := Lib.hid (And.intro (HB.out.trans (b23.mono HB.out.size)) (And.intro k3 (HX.out.eq (b23.block _ HX.out.lt))))
  unfold zE at HF
  clear k3 b3 b23 HNw HB2 HC HX HB e0 e1 e2 e3 e4 e5 e6
  generalize (w2.alloc (Obj.cells #[.string ⟨#[]⟩, .int .u16 0, .int .u16 0, .slice none 0 0, .int .i64 0, .int .i64 0, .int .u64 0] 39)).setRow w2.heap.size (evL (default : Ev)).toArray = w5 at *
  generalize w2.heap.size = r at *
  obtain ⟨e0, e1, e2, e3, e4, e5, e6⟩ := e_cells (x := x) HF.out.2.2
  go_upto_region 8 with (fail)
  have HF6 := Lib.hid (And.intro HF.out.1 HF.out.2.2)
  obtain ⟨w6, hw6⟩ : ∃ w6 : World, w6 = w5 := ⟨_, rfl⟩
  rw [← hw6] at HF6 ⊢
  clear e0 e1 e2 e3 e4 e5 e6 HF hw6
  have HE3 := Lib.hid ((e_cells (x := x) HF6.out.2).2.2.2.1)
  have HCl := Lib.hid (clone_any x.A x.cap x.e.l HRe.out.sm w6 (HRe.out.low HF6.out.1).sl)
  have e3 := HE3.out
  go_upto_region 9 with (go_at_call 38; (with_reducible (refine HCl.out.mono ?_)); rintro e w7 ⟨A', cap', rfl, sl7, nw7, hb7⟩; have HS7 := Lib.hid (And.intro sl7 (And.intro nw7 hb7)); have g3 := (HF6.out.2.eq (hb7.block _ HF6.out.2.lt)).frozen 3; have d3 := (hb7.cell (p := ⟨w.heap.size, 3, none⟩) HF6.out.2.lt).trans HE3.out; clear sl7 nw7 hb7)
  clear e3 g3 d3 HE3
  have hb7 := HS7.out.2.2
  have k8 : Blk (w7.setCell ⟨w.heap.size, 3, none⟩ (.slice A' x.e.l.length cap')) w.heap.size 39 (evL ⟨x.e, A', cap'⟩).toArray := (HF6.out.2.eq (hb7.block _ HF6.out.2.lt)).set_ 3 (.slice A' x.e.l.length cap')
  have b8 : Below w.heap.size w (w7.setCell ⟨w.heap.size, 3, none⟩ (.slice A' x.e.l.length cap')) := (HF6.out.1.trans (hb7.mono HF6.out.1.size)).setCell (p := ⟨w.heap.size, 3, none⟩) (Nat.le_refl _) _
  have s8 : Sl rf (w7.setCell ⟨w.heap.size, 3, none⟩ (.slice A' x.e.l.length cap')) A' cap' x.e.l := by
    refine HS7.out.1.ch (X := fun i => i = w.heap.size) ⟨rfl, rfl, rfl, by simp, fun i _ hi => Below.heap_setCell w7 ⟨w.heap.size, 3, none⟩ _ i hi⟩ (fun b off hb _ e => ?_)
    have h1 := HS7.out.2.1 b off hb
    have h2 := HF6.out.2.lt
    omega
  have r8 : Re K.X (w7.setCell ⟨w.heap.size, 3, none⟩ (.slice A' x.e.l.length cap')) ⟨x.e, A', cap'⟩ := ⟨s8, (fun b off e _ => HNX.out b (by have h1 := HS7.out.2.1 b off e; have h2 := HF6.out.2.lt; omega)), HRe.out.q, HRe.out.ex, HRe.out.sm⟩
  have HK8 := Lib.hid (And.intro k8 (And.intro b8 r8))
  clear hb7 k8 b8 s8 r8 HS7 HCl HF6
  generalize w7.setCell ⟨w.heap.size, 3, none⟩ (.slice A' x.e.l.length cap') = w8 at *
  go_upto_region 13 with (go_at_call 40; (with_reducible (refine (HRm.out _ HK8.out.2.1).mono ?_)); rintro e w9 ⟨A9, c9, rfl, s9, n9, h9, k9⟩; have HF9 := Lib.hid (And.intro s9 (And.intro n9 (And.intro h9 k9))); clear s9 n9 h9 k9)
  have k9 := HF9.out.2.2.2
  have hk9 := HK8.out.1.ch k9 (HNX.out _ (Nat.le_refl _))
  have hR := HAd.out w9 HF9.out.2.2.1 ⟨x.e, A', cap'⟩ rfl (HK8.out.2.2.ch k9)
  unfold evV at hR
  have HR := Lib.hid hR
  have HK9 := Lib.hid hk9
  clear hR HAd k9 hk9
  go_wp2_with (first | (refine wpList_load_row rfl 39 _ rfl w.heap.size rfl 39 _ _ _ HK9.out Try.underlying39 rfl infoE ?_) | (go_at_call 41; (with_reducible (refine HR.out.mono ?_)); rintro e w10 ⟨rfl, h10, k10⟩; have HF10 := Lib.hid (And.intro h10 k10); clear h10 k10))
  have hnw : Nw w.heap.size A9 := fun b off e => Nat.le_trans HK8.out.2.1.size (HF9.out.2.1 b off e)
  have HFin := Lib.hid (And.intro (HF9.out.1.ch HF10.out.2 (fun b off e _ => HNX.out b (hnw b off e))) (And.intro hnw (And.intro HF10.out.1 ((Ch.bel HK8.out.2.1).trans (HF9.out.2.2.2.trans HF10.out.2)))))
  clear hnw
  go_ret2
  exact ⟨A9, c9, rfl, HFin.out⟩
end Go.Proofs.Ytjjanogfcfapcaa
