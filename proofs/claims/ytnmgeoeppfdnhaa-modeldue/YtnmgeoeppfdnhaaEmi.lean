/- The program's model: Lookup (written by tools/gen_emi.py). -/
import Derived.Test.YtnmgeoeppfdnhaaEmh
namespace Go.Proofs.Ytnmgeoeppfdnhaa
open Go.RowKit
set_option linter.unusedVariables false
set_option linter.unusedSimpArgs false

set_option maxRecDepth 100000 in
set_option maxHeartbeats 4000000 in
theorem look_gf (hv : Value) (x : Ev) (q : Qu) (now : Nat) (w : World) (hC : Calls Try.prog 28 #[hv, qV q] ((w.alloc (.cells (qf q).toArray 25)).alloc (.cells zE 35)) fun e w' => e = .returned (.tuple #[evV x, .bool false]) ∧ Below ((w.alloc (.cells (qf q).toArray 25)).alloc (.cells zE 35)).heap.size ((w.alloc (.cells (qf q).toArray 25)).alloc (.cells zE 35)) w') :
    Calls Try.prog 17 #[hv, qV q, .int .u64 (now : Nat)] w fun e w' => e = .returned (.tuple #[evV default, .bool false]) ∧ Below w.heap.size w w' := by
  have hF := fi_of w q
  rw [evV_eq] at hC
  have HC := Lib.hid hC
  have HF := Lib.hid hF
  have HL := Lib.hid (fun W => live_any x.e.ex now W)
  unfold qV at HC ⊢
  unfold zE qf at HC HF
  clear hC hF
  go_enter Try.func17, Try.ntmps17
  go_upto_region 1 with (fail)
  generalize (w.alloc (Obj.cells #[.string q.n, .int .u16 (q.k : Nat), .int .u16 (q.c : Nat)] 25)).alloc (Obj.cells #[.string ⟨#[]⟩, .int .u16 0, .int .u16 0, .slice none 0 0, .int .i64 0, .int .i64 0, .int .u64 0] 35) = w1 at *
  obtain ⟨b0, b1, b2⟩ := q_cells (q := q) HF.out.bq
  go_upto_region 2 with (first | (refine wpList_store_row rfl 35 _ _ rfl (w2.heap.size) (evL x).toArray rfl rfl 35 _ HNw.out (infoEa _) rfl (evL_one _) ?_) | (go_at_call 28; (with_reducible (refine (HC.out).mono ?_)); rintro e w2 ⟨rfl, hb2⟩; have HB2 := Lib.hid hb2; have HNw := Lib.hid (Blk.new w2 35 zE); unfold zE at HNw; clear hb2))
  clear b0 b1 b2
  obtain ⟨k3, b3⟩ := box_of w2 x
  have b23 := HB2.out.trans (b3.mono HB2.out.size)
  have HF3 := Lib.hid (And.intro (HF.out.br.eq (b23.block _ HF.out.br.lt)) (And.intro (HF.out.b.trans (b23.mono HF.out.b.size)) (And.intro k3 (show w.heap.size + 1 < w2.heap.size from Nat.lt_of_lt_of_le HF.out.br.lt HB2.out.size))))
  unfold zE at HF3
  clear k3 b3 b23 HNw HF HB2 HC
  generalize (w2.alloc (Obj.cells #[.string ⟨#[]⟩, .int .u16 0, .int .u16 0, .slice none 0 0, .int .i64 0, .int .i64 0, .int .u64 0] 35)).setRow w2.heap.size (evL x).toArray = w3 at *
  generalize w2.heap.size = r at *
  go_upto_region 3 with (fail)
  go_wp2_with ((refine wpList_store_row rfl 35 _ _ rfl (w.heap.size + 1) _ rfl rfl 35 _ HF3.out.1 infoE rfl (evL_one default) ?_))
  exact ret_e2 (evL default).toArray rfl rfl rfl rfl rfl (setRow_heap _ _ _ _ _ _ HF3.out.1) ⟨rfl, setRow_below HF3.out.2.1 (by omega) _⟩
set_option maxRecDepth 100000 in
set_option maxHeartbeats 4000000 in
theorem look_gt (hv : Value) (x : Ev) (q : Qu) (now : Nat) (w : World) (hl : ¬ now < x.e.ex) (hC : Calls Try.prog 28 #[hv, qV q] ((w.alloc (.cells (qf q).toArray 25)).alloc (.cells zE 35)) fun e w' => e = .returned (.tuple #[evV x, .bool true]) ∧ Below ((w.alloc (.cells (qf q).toArray 25)).alloc (.cells zE 35)).heap.size ((w.alloc (.cells (qf q).toArray 25)).alloc (.cells zE 35)) w') :
    Calls Try.prog 17 #[hv, qV q, .int .u64 (now : Nat)] w fun e w' => e = .returned (.tuple #[evV default, .bool false]) ∧ Below w.heap.size w w' := by
  have hF := fi_of w q
  rw [evV_eq] at hC
  have HC := Lib.hid hC
  have HF := Lib.hid hF
  have HL := Lib.hid (fun W => live_any x.e.ex now W)
  unfold qV at HC ⊢
  unfold zE qf at HC HF
  clear hC hF
  have hd : decide (now < x.e.ex) = false := by simpa using hl
  rw [hd] at HL
  clear hl hd
  go_enter Try.func17, Try.ntmps17
  go_upto_region 1 with (fail)
  generalize (w.alloc (Obj.cells #[.string q.n, .int .u16 (q.k : Nat), .int .u16 (q.c : Nat)] 25)).alloc (Obj.cells #[.string ⟨#[]⟩, .int .u16 0, .int .u16 0, .slice none 0 0, .int .i64 0, .int .i64 0, .int .u64 0] 35) = w1 at *
  obtain ⟨b0, b1, b2⟩ := q_cells (q := q) HF.out.bq
  go_upto_region 2 with (first | (refine wpList_store_row rfl 35 _ _ rfl (w2.heap.size) (evL x).toArray rfl rfl 35 _ HNw.out (infoEa _) rfl (evL_one _) ?_) | (go_at_call 28; (with_reducible (refine (HC.out).mono ?_)); rintro e w2 ⟨rfl, hb2⟩; have HB2 := Lib.hid hb2; have HNw := Lib.hid (Blk.new w2 35 zE); unfold zE at HNw; clear hb2))
  clear b0 b1 b2
  obtain ⟨k3, b3⟩ := box_of w2 x
  have b23 := HB2.out.trans (b3.mono HB2.out.size)
  have HF3 := Lib.hid (And.intro (HF.out.br.eq (b23.block _ HF.out.br.lt)) (And.intro (HF.out.b.trans (b23.mono HF.out.b.size)) (And.intro k3 (show w.heap.size + 1 < w2.heap.size from Nat.lt_of_lt_of_le HF.out.br.lt HB2.out.size))))
  unfold zE at HF3
  clear k3 b3 b23 HNw HF HB2 HC
  generalize (w2.alloc (Obj.cells #[.string ⟨#[]⟩, .int .u16 0, .int .u16 0, .slice none 0 0, .int .i64 0, .int .i64 0, .int .u64 0] 35)).setRow w2.heap.size (evL x).toArray = w3 at *
  generalize w2.heap.size = r at *
  obtain ⟨e0, e1, e2, e3, e4, e5, e6⟩ := e_cells HF3.out.2.2.1
  clear e0 e1 e2 e3 e4 e5
  go_upto_region 3 with (go_at_call 29; (with_reducible (refine (HL.out _).mono ?_)); rintro e w4 ⟨rfl, rfl⟩)
  clear e6 HL
  go_wp2_with ((refine wpList_store_row rfl 35 _ _ rfl (w.heap.size + 1) _ rfl rfl 35 _ HF3.out.1 infoE rfl (evL_one default) ?_))
  exact ret_e2 (evL default).toArray rfl rfl rfl rfl rfl (setRow_heap _ _ _ _ _ _ HF3.out.1) ⟨rfl, setRow_below HF3.out.2.1 (by omega) _⟩
set_option maxRecDepth 100000 in
set_option maxHeartbeats 4000000 in
theorem look_gl (hv : Value) (x : Ev) (q : Qu) (now : Nat) (w : World) (hl : now < x.e.ex) {X : Nat → Prop} (hR : Re X w x) (hC : Calls Try.prog 28 #[hv, qV q] ((w.alloc (.cells (qf q).toArray 25)).alloc (.cells zE 35)) fun e w' => e = .returned (.tuple #[evV x, .bool true]) ∧ Below ((w.alloc (.cells (qf q).toArray 25)).alloc (.cells zE 35)).heap.size ((w.alloc (.cells (qf q).toArray 25)).alloc (.cells zE 35)) w') :
    Calls Try.prog 17 #[hv, qV q, .int .u64 (now : Nat)] w fun e w' => ∃ A cap, e = .returned (.tuple #[evV ⟨x.e, A, cap⟩, .bool true]) ∧ Sl rf w' A cap x.e.l ∧ Nw w.heap.size A ∧ Below w.heap.size w w' := by
  have hF := fi_of w q
  rw [evV_eq] at hC
  have HC := Lib.hid hC
  have HF := Lib.hid hF
  have HL := Lib.hid (fun W => live_any x.e.ex now W)
  unfold qV at HC ⊢
  unfold zE qf at HC HF
  clear hC hF
  have HRe := Lib.hid hR
  have hd : decide (now < x.e.ex) = true := by simpa using hl
  rw [hd] at HL
  clear hl hd hR
  go_enter Try.func17, Try.ntmps17
  go_upto_region 1 with (fail)
  generalize (w.alloc (Obj.cells #[.string q.n, .int .u16 (q.k : Nat), .int .u16 (q.c : Nat)] 25)).alloc (Obj.cells #[.string ⟨#[]⟩, .int .u16 0, .int .u16 0, .slice none 0 0, .int .i64 0, .int .i64 0, .int .u64 0] 35) = w1 at *
  obtain ⟨b0, b1, b2⟩ := q_cells (q := q) HF.out.bq
  go_upto_region 2 with (first | (refine wpList_store_row rfl 35 _ _ rfl (w2.heap.size) (evL x).toArray rfl rfl 35 _ HNw.out (infoEa _) rfl (evL_one _) ?_) | (go_at_call 28; (with_reducible (refine (HC.out).mono ?_)); rintro e w2 ⟨rfl, hb2⟩; have HB2 := Lib.hid hb2; have HNw := Lib.hid (Blk.new w2 35 zE); unfold zE at HNw; clear hb2))
  clear b0 b1 b2
  obtain ⟨k3, b3⟩ := box_of w2 x
  have b23 := HB2.out.trans (b3.mono HB2.out.size)
  have HF3 := Lib.hid (And.intro (HF.out.br.eq (b23.block _ HF.out.br.lt)) (And.intro (HF.out.b.trans (b23.mono HF.out.b.size)) (And.intro k3 (show w.heap.size + 1 < w2.heap.size from Nat.lt_of_lt_of_le HF.out.br.lt HB2.out.size))))
  unfold zE at HF3
  clear k3 b3 b23 HNw HF HB2 HC
  generalize (w2.alloc (Obj.cells #[.string ⟨#[]⟩, .int .u16 0, .int .u16 0, .slice none 0 0, .int .i64 0, .int .i64 0, .int .u64 0] 35)).setRow w2.heap.size (evL x).toArray = w3 at *
  generalize w2.heap.size = r at *
  obtain ⟨e0, e1, e2, e3, e4, e5, e6⟩ := e_cells HF3.out.2.2.1
  clear e0 e1 e2 e3 e4 e5
  go_upto_region 4 with (go_at_call 29; (with_reducible (refine (HL.out _).mono ?_)); rintro e w4 ⟨rfl, rfl⟩)
  clear e6 HL
  have HE3 := Lib.hid ((e_cells HF3.out.2.2.1).2.2.2.1)
  have HCl := Lib.hid (clone_any x.A x.cap x.e.l HRe.out.sm w4 (HRe.out.low HF3.out.2.1).sl)
  have e3 := HE3.out
  go_upto_region 5 with (go_at_call 30; (with_reducible (refine (HCl.out).mono ?_)); rintro e w6 ⟨A', cap', rfl, sl6, nw6, hb6⟩; have HS6 := Lib.hid (And.intro sl6 (And.intro nw6 hb6)); have g3 := (HF3.out.2.2.1.eq (hb6.block _ HF3.out.2.2.1.lt)).frozen 3; have d3 := (hb6.cell (p := ⟨r, 3, none⟩) HF3.out.2.2.1.lt).trans HE3.out; clear sl6 nw6 hb6)
  clear e3 g3 d3 HE3
  have hb6 := HS6.out.2.2
  have k7 := (HF3.out.2.2.1.eq (hb6.block _ HF3.out.2.2.1.lt)).set_ 3 (.slice A' x.e.l.length cap')
  rw [evL_put] at k7
  have hr := HF3.out.2.2.2
  have r7 := (HF3.out.1.eq (hb6.block _ HF3.out.1.lt)).far ⟨r, 3, none⟩ (.slice A' x.e.l.length cap') (by simp only; omega)
  have b7 : Below w.heap.size w (w6.setCell ⟨r, 3, none⟩ (.slice A' x.e.l.length cap')) := (HF3.out.2.1.trans (hb6.mono HF3.out.2.1.size)).setCell (p := ⟨r, 3, none⟩) (by simp only; omega) _
  have s7 : Sl rf (w6.setCell ⟨r, 3, none⟩ (.slice A' x.e.l.length cap')) A' cap' x.e.l := by
    refine HS6.out.1.ch (X := fun i => i = r) ⟨rfl, rfl, rfl, by simp, fun i _ hi => Below.heap_setCell w6 ⟨r, 3, none⟩ _ i hi⟩ (fun b off hb _ e => ?_)
    have h1 := HS6.out.2.1 b off hb
    have h2 := HF3.out.2.2.1.lt
    omega
  have HK7 := Lib.hid (And.intro k7 (And.intro r7 (And.intro b7 s7)))
  have HN := Lib.hid (show Nw w4.heap.size A' from HS6.out.2.1)
  clear hb6 k7 r7 b7 s7 HS6 HCl hr
  generalize w6.setCell ⟨r, 3, none⟩ (.slice A' x.e.l.length cap') = w7 at *
  go_wp2_with (first | (refine wpList_load_row rfl 35 _ rfl (r) rfl 35 _ _ _ HK7.out.1 Try.underlying35 rfl infoE ?_) | (refine wpList_store_row rfl 35 _ _ rfl (w.heap.size + 1) (evL ⟨x.e, A', cap'⟩).toArray rfl rfl 35 _ HK7.out.2.1 (infoEa _) rfl (evL_one _) ?_))
  have b8 := setRow_below (g := w.heap.size + 1) HK7.out.2.2.1 (by omega) (evL ⟨x.e, A', cap'⟩).toArray
  have s8 : Sl rf (w7.setRow (w.heap.size + 1) (evL ⟨x.e, A', cap'⟩).toArray) A' cap' x.e.l := by
    refine HK7.out.2.2.2.ch (X := fun i => i = w.heap.size + 1) ⟨rfl, rfl, rfl, by simp, fun i _ hi => setRow_other w7 _ i _ hi⟩ (fun b off hb _ e => ?_)
    have h1 := HN.out b off hb
    have h2 := HF3.out.1.lt
    omega
  exact ret_e2 (evL ⟨x.e, A', cap'⟩).toArray rfl rfl rfl rfl rfl (setRow_heap _ _ _ _ _ _ HK7.out.2.1) ⟨A', cap', rfl, s8, (fun b off hb => Nat.le_trans HF3.out.2.1.size (HN.out b off hb)), b8⟩
/-- What is told of a question. -/
theorem look_nil (q : Qu) (now : Nat) (w : World) : Calls Try.prog 17 #[.pointer none, qV q, .int .u64 (now : Nat)] w fun e w' => e = .returned (.tuple #[evV default, .bool false]) ∧ Below w.heap.size w w' := look_gf _ default q now w (find_nil q _)
theorem Sl.default (w : World) : Sl rf w (default : Ev).A (default : Ev).cap (default : Ev).e.l := Sl.nil rf w
theorem look_any (q : Qu) (hq : q.Fine) (now : Nat) {w : World} {h p : Nat} {room : Int} {m : List En} {f : Qu → Option Ev} (v : Mh w h p room m f) :
    Calls Try.prog 17 #[.pointer (some ⟨h, 0, none⟩), qV q, .int .u64 (now : Nat)] w fun e w' => ∃ A cap, e = .returned (.tuple #[evV ⟨(lookL m q now).1, A, cap⟩, .bool (lookL m q now).2]) ∧ Sl rf w' A cap (lookL m q now).1.l ∧ Nw w.heap.size A ∧ Below w.heap.size w w' := by
  have hC := find_any q hq (v.low (fi_of w q).b)
  unfold lookL
  cases hf : f q with
  | none =>
    rw [hf] at hC
    rw [v.is_none hf]
    exact (look_gf _ _ q now w hC).mono (by
      rintro e w' ⟨he, hb⟩
      exact ⟨none, 0, he, Sl.nil rf w', (fun b off e => by cases e), hb⟩)
  | some x =>
    rw [hf] at hC
    rw [v.is_some hf]
    by_cases hl : now < x.e.ex
    · simp only [if_pos hl]
      exact look_gl _ x q now w hl (v.re q x hf) hC
    · simp only [if_neg hl]
      exact (look_gt _ x q now w hl hC).mono (by
        rintro e w' ⟨he, hb⟩
        exact ⟨none, 0, he, Sl.nil rf w', (fun b off e => by cases e), hb⟩)
end Go.Proofs.Ytnmgeoeppfdnhaa
