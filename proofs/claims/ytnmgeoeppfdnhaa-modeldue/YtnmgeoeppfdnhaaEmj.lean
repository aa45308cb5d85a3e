/- The program's model: Insert (written by tools/gen_emj.py). -/
import Derived.Test.YtnmgeoeppfdnhaaEmi
namespace Go.Proofs.Ytnmgeoeppfdnhaa
open Go.RowKit
set_option linter.unusedVariables false
set_option linter.unusedSimpArgs false

theorem ins_some {m : List En} {room : Int} {e : En} {now : Nat} (h : ¬ e.ex ≤ now) {k : Nat} (hk : findL m e.q = some k) : insL m room e now = if btE (m.getD k default) e now then (m.set k e, 0) else (m, 7) := by
  unfold insL
  rw [if_neg h, hk]
theorem ins_none {m : List En} {room : Int} {e : En} {now : Nat} (h : ¬ e.ex ≤ now) (hk : findL m e.q = none) : insL m room e now = if room ≤ (m.length : Int) then (m, 5) else (m ++ [e], 0) := by
  unfold insL
  rw [if_neg h, hk]
theorem ins_late {m : List En} {room : Int} {e : En} {now : Nat} (h : e.ex ≤ now) : insL m room e now = (m, 4) := by
  unfold insL
  rw [if_pos h]
theorem ins_count {m : List En} {room : Int} {e : En} {now : Nat} (h : (insL m room e now).2 = 0) : (if (entL m e.q).isSome then m.length else m.length + 1) = (insL m room e now).1.length := by
  by_cases hl : e.ex ≤ now
  · rw [ins_late hl] at h; cases h
  · rw [findL_ent]
    cases hk : findL m e.q with
    | none =>
      rw [ins_none hl hk] at h ⊢
      split at h
      · cases h
      · rename_i h2; rw [if_neg h2]; simp
    | some k =>
      rw [ins_some hl hk] at h ⊢
      split at h
      · rename_i h2; rw [if_pos h2]; simp
      · cases h
/-- The way of an answer that takes nothing. -/
def InsNo (hv : Value) (x : Ev) (now : Nat) (w : World) (c : Int) : Prop := Calls Try.prog 18 #[hv, evV x, .int .u64 (now : Nat)] w fun e w' => e = .returned (.int .i64 c) ∧ Below w.heap.size w w'
set_option maxRecDepth 100000 in
set_option maxHeartbeats 4000000 in
theorem ins_nil (x : Ev) (now : Nat) (w : World) : InsNo (.pointer none) x now w 1 := by
  unfold InsNo
  rw [evV_eq]
  have HX := Lib.hid (blk_new_eq w 35 (evL x).toArray)
  have HB := Lib.hid ((Below.refl w.heap.size w).alloc (Nat.le_refl _) (Obj.cells (evL x).toArray 35))
  have HL := Lib.hid (fun W => live_any x.e.ex now W)
  go_enter Try.func18, Try.ntmps18
  go_upto_region 1 with (fail)
  unfold evL at HB HX
  generalize w.alloc (Obj.cells #[.string x.e.q.n, .int .u16 (x.e.q.k : Nat), .int .u16 (x.e.q.c : Nat), .slice x.A x.e.l.length x.cap, .int .i64 x.e.rc, .int .i64 x.e.rk, .int .u64 (x.e.ex : Nat)] 35) = w1 at *
  go_wp2_with fail
  go_ret
  exact ⟨rfl, HB.out⟩
set_option maxRecDepth 100000 in
set_option maxHeartbeats 4000000 in
theorem ins_l (h : Nat) (x : Ev) (now : Nat) (w : World) (hd : x.e.ex ≤ now) : InsNo (.pointer (some ⟨h, 0, none⟩)) x now w 4 := by
  unfold InsNo
  rw [evV_eq]
  have HX := Lib.hid (blk_new_eq w 35 (evL x).toArray)
  have HB := Lib.hid ((Below.refl w.heap.size w).alloc (Nat.le_refl _) (Obj.cells (evL x).toArray 35))
  have HL := Lib.hid (fun W => live_any x.e.ex now W)
  have hl : decide (now < x.e.ex) = false := by simp; omega
  rw [hl] at HL
  clear hl hd
  go_enter Try.func18, Try.ntmps18
  go_upto_region 1 with (fail)
  unfold evL at HB HX
  generalize w.alloc (Obj.cells #[.string x.e.q.n, .int .u16 (x.e.q.k : Nat), .int .u16 (x.e.q.c : Nat), .slice x.A x.e.l.length x.cap, .int .i64 x.e.rc, .int .i64 x.e.rk, .int .u64 (x.e.ex : Nat)] 35) = w1 at *
  obtain ⟨e0, e1, e2, e3, e4, e5, e6⟩ := e_cells (x := x) HX.out
  go_wp2_with ((go_at_call 29; (with_reducible (refine (HL.out _).mono ?_)); rintro e w4 ⟨rfl, rfl⟩))
  go_ret
  exact ⟨rfl, HB.out⟩
set_option maxRecDepth 100000 in
set_option maxHeartbeats 4000000 in
theorem ins_w (h : Nat) (x y : Ev) (now : Nat) (w : World) (hd : ¬ x.e.ex ≤ now) (hbt : btE y.e x.e now = false) (hC : Calls Try.prog 28 #[.pointer (some ⟨h, 0, none⟩), qV x.e.q] (w.alloc (Obj.cells (evL x).toArray 35)) fun e w' => e = .returned (.tuple #[evV y, .bool true]) ∧ Below (w.alloc (Obj.cells (evL x).toArray 35)).heap.size (w.alloc (Obj.cells (evL x).toArray 35)) w') : InsNo (.pointer (some ⟨h, 0, none⟩)) x now w 7 := by
  unfold InsNo
  rw [evV_eq]
  have HBt := Lib.hid (fun W => beats_any y x now W)
  rw [hbt] at HBt
  rw [evV_eq, evV_eq] at HBt
  clear hbt
  have HX := Lib.hid (blk_new_eq w 35 (evL x).toArray)
  have HB := Lib.hid ((Below.refl w.heap.size w).alloc (Nat.le_refl _) (Obj.cells (evL x).toArray 35))
  have HL := Lib.hid (fun W => live_any x.e.ex now W)
  have hl : decide (now < x.e.ex) = true := by simp; omega
  rw [hl] at HL
  clear hl hd
  rw [evV_eq] at hC
  unfold qV at hC
  have HC := Lib.hid hC
  clear hC
  go_enter Try.func18, Try.ntmps18
  go_upto_region 1 with (fail)
  unfold evL at HB HX HC
  generalize w.alloc (Obj.cells #[.string x.e.q.n, .int .u16 (x.e.q.k : Nat), .int .u16 (x.e.q.c : Nat), .slice x.A x.e.l.length x.cap, .int .i64 x.e.rc, .int .i64 x.e.rk, .int .u64 (x.e.ex : Nat)] 35) = w1 at *
  obtain ⟨e0, e1, e2, e3, e4, e5, e6⟩ := e_cells (x := x) HX.out
  go_upto_region 6 with (first | (refine wpList_store_row rfl 35 _ _ rfl (w2.heap.size) (evL y).toArray rfl rfl 35 _ HNw.out (infoEa _) rfl (evL_one _) ?_) | (go_at_call 29; (with_reducible (refine (HL.out _).mono ?_)); rintro e w4 ⟨rfl, rfl⟩) | (go_at_call 28; (with_reducible (refine (HC.out).mono ?_)); rintro e w2 ⟨rfl, hb2⟩; have HB2 := Lib.hid hb2; have HNw := Lib.hid (Blk.new w2 35 zE); unfold zE at HNw; clear hb2))
  obtain ⟨k3, b3⟩ := box_of w2 y
  have b23 := HB2.out.trans (b3.mono HB2.out.size)
  have HF := Lib.hid (And.intro (HB.out.trans (b23.mono HB.out.size)) (And.intro k3 (HX.out.eq (b23.block _ HX.out.lt))))
  unfold zE at HF
  clear k3 b3 b23 HNw HB2 HC HX HB HL e0 e1 e2 e3 e4 e5 e6
  generalize (w2.alloc (Obj.cells #[.string ⟨#[]⟩, .int .u16 0, .int .u16 0, .slice none 0 0, .int .i64 0, .int .i64 0, .int .u64 0] 35)).setRow w2.heap.size (evL y).toArray = w5 at *
  generalize w2.heap.size = r at *
  obtain ⟨e0, e1, e2, e3, e4, e5, e6⟩ := e_cells (x := x) HF.out.2.2
  obtain ⟨g0, g1, g2, g3, g4, g5, g6⟩ := e_cells (x := y) HF.out.2.1
  go_wp2_with ((go_at_call 31; (with_reducible (refine (HBt.out _).mono ?_)); rintro e w6 ⟨rfl, hb6⟩; have HF6 := Lib.hid (And.intro (HF.out.1.trans (hb6.mono HF.out.1.size)) (HF.out.2.2.eq (hb6.block _ HF.out.2.2.lt))); clear hb6))
  go_ret
  exact ⟨rfl, HF6.out.1⟩
set_option maxRecDepth 100000 in
set_option maxHeartbeats 4000000 in
theorem ins_u (h : Nat) (x y : Ev) (now : Nat) (w : World) (hd : ¬ x.e.ex ≤ now) (hFu : ∀ W, Below w.heap.size w W → Calls Try.prog 11 #[.pointer (some ⟨h, 0, none⟩)] W fun e w' => e = .returned (.bool true) ∧ Below W.heap.size W w') (hC : Calls Try.prog 28 #[.pointer (some ⟨h, 0, none⟩), qV x.e.q] (w.alloc (Obj.cells (evL x).toArray 35)) fun e w' => e = .returned (.tuple #[evV y, .bool false]) ∧ Below (w.alloc (Obj.cells (evL x).toArray 35)).heap.size (w.alloc (Obj.cells (evL x).toArray 35)) w') : InsNo (.pointer (some ⟨h, 0, none⟩)) x now w 5 := by
  unfold InsNo
  rw [evV_eq]
  have HFu := Lib.hid hFu
  clear hFu
  have HX := Lib.hid (blk_new_eq w 35 (evL x).toArray)
  have HB := Lib.hid ((Below.refl w.heap.size w).alloc (Nat.le_refl _) (Obj.cells (evL x).toArray 35))
  have HL := Lib.hid (fun W => live_any x.e.ex now W)
  have hl : decide (now < x.e.ex) = true := by simp; omega
  rw [hl] at HL
  clear hl hd
  rw [evV_eq] at hC
  unfold qV at hC
  have HC := Lib.hid hC
  clear hC
  go_enter Try.func18, Try.ntmps18
  go_upto_region 1 with (fail)
  unfold evL at HB HX HC
  generalize w.alloc (Obj.cells #[.string x.e.q.n, .int .u16 (x.e.q.k : Nat), .int .u16 (x.e.q.c : Nat), .slice x.A x.e.l.length x.cap, .int .i64 x.e.rc, .int .i64 x.e.rk, .int .u64 (x.e.ex : Nat)] 35) = w1 at *
  obtain ⟨e0, e1, e2, e3, e4, e5, e6⟩ := e_cells (x := x) HX.out
  go_upto_region 6 with (first | (refine wpList_store_row rfl 35 _ _ rfl (w2.heap.size) (evL y).toArray rfl rfl 35 _ HNw.out (infoEa _) rfl (evL_one _) ?_) | (go_at_call 29; (with_reducible (refine (HL.out _).mono ?_)); rintro e w4 ⟨rfl, rfl⟩) | (go_at_call 28; (with_reducible (refine (HC.out).mono ?_)); rintro e w2 ⟨rfl, hb2⟩; have HB2 := Lib.hid hb2; have HNw := Lib.hid (Blk.new w2 35 zE); unfold zE at HNw; clear hb2))
  obtain ⟨k3, b3⟩ := box_of w2 y
  have b23 := HB2.out.trans (b3.mono HB2.out.size)
  have HF := Lib.hid (And.intro (HB.out.trans (b23.mono HB.out.size)) (And.intro k3 (HX.out.eq (b23.block _ HX.out.lt))))
  unfold zE at HF
  clear k3 b3 b23 HNw HB2 HC HX HB HL e0 e1 e2 e3 e4 e5 e6
  generalize (w2.alloc (Obj.cells #[.string ⟨#[]⟩, .int .u16 0, .int .u16 0, .slice none 0 0, .int .i64 0, .int .i64 0, .int .u64 0] 35)).setRow w2.heap.size (evL y).toArray = w5 at *
  generalize w2.heap.size = r at *
  go_wp2_with ((go_at_call 11; (with_reducible (refine (HFu.out _ HF.out.1).mono ?_)); rintro e w6 ⟨rfl, hb6⟩; have HF6 := Lib.hid (And.intro (HF.out.1.trans (hb6.mono HF.out.1.size)) (HF.out.2.2.eq (hb6.block _ HF.out.2.2.lt))); clear hb6))
  go_ret
  exact ⟨rfl, HF6.out.1⟩
set_option maxRecDepth 100000 in
set_option maxHeartbeats 4000000 in
theorem ins_r (x y : Ev) (now : Nat) {w : World} {h p : Nat} {room : Int} {m m' : List En} {f : Qu → Option Ev} (hd : ¬ x.e.ex ≤ now) (hm : m.length < 1000) (hR : Re (fun i => i = p) w x) (hbt : btE y.e x.e now = true)
    (hP : ∀ w8 A' cap', Below w.heap.size w w8 → Sl rf w8 A' cap' x.e.l → Nw w.heap.size A' → Mh w8 h p room m f ∧ ∀ w9, Below w8.heap.size w8 w9 → ∀ w10, Em w10 p (if (f x.e.q).isSome then m.length else m.length + 1) (fun q => if q = x.e.q then some ⟨x.e, A', cap'⟩ else f q) → w9.mapTurned w10 p → Mh w10 h p room m' (fun q => if q = x.e.q then some ⟨x.e, A', cap'⟩ else f q) ∧ Ch (fun i => i = p) w w10)
    (hC : Calls Try.prog 28 #[.pointer (some ⟨h, 0, none⟩), qV x.e.q] (w.alloc (Obj.cells (evL x).toArray 35)) fun e w' => e = .returned (.tuple #[evV y, .bool true]) ∧ Below (w.alloc (Obj.cells (evL x).toArray 35)).heap.size (w.alloc (Obj.cells (evL x).toArray 35)) w') :
    Calls Try.prog 18 #[.pointer (some ⟨h, 0, none⟩), evV x, .int .u64 (now : Nat)] w fun e w' => ∃ f', e = .returned (.int .i64 0) ∧ Mh w' h p room m' f' ∧ Ch (fun i => i = p) w w' := by
  rw [evV_eq]
  have HBt := Lib.hid (fun W => beats_any y x now W)
  rw [hbt] at HBt
  rw [evV_eq, evV_eq] at HBt
  clear hbt
  have HX := Lib.hid (blk_new_eq w 35 (evL x).toArray)
  have HB := Lib.hid ((Below.refl w.heap.size w).alloc (Nat.le_refl _) (Obj.cells (evL x).toArray 35))
  have HL := Lib.hid (fun W => live_any x.e.ex now W)
  have hl : decide (now < x.e.ex) = true := by simp; omega
  rw [hl] at HL
  clear hl hd
  rw [evV_eq] at hC
  unfold qV at hC
  have HC := Lib.hid hC
  clear hC
  have HM := Lib.hid hm
  have HRe := Lib.hid hR
  have HPut := Lib.hid hP
  clear hm hR hP
  go_enter Try.func18, Try.ntmps18
  go_upto_region 1 with (fail)
  unfold evL at HB HX HC
  generalize w.alloc (Obj.cells #[.string x.e.q.n, .int .u16 (x.e.q.k : Nat), .int .u16 (x.e.q.c : Nat), .slice x.A x.e.l.length x.cap, .int .i64 x.e.rc, .int .i64 x.e.rk, .int .u64 (x.e.ex : Nat)] 35) = w1 at *
  obtain ⟨e0, e1, e2, e3, e4, e5, e6⟩ := e_cells (x := x) HX.out
  go_upto_region 6 with (first | (refine wpList_store_row rfl 35 _ _ rfl (w2.heap.size) (evL y).toArray rfl rfl 35 _ HNw.out (infoEa _) rfl (evL_one _) ?_) | (go_at_call 29; (with_reducible (refine (HL.out _).mono ?_)); rintro e w4 ⟨rfl, rfl⟩) | (go_at_call 28; (with_reducible (refine (HC.out).mono ?_)); rintro e w2 ⟨rfl, hb2⟩; have HB2 := Lib.hid hb2; have HNw := Lib.hid (Blk.new w2 35 zE); unfold zE at HNw; clear hb2))
  obtain ⟨k3, b3⟩ := box_of w2 y
  have b23 := HB2.out.trans (b3.mono HB2.out.size)
  have HF := Lib.hid (And.intro (HB.out.trans (b23.mono HB.out.size)) (And.intro k3 (HX.out.eq (b23.block _ HX.out.lt))))
  unfold zE at HF
  clear k3 b3 b23 HNw HB2 HC HX HB HL e0 e1 e2 e3 e4 e5 e6
  generalize (w2.alloc (Obj.cells #[.string ⟨#[]⟩, .int .u16 0, .int .u16 0, .slice none 0 0, .int .i64 0, .int .i64 0, .int .u64 0] 35)).setRow w2.heap.size (evL y).toArray = w5 at *
  generalize w2.heap.size = r at *
  obtain ⟨e0, e1, e2, e3, e4, e5, e6⟩ := e_cells (x := x) HF.out.2.2
  obtain ⟨g0, g1, g2, g3, g4, g5, g6⟩ := e_cells (x := y) HF.out.2.1
  go_upto_region 10 with (go_at_call 31; (with_reducible (refine (HBt.out _).mono ?_)); rintro e w6 ⟨rfl, hb6⟩; have HF6 := Lib.hid (And.intro (HF.out.1.trans (hb6.mono HF.out.1.size)) (HF.out.2.2.eq (hb6.block _ HF.out.2.2.lt))); clear hb6)
  clear e0 e1 e2 e3 e4 e5 e6 g0 g1 g2 g3 g4 g5 g6 HF HBt
  have HE3 := Lib.hid ((e_cells (x := x) HF6.out.2).2.2.2.1)
  have HCl := Lib.hid (clone_any x.A x.cap x.e.l HRe.out.sm w6 (HRe.out.low HF6.out.1).sl)
  have e3 := HE3.out
  go_upto_region 11 with (go_at_call 30; (with_reducible (refine (HCl.out).mono ?_)); rintro e w7 ⟨A', cap', rfl, sl7, nw7, hb7⟩; have HS7 := Lib.hid (And.intro sl7 (And.intro nw7 hb7)); have g3 := (HF6.out.2.eq (hb7.block _ HF6.out.2.lt)).frozen 3; have d3 := (hb7.cell (p := ⟨w.heap.size, 3, none⟩) HF6.out.2.lt).trans HE3.out; clear sl7 nw7 hb7)
  clear e3 g3 d3 HE3
  have hb7 := HS7.out.2.2
  have k8 : Blk (w7.setCell ⟨w.heap.size, 3, none⟩ (.slice A' x.e.l.length cap')) w.heap.size 35 (evL ⟨x.e, A', cap'⟩).toArray := (HF6.out.2.eq (hb7.block _ HF6.out.2.lt)).set_ 3 (.slice A' x.e.l.length cap')
  have b8 : Below w.heap.size w (w7.setCell ⟨w.heap.size, 3, none⟩ (.slice A' x.e.l.length cap')) := (HF6.out.1.trans (hb7.mono HF6.out.1.size)).setCell (p := ⟨w.heap.size, 3, none⟩) (Nat.le_refl _) _
  have s8 : Sl rf (w7.setCell ⟨w.heap.size, 3, none⟩ (.slice A' x.e.l.length cap')) A' cap' x.e.l := by
    refine HS7.out.1.ch (X := fun i => i = w.heap.size) ⟨rfl, rfl, rfl, by simp, fun i _ hi => Below.heap_setCell w7 ⟨w.heap.size, 3, none⟩ _ i hi⟩ (fun b off hb _ e => ?_)
    have h1 := HS7.out.2.1 b off hb
    have h2 := HF6.out.2.lt
    omega
  have HK8 := Lib.hid (And.intro k8 (And.intro b8 (And.intro s8 (show Nw w.heap.size A' from fun b off e => Nat.le_trans HF6.out.1.size (HS7.out.2.1 b off e)))))
  clear hb7 k8 b8 s8 HS7 HCl HF6
  generalize w7.setCell ⟨w.heap.size, 3, none⟩ (.slice A' x.e.l.length cap') = w8 at *
  have hD := HPut.out w8 A' cap' HK8.out.2.1 HK8.out.2.2.1 HK8.out.2.2.2
  obtain ⟨c0, c1⟩ := m_cells hD.1.bh
  obtain ⟨e0, e1, e2, e3, e4, e5, e6⟩ := e_cells (x := ⟨x.e, A', cap'⟩) HK8.out.1
  have HD := Lib.hid hD
  clear hD HPut
  go_still_tail 7, (by kernel_rfl)
  change wpList _ _ _ _ _ w8.drew
  have hd := (Below.refl w8.heap.size w8).drew
  clear c0 c1 e0 e1 e2 e3 e4 e5 e6
  have HV9 := Lib.hid (HD.out.1.low hd)
  generalize w8.drew = w9 at *
  go_upto_region 12 with (refine wpList_em_put rfl _ _ _ rfl x.e.q HRe.out.q ⟨x.e, A', cap'⟩ rfl HV9.out.em HM.out rfl rfl ?_; intro w10 he10 ht10)
  have hF := HD.out.2 w9 hd w10 he10 ht10
  have HT := Lib.hid hF
  clear hF he10 ht10
  go_wp2_with fail
  go_ret
  exact ⟨_, rfl, HT.out⟩
set_option maxRecDepth 100000 in
set_option maxHeartbeats 4000000 in
theorem ins_a (x y : Ev) (now : Nat) {w : World} {h p : Nat} {room : Int} {m m' : List En} {f : Qu → Option Ev} (hd : ¬ x.e.ex ≤ now) (hm : m.length < 1000) (hR : Re (fun i => i = p) w x) (hFu : ∀ W, Below w.heap.size w W → Calls Try.prog 11 #[.pointer (some ⟨h, 0, none⟩)] W fun e w' => e = .returned (.bool false) ∧ Below W.heap.size W w')
    (hP : ∀ w8 A' cap', Below w.heap.size w w8 → Sl rf w8 A' cap' x.e.l → Nw w.heap.size A' → Mh w8 h p room m f ∧ ∀ w9, Below w8.heap.size w8 w9 → ∀ w10, Em w10 p (if (f x.e.q).isSome then m.length else m.length + 1) (fun q => if q = x.e.q then some ⟨x.e, A', cap'⟩ else f q) → w9.mapTurned w10 p → Mh w10 h p room m' (fun q => if q = x.e.q then some ⟨x.e, A', cap'⟩ else f q) ∧ Ch (fun i => i = p) w w10)
    (hC : Calls Try.prog 28 #[.pointer (some ⟨h, 0, none⟩), qV x.e.q] (w.alloc (Obj.cells (evL x).toArray 35)) fun e w' => e = .returned (.tuple #[evV y, .bool false]) ∧ Below (w.alloc (Obj.cells (evL x).toArray 35)).heap.size (w.alloc (Obj.cells (evL x).toArray 35)) w') :
    Calls Try.prog 18 #[.pointer (some ⟨h, 0, none⟩), evV x, .int .u64 (now : Nat)] w fun e w' => ∃ f', e = .returned (.int .i64 0) ∧ Mh w' h p room m' f' ∧ Ch (fun i => i = p) w w' := by
  rw [evV_eq]
  have HFu := Lib.hid hFu
  clear hFu
  have HX := Lib.hid (blk_new_eq w 35 (evL x).toArray)
  have HB := Lib.hid ((Below.refl w.heap.size w).alloc (Nat.le_refl _) (Obj.cells (evL x).toArray 35))
  have HL := Lib.hid (fun W => live_any x.e.ex now W)
  have hl : decide (now < x.e.ex) = true := by simp; omega
  rw [hl] at HL
  clear hl hd
  rw [evV_eq] at hC
  unfold qV at hC
  have HC := Lib.hid hC
  clear hC
  have HM := Lib.hid hm
  have HRe := Lib.hid hR
  have HPut := Lib.hid hP
  clear hm hR hP
  go_enter Try.func18, Try.ntmps18
  go_upto_region 1 with (fail)
  unfold evL at HB HX HC
  generalize w.alloc (Obj.cells #[.string x.e.q.n, .int .u16 (x.e.q.k : Nat), .int .u16 (x.e.q.c : Nat), .slice x.A x.e.l.length x.cap, .int .i64 x.e.rc, .int .i64 x.e.rk, .int .u64 (x.e.ex : Nat)] 35) = w1 at *
  obtain ⟨e0, e1, e2, e3, e4, e5, e6⟩ := e_cells (x := x) HX.out
  go_upto_region 6 with (first | (refine wpList_store_row rfl 35 _ _ rfl (w2.heap.size) (evL y).toArray rfl rfl 35 _ HNw.out (infoEa _) rfl (evL_one _) ?_) | (go_at_call 29; (with_reducible (refine (HL.out _).mono ?_)); rintro e w4 ⟨rfl, rfl⟩) | (go_at_call 28; (with_reducible (refine (HC.out).mono ?_)); rintro e w2 ⟨rfl, hb2⟩; have HB2 := Lib.hid hb2; have HNw := Lib.hid (Blk.new w2 35 zE); unfold zE at HNw; clear hb2))
  obtain ⟨k3, b3⟩ := box_of w2 y
  have b23 := HB2.out.trans (b3.mono HB2.out.size)
  have HF := Lib.hid (And.intro (HB.out.trans (b23.mono HB.out.size)) (And.intro k3 (HX.out.eq (b23.block _ HX.out.lt))))
  unfold zE at HF
  clear k3 b3 b23 HNw HB2 HC HX HB HL e0 e1 e2 e3 e4 e5 e6
  generalize (w2.alloc (Obj.cells #[.string ⟨#[]⟩, .int .u16 0, .int .u16 0, .slice none 0 0, .int .i64 0, .int .i64 0, .int .u64 0] 35)).setRow w2.heap.size (evL y).toArray = w5 at *
  generalize w2.heap.size = r at *
  go_upto_region 10 with (go_at_call 11; (with_reducible (refine (HFu.out _ HF.out.1).mono ?_)); rintro e w6 ⟨rfl, hb6⟩; have HF6 := Lib.hid (And.intro (HF.out.1.trans (hb6.mono HF.out.1.size)) (HF.out.2.2.eq (hb6.block _ HF.out.2.2.lt))); clear hb6)
  clear HF HFu
  have HE3 := Lib.hid ((e_cells (x := x) HF6.out.2).2.2.2.1)
  have HCl := Lib.hid (clone_any x.A x.cap x.e.l HRe.out.sm w6 (HRe.out.low HF6.out.1).sl)
  have e3 := HE3.out
  go_upto_region 11 with (go_at_call 30; (with_reducible (refine (HCl.out).mono ?_)); rintro e w7 ⟨A', cap', rfl, sl7, nw7, hb7⟩; have HS7 := Lib.hid (And.intro sl7 (And.intro nw7 hb7)); have g3 := (HF6.out.2.eq (hb7.block _ HF6.out.2.lt)).frozen 3; have d3 := (hb7.cell (p := ⟨w.heap.size, 3, none⟩) HF6.out.2.lt).trans HE3.out; clear sl7 nw7 hb7)
  clear e3 g3 d3 HE3
  have hb7 := HS7.out.2.2
  have k8 : Blk (w7.setCell ⟨w.heap.size, 3, none⟩ (.slice A' x.e.l.length cap')) w.heap.size 35 (evL ⟨x.e, A', cap'⟩).toArray := (HF6.out.2.eq (hb7.block _ HF6.out.2.lt)).set_ 3 (.slice A' x.e.l.length cap')
  have b8 : Below w.heap.size w (w7.setCell ⟨w.heap.size, 3, none⟩ (.slice A' x.e.l.length cap')) := (HF6.out.1.trans (hb7.mono HF6.out.1.size)).setCell (p := ⟨w.heap.size, 3, none⟩) (Nat.le_refl _) _
  have s8 : Sl rf (w7.setCell ⟨w.heap.size, 3, none⟩ (.slice A' x.e.l.length cap')) A' cap' x.e.l := by
    refine HS7.out.1.ch (X := fun i => i = w.heap.size) ⟨rfl, rfl, rfl, by simp, fun i _ hi => Below.heap_setCell w7 ⟨w.heap.size, 3, none⟩ _ i hi⟩ (fun b off hb _ e => ?_)
    have h1 := HS7.out.2.1 b off hb
    have h2 := HF6.out.2.lt
    omega
  have HK8 := Lib.hid (And.intro k8 (And.intro b8 (And.intro s8 (show Nw w.heap.size A' from fun b off e => Nat.le_trans HF6.out.1.size (HS7.out.2.1 b off e)))))
  clear hb7 k8 b8 s8 HS7 HCl HF6
  generalize w7.setCell ⟨w.heap.size, 3, none⟩ (.slice A' x.e.l.length cap') = w8 at *
  have hD := HPut.out w8 A' cap' HK8.out.2.1 HK8.out.2.2.1 HK8.out.2.2.2
  obtain ⟨c0, c1⟩ := m_cells hD.1.bh
  obtain ⟨e0, e1, e2, e3, e4, e5, e6⟩ := e_cells (x := ⟨x.e, A', cap'⟩) HK8.out.1
  have HD := Lib.hid hD
  clear hD HPut
  go_still_tail 7, (by kernel_rfl)
  change wpList _ _ _ _ _ w8.drew
  have hd := (Below.refl w8.heap.size w8).drew
  clear c0 c1 e0 e1 e2 e3 e4 e5 e6
  have HV9 := Lib.hid (HD.out.1.low hd)
  generalize w8.drew = w9 at *
  go_upto_region 12 with (refine wpList_em_put rfl _ _ _ rfl x.e.q HRe.out.q ⟨x.e, A', cap'⟩ rfl HV9.out.em HM.out rfl rfl ?_; intro w10 he10 ht10)
  have hF := HD.out.2 w9 hd w10 he10 ht10
  have HT := Lib.hid hF
  clear hF he10 ht10
  go_wp2_with fail
  go_ret
  exact ⟨_, rfl, HT.out⟩
theorem ins_any (x : Ev) (now : Nat) {w : World} {h p : Nat} {room : Int} {m : List En} {f : Qu → Option Ev} (v : Mh w h p room m f) (hm : m.length < 1000) (hR : Re (fun i => i = p) w x) :
    Calls Try.prog 18 #[.pointer (some ⟨h, 0, none⟩), evV x, .int .u64 (now : Nat)] w fun e w' => ∃ f', e = .returned (.int .i64 (insL m room x.e now).2) ∧ Mh w' h p room (insL m room x.e now).1 f' ∧ Ch (fun i => i = p) w w' := by
  have no : ∀ {c : Int}, InsNo (.pointer (some ⟨h, 0, none⟩)) x now w c → insL m room x.e now = (m, c) → Calls Try.prog 18 #[.pointer (some ⟨h, 0, none⟩), evV x, .int .u64 (now : Nat)] w fun e w' => ∃ f', e = .returned (.int .i64 (insL m room x.e now).2) ∧ Mh w' h p room (insL m room x.e now).1 f' ∧ Ch (fun i => i = p) w w' := by
    intro c hc he
    rw [he]
    exact Calls.mono hc (by rintro e w' ⟨h1, h2⟩; exact ⟨f, h1, v.low h2, Ch.bel h2⟩)
  by_cases hd : x.e.ex ≤ now
  · exact no (ins_l h x now w hd) (ins_late hd)
  · have hb := (Below.refl w.heap.size w).alloc (Nat.le_refl _) (Obj.cells (evL x).toArray 35)
    have hC := find_any x.e.q hR.q (v.low hb)
    have put : (insL m room x.e now).2 = 0 → ∀ w8 A' cap', Below w.heap.size w w8 → Sl rf w8 A' cap' x.e.l → Nw w.heap.size A' → Mh w8 h p room m f ∧ ∀ w9, Below w8.heap.size w8 w9 → ∀ w10, Em w10 p (if (f x.e.q).isSome then m.length else m.length + 1) (fun q => if q = x.e.q then some ⟨x.e, A', cap'⟩ else f q) → w9.mapTurned w10 p → Mh w10 h p room (insL m room x.e now).1 (fun q => if q = x.e.q then some ⟨x.e, A', cap'⟩ else f q) ∧ Ch (fun i => i = p) w w10 := by
      intro h0 w8 A' cap' b8 s8 n8
      have v8 := v.low b8
      have hlt : p < w.heap.size := v.em.lt
      have r8 : Re (fun i => i = p) w8 ⟨x.e, A', cap'⟩ := ⟨s8, (fun b off e _ h2 => by have h1 := n8 b off e; have h3 : b = p := h2; omega), hR.q, hR.ex, hR.sm⟩
      refine ⟨v8, fun w9 b9 w10 he ht => ?_⟩
      have v9 := v8.low b9
      have hT := v9.turn he ht (by rw [v.is]; exact ins_count h0) (ok_ins v.ok room x.e now) (fun q => by
        rw [ent_ins v.ok, h0]
        by_cases hq : q = x.e.q
        · rw [if_pos hq, if_pos ⟨hq, rfl⟩]; rfl
        · rw [if_neg hq, if_neg (fun h => hq h.1)]; exact v.ent q) (fun q y hy => by
        by_cases hq : q = x.e.q
        · rw [if_pos hq] at hy
          simp only [Option.some.injEq] at hy
          subst hy
          exact r8.low b9
        · rw [if_neg hq] at hy
          exact v9.re q y hy)
      exact ⟨hT.1, ((Ch.bel b8).below b9).trans hT.2⟩
    cases hk : findL m x.e.q with
    | none =>
      have hf : f x.e.q = none := by
        have h1 := v.ent x.e.q
        rw [findL_none.1 hk] at h1
        cases hf : f x.e.q with
        | none => rfl
        | some y => rw [hf] at h1; cases h1
      rw [hf] at hC
      have hi := ins_none (room := room) hd hk
      have hFu : ∀ W, Below w.heap.size w W → _ := fun W hW => full_any (v.low hW)
      by_cases hr : room ≤ (m.length : Int)
      · rw [decide_eq_true hr] at hFu
        exact no (ins_u h x _ now w hd hFu hC) (by rw [hi, if_pos hr])
      · rw [decide_eq_false hr] at hFu
        rw [if_neg hr] at hi
        have h2 : (insL m room x.e now).2 = 0 := by rw [hi]
        rw [h2]
        exact ins_a x _ now hd hm hR hFu (put h2) hC
    | some k =>
      have he : entL m x.e.q = some (m.getD k default) := by rw [findL_ent, hk]; rfl
      have h1 := v.ent x.e.q
      rw [he] at h1
      cases hf : f x.e.q with
      | none => rw [hf] at h1; cases h1
      | some y =>
        rw [hf] at h1 hC
        have hye : y.e = m.getD k default := by simpa using h1
        have hi := ins_some (room := room) hd hk
        rw [← hye] at hi
        cases hbt : btE y.e x.e now with
        | false => exact no (ins_w h x y now w hd hbt hC) (by rw [hi, hbt]; rfl)
        | true =>
          rw [hbt, if_pos rfl] at hi
          have h2 : (insL m room x.e now).2 = 0 := by rw [hi]
          rw [h2]
          exact ins_r x y now hd hm hR hbt (put h2) hC
end Go.Proofs.Ytnmgeoeppfdnhaa
