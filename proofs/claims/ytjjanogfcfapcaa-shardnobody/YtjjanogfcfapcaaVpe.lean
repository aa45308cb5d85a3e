/- The contracts of ttl.Live, rank.Beats; of the program's shard: Lookup, Evict. -/
import Derived.Test.YtjjanogfcfapcaaVpd
namespace Go.Proofs.Ytjjanogfcfapcaa
open Go.RowKit
set_option linter.unusedVariables false

theorem q_cells {w : World} {g : Nat} {t : TypeId} {q : Qu} (h : Blk w g t (qf q).toArray) : w.cell? ⟨g, 0, none⟩ = some (.string q.n) ∧ w.cell? ⟨g, 1, none⟩ = some (.int .u16 (q.k : Nat)) ∧ w.cell? ⟨g, 2, none⟩ = some (.int .u16 (q.c : Nat)) := ⟨h.cell 0, h.cell 1, h.cell 2⟩
theorem e_cells {w : World} {g : Nat} {t : TypeId} {x : Ev} (h : Blk w g t (evL x).toArray) : w.cell? ⟨g, 0, none⟩ = some (.string x.e.q.n) ∧ w.cell? ⟨g, 1, none⟩ = some (.int .u16 (x.e.q.k : Nat)) ∧ w.cell? ⟨g, 2, none⟩ = some (.int .u16 (x.e.q.c : Nat)) ∧
    w.cell? ⟨g, 3, none⟩ = some (.slice x.A x.e.l.length x.cap) ∧ w.cell? ⟨g, 4, none⟩ = some (.int .i64 x.e.rc) ∧ w.cell? ⟨g, 5, none⟩ = some (.int .i64 x.e.rk) ∧ w.cell? ⟨g, 6, none⟩ = some (.int .u64 (x.e.ex : Nat)) := ⟨h.cell 0, h.cell 1, h.cell 2, h.cell 3, h.cell 4, h.cell 5, h.cell 6⟩
theorem live_any (e n : Nat) (w : World) : Calls Try.prog 35 #[.int .u64 (e : Nat), .int .u64 (n : Nat)] w fun x w' => x = .returned (.bool (decide (n < e))) ∧ w' = w := by
  go_enter Try.func35, Try.ntmps35
  go_wp2_with fail
  go_ret
  exact ⟨rfl, rfl⟩
set_option maxHeartbeats 1000000 in
theorem beats_any (x y : Ev) (now : Nat) (w : World) :
    Calls Try.prog 37 #[evV x, evV y, .int .u64 (now : Nat)] w fun e w' => e = .returned (.bool (btE x.e y.e now)) ∧ Below w.heap.size w w' := by
  rw [evV_eq, evV_eq]
  have HB := Lib.hid (fun o o' => ((Below.refl w.heap.size w).alloc (Nat.le_refl _) o).alloc (by simp) o')
  have HL := Lib.hid (fun W => live_any x.e.ex now W)
  by_cases h : now < x.e.ex
  · have HR := Lib.hid (show btE x.e y.e now = decide (x.e.rk ≤ y.e.rk) by unfold btE; simp [h])
    have hd : decide (now < x.e.ex) = true := by simpa using h
    clear h
    go_enter Try.func37, Try.ntmps37
    go_wp2_with (go_at_call 35; (with_reducible (refine (HL.out _).mono ?_)); rintro e w1 ⟨rfl, rfl⟩)
    go_ret
    exact ⟨by rw [HR.out]; rfl, HB.out _ _⟩
  · have HR := Lib.hid (show btE x.e y.e now = true by unfold btE; simp [h])
    have hd : decide (now < x.e.ex) = false := by simpa using h
    clear h
    go_enter Try.func37, Try.ntmps37
    go_wp2_with (go_at_call 35; (with_reducible (refine (HL.out _).mono ?_)); rintro e w1 ⟨rfl, rfl⟩)
    go_ret
    exact ⟨by rw [HR.out]; rfl, HB.out _ _⟩

set_option maxRecDepth 100000 in
set_option maxHeartbeats 2000000 in
theorem look_nil (q : Qu) (now : Nat) (w : World) : Calls Try.prog 22 #[.pointer none, qV q, .int .u64 (now : Nat)] w fun e w' => e = .returned (.tuple #[evV default, .bool false]) ∧ Below w.heap.size w w' := by
  have HC := Lib.hid (fun W => find_nil q W)
  unfold qV at HC ⊢
  have HF := Lib.hid (fi_of w q)
  go_enter Try.func22, Try.ntmps22
  go_upto_region 1 with (fail)
  unfold zE qf at HF
  generalize (w.alloc (Obj.cells #[.string q.n, .int .u16 (q.k : Nat), .int .u16 (q.c : Nat)] 35)).alloc (Obj.cells #[.string ⟨#[]⟩, .int .u16 0, .int .u16 0, .slice none 0 0, .int .i64 0, .int .i64 0, .int .u64 0] 39) = w1 at *
  obtain ⟨b0, b1, b2⟩ := q_cells (q := q) HF.out.bq
  go_upto_region 2 with (first | (refine wpList_store_row rfl 39 _ _ rfl w2.heap.size _ rfl rfl 39 _ HNw.out (infoEa default) rfl (evL_one default) ?_) | (go_at_call 36; (with_reducible (refine (HC.out _).mono ?_)); rintro e w2 ⟨rfl, hb2⟩; have HB2 := Lib.hid hb2; have HNw := Lib.hid (Blk.new w2 39 zE); unfold zE at HNw; clear hb2))
  clear b0 b1 b2
  obtain ⟨k3, b3⟩ := box_of w2 (default : Ev)
  have hs3 := setRow_size (w2.alloc (Obj.cells zE 39)) w2.heap.size (evL (default : Ev)).toArray
  have b23 := HB2.out.trans (b3.mono HB2.out.size)
  have HF3 := Lib.hid (And.intro (HF.out.br.eq (b23.block _ HF.out.br.lt)) (And.intro (HF.out.b.trans (b23.mono HF.out.b.size)) (And.intro k3 (show w.heap.size + 1 < w2.heap.size from Nat.lt_of_lt_of_le HF.out.br.lt HB2.out.size))))
  unfold zE at HF3
  clear k3 b3 b23 hs3 HNw HF HB2 HC
  generalize (w2.alloc (Obj.cells #[.string ⟨#[]⟩, .int .u16 0, .int .u16 0, .slice none 0 0, .int .i64 0, .int .i64 0, .int .u64 0] 39)).setRow w2.heap.size (evL (default : Ev)).toArray = w3 at *
  generalize w2.heap.size = r at *
  go_wp2_with (refine wpList_store_row rfl 39 _ _ rfl (w.heap.size + 1) _ rfl rfl 39 _ HF3.out.1 infoE rfl (evL_one default) ?_)
  exact ret_e2 (evL default).toArray rfl rfl rfl rfl rfl (setRow_heap _ _ _ _ _ _ HF3.out.1) ⟨rfl, setRow_below HF3.out.2.1 (by omega) _⟩
set_option maxRecDepth 100000 in
set_option maxHeartbeats 2000000 in
theorem look_none (q : Qu) (hq : q.Fine) (now : Nat) {w : World} {h : Nat} {K : Ly} {M : Ms Ev} {f : Qu → Option Nat} {N : Nat} {l : List W.Ti} (v : Sv w h K M f N l) (hf : f q = none) :
    Calls Try.prog 22 #[.pointer (some ⟨h, 0, none⟩), qV q, .int .u64 (now : Nat)] w fun e w' => e = .returned (.tuple #[evV default, .bool false]) ∧ Below w.heap.size w w' := by
  have hF := fi_of w q
  have HC := Lib.hid (find_none q hq (v.low hF.b) hf)
  have HF := Lib.hid hF
  unfold qV at HC ⊢
  unfold zE qf at HC HF
  clear v hF
  go_enter Try.func22, Try.ntmps22
  go_upto_region 1 with (fail)
  generalize (w.alloc (Obj.cells #[.string q.n, .int .u16 (q.k : Nat), .int .u16 (q.c : Nat)] 35)).alloc (Obj.cells #[.string ⟨#[]⟩, .int .u16 0, .int .u16 0, .slice none 0 0, .int .i64 0, .int .i64 0, .int .u64 0] 39) = w1 at *
  obtain ⟨b0, b1, b2⟩ := q_cells (q := q) HF.out.bq
  go_upto_region 2 with (first | (refine wpList_store_row rfl 39 _ _ rfl w2.heap.size _ rfl rfl 39 _ HNw.out (infoEa default) rfl (evL_one default) ?_) | (go_at_call 36; (with_reducible (refine (HC.out).mono ?_)); rintro e w2 ⟨rfl, hb2⟩; have HB2 := Lib.hid hb2; have HNw := Lib.hid (Blk.new w2 39 zE); unfold zE at HNw; clear hb2))
  clear b0 b1 b2
  obtain ⟨k3, b3⟩ := box_of w2 (default : Ev)
  have hs3 := setRow_size (w2.alloc (Obj.cells zE 39)) w2.heap.size (evL (default : Ev)).toArray
  have b23 := HB2.out.trans (b3.mono HB2.out.size)
  have HF3 := Lib.hid (And.intro (HF.out.br.eq (b23.block _ HF.out.br.lt)) (And.intro (HF.out.b.trans (b23.mono HF.out.b.size)) (And.intro k3 (show w.heap.size + 1 < w2.heap.size from Nat.lt_of_lt_of_le HF.out.br.lt HB2.out.size))))
  unfold zE at HF3
  clear k3 b3 b23 hs3 HNw HF HB2 HC
  generalize (w2.alloc (Obj.cells #[.string ⟨#[]⟩, .int .u16 0, .int .u16 0, .slice none 0 0, .int .i64 0, .int .i64 0, .int .u64 0] 39)).setRow w2.heap.size (evL (default : Ev)).toArray = w3 at *
  generalize w2.heap.size = r at *
  go_wp2_with (refine wpList_store_row rfl 39 _ _ rfl (w.heap.size + 1) _ rfl rfl 39 _ HF3.out.1 infoE rfl (evL_one default) ?_)
  exact ret_e2 (evL default).toArray rfl rfl rfl rfl rfl (setRow_heap _ _ _ _ _ _ HF3.out.1) ⟨rfl, setRow_below HF3.out.2.1 (by omega) _⟩
set_option maxRecDepth 100000 in
set_option maxHeartbeats 2000000 in
theorem look_late (q : Qu) (hq : q.Fine) (now : Nat) {w : World} {h : Nat} {K : Ly} {M : Ms Ev} {f : Qu → Option Nat} {N : Nat} {l : List W.Ti} (v : Sv w h K M f N l) {k : Nat} (hf : f q = some k) (hk : k < M.c.length) (hu : us M.c k = true) (hl : ¬ now < (M.c.getD k Z0).x.e.ex) :
    Calls Try.prog 22 #[.pointer (some ⟨h, 0, none⟩), qV q, .int .u64 (now : Nat)] w fun e w' => e = .returned (.tuple #[evV default, .bool false]) ∧ Below w.heap.size w w' := by
  have hF := fi_of w q
  have HC := Lib.hid (find_some q hq (v.low hF.b) hf hk hu)
  have HF := Lib.hid hF
  have hd : decide (now < (M.c.getD k Z0).x.e.ex) = false := by simpa using hl
  unfold qV at HC ⊢
  unfold zE qf at HC HF
  clear v hF hl hf
  generalize (M.c.getD k Z0).x = x at *
  have HL := Lib.hid (fun W => live_any x.e.ex now W)
  go_enter Try.func22, Try.ntmps22
  go_upto_region 1 with (fail)
  generalize (w.alloc (Obj.cells #[.string q.n, .int .u16 (q.k : Nat), .int .u16 (q.c : Nat)] 35)).alloc (Obj.cells #[.string ⟨#[]⟩, .int .u16 0, .int .u16 0, .slice none 0 0, .int .i64 0, .int .i64 0, .int .u64 0] 39) = w1 at *
  obtain ⟨b0, b1, b2⟩ := q_cells (q := q) HF.out.bq
  go_upto_region 2 with (first | (refine wpList_store_row rfl 39 _ _ rfl w2.heap.size _ rfl rfl 39 _ HNw.out (infoEa x) rfl (evL_one x) ?_) | (go_at_call 36; (with_reducible (refine (HC.out).mono ?_)); rintro e w2 ⟨rfl, hb2⟩; have HB2 := Lib.hid hb2; have HNw := Lib.hid (Blk.new w2 39 zE); unfold zE at HNw; clear hb2))
  clear b0 b1 b2
  obtain ⟨k3, b3⟩ := box_of w2 x
  have hs3 := setRow_size (w2.alloc (Obj.cells zE 39)) w2.heap.size (evL x).toArray
  have b23 := HB2.out.trans (b3.mono HB2.out.size)
  have HF3 := Lib.hid (And.intro (HF.out.br.eq (b23.block _ HF.out.br.lt)) (And.intro (HF.out.b.trans (b23.mono HF.out.b.size)) (And.intro k3 (show w.heap.size + 1 < w2.heap.size from Nat.lt_of_lt_of_le HF.out.br.lt HB2.out.size))))
  unfold zE at HF3
  clear k3 b3 b23 hs3 HNw HF HB2 HC
  generalize (w2.alloc (Obj.cells #[.string ⟨#[]⟩, .int .u16 0, .int .u16 0, .slice none 0 0, .int .i64 0, .int .i64 0, .int .u64 0] 39)).setRow w2.heap.size (evL x).toArray = w3 at *
  generalize w2.heap.size = r at *
  obtain ⟨e0, e1, e2, e3, e4, e5, e6⟩ := e_cells HF3.out.2.2.1
  clear e0 e1 e2 e3 e4 e5
  go_wp2_with (first | (refine wpList_store_row rfl 39 _ _ rfl (w.heap.size + 1) _ rfl rfl 39 _ HF3.out.1 infoE rfl (evL_one default) ?_) | (go_at_call 35; (with_reducible (refine (HL.out _).mono ?_)); rintro e w4 ⟨rfl, rfl⟩))
  exact ret_e2 (evL default).toArray rfl rfl rfl rfl rfl (setRow_heap _ _ _ _ _ _ HF3.out.1) ⟨rfl, setRow_below HF3.out.2.1 (by omega) _⟩
end Go.Proofs.Ytjjanogfcfapcaa
