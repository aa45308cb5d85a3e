/- The law ShardNobody. -/
import Derived.Test.YtjjanogfcfapcaaLsa
namespace Go.Proofs.Ytjjanogfcfapcaa
open Go.RowKit
set_option linter.unusedVariables false

theorem look_new (n : Nat) (q : Qu) (now : Nat) : lookS (newS n) q now = (newS n, default, false) := by
  unfold lookS
  rw [show slotOf (newS n).P.c q = none from newS_slot n q]
theorem ev_new (n : Nat) (q : Qu) : evS (newS n) q = (newS n, false) := by
  unfold evS
  rw [show slotOf (newS n).P.c q = none from newS_slot n q]
theorem keys_new (n : Nat) : (keysOf (newS n).P.c).length = 0 := by
  rw [keys_len]
  exact newS_cnt n
theorem len_new (n : Nat) : (newS n).P.c.length = n := by simp [newS, newM]
theorem new_badz (z : Int) (r : Nat) (hz : z = r) (h1 : 1 ≤ r) (h2 : r ≤ 64) (s : Int) (hs : s < 1 ∨ 256 < s) (w : World) :
    Calls Try.prog 10 #[.int .i64 z, .int .i64 s] w fun e w' => e = .returned (.pointer none) ∧ Below w.heap.size w w' := by
  subst hz
  exact new_bad2 r h1 h2 s hs w
/-- A world above W, with the cells of a question. -/
structure Nb (W : World) (r : Nat) (q : Qu) (w : World) : Prop where
  lo : Below W.heap.size W w
  bx : w.cell? ⟨r, 0, none⟩ = some (.string q.n) ∧ w.cell? ⟨r, 1, none⟩ = some (.int .u16 (q.k : Nat)) ∧ w.cell? ⟨r, 2, none⟩ = some (.int .u16 (q.c : Nat))
theorem Nb.low {W w w' : World} {r : Nat} {q : Qu} (n : Nb W r q w) (hb : Below w.heap.size w w') : Nb W r q w' :=
  ⟨n.lo.trans (hb.mono n.lo.size), (hb.cell (p := ⟨r, 0, none⟩) (cell_size n.bx.1)).trans n.bx.1, (hb.cell (p := ⟨r, 1, none⟩) (cell_size n.bx.2.1)).trans n.bx.2.1, (hb.cell (p := ⟨r, 2, none⟩) (cell_size n.bx.2.2)).trans n.bx.2.2⟩
structure Ns3 (W : World) (r : Nat) (q : Qu) (h : Nat) (K : Ly) (n : Nat) (w : World) : Prop where
  lo : Below W.heap.size W w
  bx : w.cell? ⟨r, 0, none⟩ = some (.string q.n) ∧ w.cell? ⟨r, 1, none⟩ = some (.int .u16 (q.k : Nat)) ∧ w.cell? ⟨r, 2, none⟩ = some (.int .u16 (q.c : Nat))
  sh : Sh w h K (newS n)
  nx : ¬ K.X r
  kx : ∀ i, K.X i → W.heap.size ≤ i
theorem Ns3.next {W w w' : World} {r : Nat} {q : Qu} {h : Nat} {K : Ly} {n : Nat} (s : Ns3 W r q h K n w) (hs : Sh w' h K (newS n)) (hc : Ch K.X w w') : Ns3 W r q h K n w' :=
  ⟨s.lo.trans (hc.isBelow s.kx s.lo.size), ⟨hc.cell s.bx.1 s.nx, hc.cell s.bx.2.1 s.nx, hc.cell s.bx.2.2 s.nx⟩, hs, s.nx, s.kx⟩
theorem Ns3.low {W w w' : World} {r : Nat} {q : Qu} {h : Nat} {K : Ly} {n : Nat} (s : Ns3 W r q h K n w) (hb : Below w.heap.size w w') : Ns3 W r q h K n w' := s.next (s.sh.low hb) (Ch.bel hb)

set_option maxRecDepth 100000 in
set_option maxHeartbeats 8000000 in
theorem nobody_any (x : Ev) (now : Nat) (hnow : now < 18446744073709551616) (W : World) (ha : Arg W x) :
    Calls Try.prog 8 #[evV x, .int .u64 (now : Nat)] W fun e w' => e = .returned (.bool true) ∧ Below W.heap.size W w' := by
  rw [evV_eq]
  have hq := ha.q
  have hb := (Below.refl W.heap.size W).alloc (Nat.le_refl _) (Obj.cells (evL x).toArray 39)
  have HX := Lib.hid (And.intro hb (blk_new_eq W 39 (evL x).toArray))
  unfold evL at HX
  clear hb ha
  have HS := Lib.hid (fun V => shown_any V)
  have hIn := fun V => ins_nil x now V
  unfold evV at hIn
  have HIn := Lib.hid hIn
  have hLn := fun V => look_nil x.e.q now V
  unfold qV at hLn
  have HLn := Lib.hid hLn
  have HN3 := Lib.hid (fun V => new_z 3 3 3 3 rfl rfl (by omega) (by omega) (by omega) (by omega) V)
  clear hIn hLn
  go_enter Try.func8, Try.ntmps8
  go_upto_region 1 with (fail)
  generalize W.alloc (Obj.cells #[.string x.e.q.n, .int .u16 (x.e.q.k : Nat), .int .u16 (x.e.q.c : Nat), .slice x.A x.e.l.length x.cap, .int .i64 x.e.rc, .int .i64 x.e.rk, .int .u64 (x.e.ex : Nat)] 39) = w1 at *
  go_upto_region 3 with (go_at_call 9; (with_reducible (refine (HS.out _).mono ?_)); rintro e w2 ⟨rfl, hb2⟩; have HX2 := Lib.hid (And.intro (HX.out.1.trans (hb2.mono HX.out.1.size)) (HX.out.2.eq (hb2.block _ HX.out.2.lt))); clear hb2)
  go_upto_region 4 with (first | (refine wpList_load_row rfl 39 _ rfl W.heap.size rfl 39 (evL x).toArray _ _ HX2.out.2 Try.underlying39 rfl infoE ?_) | (go_at_call 19; (with_reducible (refine (HIn.out _).mono ?_)); rintro e w3 ⟨rfl, hb3⟩; have HN := Lib.hid (show Nb W W.heap.size x.e.q w3 from ⟨HX2.out.1.trans (hb3.mono HX2.out.1.size), x_cells (x := x) (e := x.e) (t := 39) rfl (HX2.out.2.eq (hb3.block _ HX2.out.2.lt))⟩); clear hb3))
  obtain ⟨e0, e1, e2⟩ := HN.out.bx
  go_upto_region 5 with (first | (refine wpList_store_row rfl 39 _ _ rfl w4.heap.size _ rfl rfl 39 _ HNw.out (infoEa default) rfl (evL_one default) ?_) | (go_at_call 22; (with_reducible (refine (HLn.out _).mono ?_)); rintro e w4 ⟨rfl, hb4⟩; have HN4 := Lib.hid (HN.out.low hb4); have HNw := Lib.hid (Blk.new w4 39 zE); unfold zE at HNw; clear hb4))
  have HN5 := Lib.hid (HN4.out.low (box_of w4 default).2)
  unfold zE at HN5
  clear HN4 HNw HN e0 e1 e2 HX2 HX HIn HLn
  generalize (w4.alloc (Obj.cells #[.string ⟨#[]⟩, .int .u16 0, .int .u16 0, .slice none 0 0, .int .i64 0, .int .i64 0, .int .u64 0] 39)).setRow w4.heap.size (evL (default : Ev)).toArray = w5 at *
  generalize w4.heap.size = r4 at *
  go_upto_region 6 with (go_at_call 10; (with_reducible (refine (HN3.out _).mono ?_)); rintro e w6 ⟨h, K, rfl, hs6, hb6, hk6⟩; have HT := Lib.hid (show Ns3 W W.heap.size x.e.q h K 3 w6 from ⟨(HN5.out.low hb6).lo, (HN5.out.low hb6).bx, hs6, (fun e => by have := hk6 _ e; have := cell_size HN5.out.bx.1; simp only at this; omega), (fun i hi => Nat.le_trans HN5.out.lo.size (hk6 i hi))⟩); clear hs6 hb6 hk6)
  clear HN5 HN3 HS
  obtain ⟨e0, e1, e2⟩ := HT.out.bx
  have hA := fun V (t : Ns3 W W.heap.size x.e.q h K 3 V) => (look_any t.sh x.e.q hq now).mono (R' := fun e w' => (∃ y, e = .returned (.tuple #[.agg (evL y).toArray, .bool false])) ∧ Ns3 W W.heap.size x.e.q h K 3 w') (by
    rintro e w' ⟨A, cap, he, _, _, hs, hc⟩
    rw [look_new] at he hs
    exact ⟨⟨_, he⟩, t.next hs hc⟩)
  unfold qV at hA
  have HL := Lib.hid hA
  have hE := fun V (t : Ns3 W W.heap.size x.e.q h K 3 V) => (ev_any t.sh x.e.q hq).mono (R' := fun e w' => e = .returned (.bool false) ∧ Ns3 W W.heap.size x.e.q h K 3 w') (by
    rintro e w' ⟨he, hs, hc⟩
    rw [ev_new] at he hs
    exact ⟨he, t.next hs hc⟩)
  have hEn := fun V (t : Ns3 W W.heap.size x.e.q h K 3 V) => (evict_nil x.e.q V).mono (R' := fun e w' => e = .returned (.bool false) ∧ Ns3 W W.heap.size x.e.q h K 3 w') (fun e w' ⟨he, hb⟩ => ⟨he, t.low hb⟩)
  unfold qV at hE hEn
  have HE := Lib.hid hE
  have HEn := Lib.hid hEn
  have HAn := Lib.hid (fun V (t : Ns3 W W.heap.size x.e.q h K 3 V) => (adv_nil now V).mono (R' := fun e w' => e = .returned (.slice none 0 0) ∧ Ns3 W W.heap.size x.e.q h K 3 w') (fun e w' ⟨he, hw⟩ => ⟨he, by rw [hw]; exact t⟩))
  have HKn := Lib.hid (fun V (t : Ns3 W W.heap.size x.e.q h K 3 V) => (keys_nil V).mono (R' := fun e w' => e = .returned (.slice none 0 0) ∧ Ns3 W W.heap.size x.e.q h K 3 w') (fun e w' ⟨he, hw⟩ => ⟨he, by rw [hw]; exact t⟩))
  have HZn := Lib.hid (fun V (t : Ns3 W W.heap.size x.e.q h K 3 V) => (len_nil_s V).mono (R' := fun e w' => e = .returned (.int .i64 0) ∧ Ns3 W W.heap.size x.e.q h K 3 w') (fun e w' ⟨he, hw⟩ => ⟨he, by rw [hw]; exact t⟩))
  have HRn := Lib.hid (fun V (t : Ns3 W W.heap.size x.e.q h K 3 V) => (room_nil V).mono (R' := fun e w' => e = .returned (.int .i64 0) ∧ Ns3 W W.heap.size x.e.q h K 3 w') (fun e w' ⟨he, hw⟩ => ⟨he, by rw [hw]; exact t⟩))
  have HZ := Lib.hid (fun V (t : Ns3 W W.heap.size x.e.q h K 3 V) => (len_s t.sh).mono (R' := fun e w' => e = .returned (.int .i64 0) ∧ Ns3 W W.heap.size x.e.q h K 3 w') (fun e w' ⟨he, hb⟩ => ⟨by rw [he, keys_new]; rfl, t.low hb⟩))
  have HR := Lib.hid (fun V (t : Ns3 W W.heap.size x.e.q h K 3 V) => (room_s t.sh).mono (R' := fun e w' => e = .returned (.int .i64 3) ∧ Ns3 W W.heap.size x.e.q h K 3 w') (fun e w' ⟨he, hw⟩ => ⟨by rw [he, len_new]; rfl, by rw [hw]; exact t⟩))
  have HB1 := Lib.hid (fun V (t : Ns3 W W.heap.size x.e.q h K 3 V) => (new_bad 0 (.inl (by omega)) 3 V).mono (R' := fun e w' => e = .returned (.pointer none) ∧ Ns3 W W.heap.size x.e.q h K 3 w') (fun e w' ⟨he, hb⟩ => ⟨he, t.low hb⟩))
  have HB2 := Lib.hid (fun V (t : Ns3 W W.heap.size x.e.q h K 3 V) => (new_badz 3 3 rfl (by omega) (by omega) 0 (.inl (by omega)) V).mono (R' := fun e w' => e = .returned (.pointer none) ∧ Ns3 W W.heap.size x.e.q h K 3 w') (fun e w' ⟨he, hb⟩ => ⟨he, t.low hb⟩))
  clear hA hE hEn
  go_wp2_with (first
    | (refine wpList_store_row rfl 39 _ _ rfl w7.heap.size _ rfl rfl 39 _ HNw.out (infoEa y7) rfl (evL_one y7) ?_; have HB7 := Lib.hid (box_of w7 y7).2; unfold zE at HB7; generalize (w7.alloc (Obj.cells #[.string ⟨#[]⟩, .int .u16 0, .int .u16 0, .slice none 0 0, .int .i64 0, .int .i64 0, .int .u64 0] 39)).setRow w7.heap.size (evL y7).toArray = w8 at *; clear e0 e1 e2; replace HT := Lib.hid (HT.out.low HB7.out); obtain ⟨e0, e1, e2⟩ := HT.out.bx)
    | (go_at_call 22; (with_reducible (refine (HL.out _ HT.out).mono ?_)); rintro e w7 ⟨⟨y7, rfl⟩, n7⟩; replace HT := Lib.hid n7; have HNw := Lib.hid (Blk.new w7 39 zE); unfold zE at HNw; clear n7)
    | (go_at_call 21; (with_reducible (refine (HEn.out _ HT.out).mono ?_)); rintro e w9 ⟨rfl, n9⟩; clear e0 e1 e2; replace HT := Lib.hid n9; obtain ⟨e0, e1, e2⟩ := n9.bx; clear n9) | (go_at_call 21; (with_reducible (refine (HE.out _ HT.out).mono ?_)); rintro e w9 ⟨rfl, n9⟩; clear e0 e1 e2; replace HT := Lib.hid n9; obtain ⟨e0, e1, e2⟩ := n9.bx; clear n9) | (go_at_call 24; (with_reducible (refine (HAn.out _ HT.out).mono ?_)); rintro e w9 ⟨rfl, n9⟩; clear e0 e1 e2; replace HT := Lib.hid n9; obtain ⟨e0, e1, e2⟩ := n9.bx; clear n9) | (go_at_call 14; (with_reducible (refine (HKn.out _ HT.out).mono ?_)); rintro e w9 ⟨rfl, n9⟩; clear e0 e1 e2; replace HT := Lib.hid n9; obtain ⟨e0, e1, e2⟩ := n9.bx; clear n9) | (go_at_call 16; (with_reducible (refine (HZn.out _ HT.out).mono ?_)); rintro e w9 ⟨rfl, n9⟩; clear e0 e1 e2; replace HT := Lib.hid n9; obtain ⟨e0, e1, e2⟩ := n9.bx; clear n9) | (go_at_call 16; (with_reducible (refine (HZ.out _ HT.out).mono ?_)); rintro e w9 ⟨rfl, n9⟩; clear e0 e1 e2; replace HT := Lib.hid n9; obtain ⟨e0, e1, e2⟩ := n9.bx; clear n9) | (go_at_call 17; (with_reducible (refine (HRn.out _ HT.out).mono ?_)); rintro e w9 ⟨rfl, n9⟩; clear e0 e1 e2; replace HT := Lib.hid n9; obtain ⟨e0, e1, e2⟩ := n9.bx; clear n9) | (go_at_call 17; (with_reducible (refine (HR.out _ HT.out).mono ?_)); rintro e w9 ⟨rfl, n9⟩; clear e0 e1 e2; replace HT := Lib.hid n9; obtain ⟨e0, e1, e2⟩ := n9.bx; clear n9) | (go_at_call 10; (with_reducible (refine (HB1.out _ HT.out).mono ?_)); rintro e w9 ⟨rfl, n9⟩; clear e0 e1 e2; replace HT := Lib.hid n9; obtain ⟨e0, e1, e2⟩ := n9.bx; clear n9) | (go_at_call 10; (with_reducible (refine (HB2.out _ HT.out).mono ?_)); rintro e w9 ⟨rfl, n9⟩; clear e0 e1 e2; replace HT := Lib.hid n9; obtain ⟨e0, e1, e2⟩ := n9.bx; clear n9))
  go_ret
  exact ⟨by first | rfl | simp, HT.out.lo⟩
end Go.Proofs.Ytjjanogfcfapcaa
