/- The contract of the program's shard: Insert. -/
import Derived.Test.YtjjanogfcfapcaaVpi
namespace Go.Proofs.Ytjjanogfcfapcaa
open Go.RowKit
set_option linter.unusedVariables false

theorem room_all {w : World} {h : Nat} {K : Ly} {d : Sd} (H : Sh w h K d) (now : Nat) :
    Calls Try.prog 40 #[.pointer (some ⟨h, 0, none⟩), .int .u64 (now : Nat)] w fun e w' => ∃ A cap, e = .returned (.slice A (roomS d now).2.length cap) ∧ Sl qf w' A cap (roomS d now).2 ∧ Nw w.heap.size A ∧ Sh w' h K (roomS d now).1 ∧ Ch K.X w w' := by
  unfold roomS
  cases hf : (firstC d.P.c).isSome with
  | true =>
    simp only [if_true]
    exact (room_free H now hf).mono fun e w' ⟨he, hb⟩ => ⟨none, 0, he, Sl.nil _ _, (fun b off h => by cases h), H.low hb, Ch.bel hb⟩
  | false =>
    simp only [Bool.false_eq_true, if_false]
    have hL : (advS d now).2.length = (W.dueL d.l now).length := by unfold advS goneQ; rw [List.length_map]
    cases hd : W.dueL d.l now with
    | nil =>
      simp only [List.isEmpty_nil, if_true]
      exact room_vic H now hf hd
    | cons y r =>
      simp only [List.isEmpty_cons, Bool.false_eq_true, if_false]
      exact room_due H now hf (by rw [hL, hd]; simp)
theorem store_count {c : List (Ce En)} (hu : Uq c) {k : Nat} (hk : k < c.length) (e : En) (t : Bool) (h : us c k = true ∧ qAt c k = e.q ∨ us c k = false ∧ slotOf c e.q = none) : (if (slotOf c e.q).isSome then cnt c else cnt c + 1) = cnt (c.set k ⟨e, true, t⟩) := by
  have h2 := cnt_set (⟨e, true, t⟩ : Ce En) c k hk
  simp only [if_true] at h2
  rcases h with ⟨h1, h3⟩ | ⟨h1, h3⟩
  · rw [(slot_some hu).2 ⟨hk, h1, h3⟩]
    rw [h1] at h2
    simp only [Option.isSome_some, if_true] at h2 ⊢
    omega
  · rw [h3]
    rw [h1] at h2
    simp only [Option.isSome_none, Bool.false_eq_true, if_false] at h2 ⊢
    omega
theorem Sh.find {w : World} {h : Nat} {K : Ly} {d : Sd} (H : Sh w h K d) {q : Qu} {k : Nat} (hs : slotOf d.P.c q = some k) : k < d.P.c.length ∧ us d.P.c k = true ∧ qAt d.P.c k = q := (slot_some H.ok.uq).1 hs

set_option maxRecDepth 100000 in
set_option maxHeartbeats 2000000 in
theorem ins_nil (x : Ev) (now : Nat) (w : World) : Calls Try.prog 19 #[.pointer none, evV x, .int .u64 (now : Nat)] w fun e w' => e = .returned (.tuple #[.slice none 0 0, .int .i64 1]) ∧ Below w.heap.size w w' := by
  rw [evV_eq]
  have HB := Lib.hid ((Below.refl w.heap.size w).alloc (Nat.le_refl _) (Obj.cells (evL x).toArray 39))
  have HRo := Lib.hid (fun W => room_nil W)
  unfold evL at HB
  go_enter Try.func19, Try.ntmps19
  go_upto_region 1 with (fail)
  generalize w.alloc (Obj.cells #[.string x.e.q.n, .int .u16 (x.e.q.k : Nat), .int .u16 (x.e.q.c : Nat), .slice x.A x.e.l.length x.cap, .int .i64 x.e.rc, .int .i64 x.e.rk, .int .u64 (x.e.ex : Nat)] 39) = w1 at *
  go_wp2_with (go_at_call 17; (with_reducible (refine (HRo.out _).mono ?_)); rintro e w3 ⟨rfl, rfl⟩)
  go_ret2
  exact ⟨rfl, HB.out⟩
set_option maxRecDepth 100000 in
set_option maxHeartbeats 2000000 in
theorem ins_dead (x : Ev) (now : Nat) {w : World} {h : Nat} {K : Ly} {d : Sd} (H : Sh w h K d) (hd : x.e.ex ≤ now) :
    Calls Try.prog 19 #[.pointer (some ⟨h, 0, none⟩), evV x, .int .u64 (now : Nat)] w fun e w' => e = .returned (.tuple #[.slice none 0 0, .int .i64 4]) ∧ Below w.heap.size w w' := by
  rw [evV_eq]
  obtain ⟨M, hp, v⟩ := H.ex
  have hb := (Below.refl w.heap.size w).alloc (Nat.le_refl _) (Obj.cells (evL x).toArray 39)
  have HRo := Lib.hid (room_any (v.low hb))
  rw [pure_len hp] at HRo
  have n0 : ((d.P.c.length : Int) == 0) = false := by have := H.ok.ok.n1; rw [beq_eq_false_iff_ne]; omega
  have n1 : d.P.c.length ≠ 0 := by have := H.ok.ok.n1; omega
  have HL := Lib.hid (fun W => live_any x.e.ex now W)
  have HB := Lib.hid hb
  have HX := Lib.hid (blk_new_eq w 39 (evL x).toArray)
  have hl : decide (now < x.e.ex) = false := by simp; omega
  have hl2 : ¬ now < x.e.ex := by omega
  clear v hp H hb hd
  generalize d.P.c.length = n at *
  go_enter Try.func19, Try.ntmps19
  go_upto_region 1 with (fail)
  unfold evL at HB HX HRo
  generalize w.alloc (Obj.cells #[.string x.e.q.n, .int .u16 (x.e.q.k : Nat), .int .u16 (x.e.q.c : Nat), .slice x.A x.e.l.length x.cap, .int .i64 x.e.rc, .int .i64 x.e.rk, .int .u64 (x.e.ex : Nat)] 39) = w1 at *
  obtain ⟨e0, e1, e2, e3, e4, e5, e6⟩ := e_cells (x := x) HX.out
  clear e0 e1 e2 e3 e4 e5
  go_wp2_with (first | (go_at_call 17; (with_reducible (refine HRo.out.mono ?_)); rintro e w3 ⟨rfl, rfl⟩) | (go_at_call 35; (with_reducible (refine (HL.out _).mono ?_)); rintro e w4 ⟨rfl, rfl⟩))
  go_ret2
  exact ⟨rfl, HB.out⟩
set_option maxRecDepth 100000 in
set_option maxHeartbeats 4000000 in
theorem ins_low (x : Ev) (hq : x.e.q.Fine) (now : Nat) {w : World} {h : Nat} {K : Ly} {d : Sd} (H : Sh w h K d) (hd : ¬ x.e.ex ≤ now) {k : Nat} (hs : slotOf d.P.c x.e.q = some k) (hbt : btE (d.P.c.getD k Z0).x x.e now = false) :
    Calls Try.prog 19 #[.pointer (some ⟨h, 0, none⟩), evV x, .int .u64 (now : Nat)] w fun e w' => e = .returned (.tuple #[.slice none 0 0, .int .i64 7]) ∧ Below w.heap.size w w' := by
  rw [evV_eq]
  obtain ⟨M, hp, v⟩ := H.ex
  have hb := (Below.refl w.heap.size w).alloc (Nat.le_refl _) (Obj.cells (evL x).toArray 39)
  have HRo := Lib.hid (room_any (v.low hb))
  rw [pure_len hp] at HRo
  have n0 : ((d.P.c.length : Int) == 0) = false := by have := H.ok.ok.n1; rw [beq_eq_false_iff_ne]; omega
  have n1 : d.P.c.length ≠ 0 := by have := H.ok.ok.n1; omega
  have HL := Lib.hid (fun W => live_any x.e.ex now W)
  have HB := Lib.hid hb
  have HX := Lib.hid (blk_new_eq w 39 (evL x).toArray)
  have hl : decide (now < x.e.ex) = true := by simp; omega
  have hl2 : now < x.e.ex := by omega
  obtain ⟨hk, hu, hqk⟩ := H.find hs
  have HC := Lib.hid (find_some x.e.q hq (v.low hb) hs (by rw [pure_len hp]; exact hk) (by rw [pure_us hp]; exact hu))
  have hye := pure_x hp k
  obtain ⟨y, hy⟩ : ∃ y, (M.c.getD k Z0).x = y := ⟨_, rfl⟩
  rw [hy] at HC hye
  rw [← hye] at hbt
  have HBt := Lib.hid (fun W => beats_any y x now W)
  rw [hbt] at HBt
  rw [evV_eq, evV_eq] at HBt
  unfold qV at HC
  clear v hp H hb hd hk hu hqk hy hye hbt hs
  generalize d.P.c.length = n at *
  go_enter Try.func19, Try.ntmps19
  go_upto_region 1 with (fail)
  unfold evL at HB HX HRo HC
  generalize w.alloc (Obj.cells #[.string x.e.q.n, .int .u16 (x.e.q.k : Nat), .int .u16 (x.e.q.c : Nat), .slice x.A x.e.l.length x.cap, .int .i64 x.e.rc, .int .i64 x.e.rk, .int .u64 (x.e.ex : Nat)] 39) = w1 at *
  obtain ⟨e0, e1, e2, e3, e4, e5, e6⟩ := e_cells (x := x) HX.out
  go_upto_region 6 with (first | (refine wpList_store_row rfl 39 _ _ rfl w2.heap.size _ rfl rfl 39 _ HNw.out (infoEa y) rfl (evL_one y) ?_) | (go_at_call 17; (with_reducible (refine HRo.out.mono ?_)); rintro e w3 ⟨rfl, rfl⟩) | (go_at_call 35; (with_reducible (refine (HL.out _).mono ?_)); rintro e w4 ⟨rfl, rfl⟩) | (go_at_call 36; (with_reducible (refine HC.out.mono ?_)); rintro e w2 ⟨rfl, hb2⟩; have HB2 := Lib.hid hb2; have HNw := Lib.hid (Blk.new w2 39 zE); unfold zE at HNw; clear hb2))
  obtain ⟨k3, b3⟩ := box_of w2 y
  have b23 := HB2.out.trans (b3.mono HB2.out.size)
  have HF := Lib.hid (And.intro (HB.out.trans (b23.mono HB.out.size)) (And.intro k3 (HX.out.eq (b23.block _ HX.out.lt))))
  unfold zE at HF
  clear k3 b3 b23 HNw HB2 HC HX HB e0 e1 e2 e3 e4 e5 e6
  generalize (w2.alloc (Obj.cells #[.string ⟨#[]⟩, .int .u16 0, .int .u16 0, .slice none 0 0, .int .i64 0, .int .i64 0, .int .u64 0] 39)).setRow w2.heap.size (evL y).toArray = w5 at *
  generalize w2.heap.size = r at *
  obtain ⟨e0, e1, e2, e3, e4, e5, e6⟩ := e_cells (x := x) HF.out.2.2
  obtain ⟨g0, g1, g2, g3, g4, g5, g6⟩ := e_cells (x := y) HF.out.2.1
  go_wp2_with (go_at_call 37; (with_reducible (refine (HBt.out _).mono ?_)); rintro e w6 ⟨rfl, hb6⟩; have HF6 := Lib.hid (HF.out.1.trans (hb6.mono HF.out.1.size)); clear hb6)
  go_ret2
  exact ⟨rfl, HF6.out⟩
end Go.Proofs.Ytjjanogfcfapcaa
