/- The contracts of the program's shard, each deed in one form; New. -/
import Derived.Test.YtjjanogfcfapcaaVpk
import Derived.Carry
namespace Go.Proofs.Ytjjanogfcfapcaa
open Go.RowKit
set_option linter.unusedVariables false
section
variable {w : World} {h : Nat} {K : Ly} {d : Sd}
theorem ins_any (H : Sh w h K d) (x : Ev) (hx : Re K.X w x) (now : Nat) :
    Calls Try.prog 19 #[.pointer (some ⟨h, 0, none⟩), evV x, .int .u64 (now : Nat)] w fun e w' => ∃ A cap, e = .returned (.tuple #[.slice A (insS d x.e now).2.1.length cap, .int .i64 (insS d x.e now).2.2]) ∧
      Sl qf w' A cap (insS d x.e now).2.1 ∧ Nw w.heap.size A ∧ Sh w' h K (insS d x.e now).1 ∧ Ch K.X w w' := by
  have nonew : ∀ {w' : World}, Nw w'.heap.size none := fun b off e => by cases e
  unfold insS
  by_cases hd : x.e.ex ≤ now
  · rw [if_pos hd]
    exact (ins_dead x now H hd).mono fun e w' ⟨he, hb⟩ => ⟨none, 0, he, Sl.nil _ _, nonew, H.low hb, Ch.bel hb⟩
  · rw [if_neg hd]
    cases hs : slotOf d.P.c x.e.q with
    | none => exact ins_new x now H hx hd hs
    | some k =>
      simp only
      cases hb : btE (d.P.c.getD k Z0).x x.e now with
      | false =>
        simp only [Bool.false_eq_true, if_false]
        exact (ins_low x hx.q now H hd hs hb).mono fun e w' ⟨he, hb⟩ => ⟨none, 0, he, Sl.nil _ _, nonew, H.low hb, Ch.bel hb⟩
      | true =>
        simp only [if_true]
        exact (ins_rep x now H hx hd hs hb).mono fun e w' ⟨he, hh, hc⟩ => ⟨none, 0, he, Sl.nil _ _, nonew, hh, hc⟩
theorem look_any (H : Sh w h K d) (q : Qu) (hq : q.Fine) (now : Nat) :
    Calls Try.prog 22 #[.pointer (some ⟨h, 0, none⟩), qV q, .int .u64 (now : Nat)] w fun e w' => ∃ A cap, e = .returned (.tuple #[evV ⟨(lookS d q now).2.1, A, cap⟩, .bool (lookS d q now).2.2]) ∧
      Sl rf w' A cap (lookS d q now).2.1.l ∧ Nw w.heap.size A ∧ Sh w' h K (lookS d q now).1 ∧ Ch K.X w w' := by
  have nonew : ∀ {w' : World}, Nw w'.heap.size none := fun b off e => by cases e
  obtain ⟨M, hp, v⟩ := H.ex
  unfold lookS
  cases hs : slotOf d.P.c q with
  | none => exact (look_none q hq now v hs).mono fun e w' ⟨he, hb⟩ => ⟨none, 0, he, Sl.nil _ _, nonew, H.low hb, Ch.bel hb⟩
  | some k =>
    obtain ⟨hk, hu, hqk⟩ := H.find hs
    have hkM : k < M.c.length := by rw [pure_len hp]; exact hk
    have huM : us M.c k = true := by rw [pure_us hp]; exact hu
    have hx := pure_x hp k
    simp only
    by_cases hl : now < (d.P.c.getD k Z0).x.ex
    · rw [if_pos hl]
      refine (look_live q hq now v hs hkM huM (by rw [hx]; exact hl)).mono ?_
      rintro e w' ⟨A, cap, he, sl, nw, v', hc⟩
      rw [hx] at he sl
      refine ⟨A, cap, he, sl, nw, ⟨touchS_ok H.ok hk hu, _, ?_, v'.fun (fun q' => ?_) ?_ rfl⟩, hc⟩
      · rw [pure_set hp k]
        show (⟨d.P.c.set k ⟨(M.c.getD k Z0).x.e, true, true⟩, d.P.h⟩ : Ms En) = _
        rw [hx]
        rfl
      · exact ((touch_alike d.P.c hk hu).slot H.ok.uq q').symm
      · have := cnt_set (⟨(d.P.c.getD k Z0).x, true, true⟩ : Ce En) d.P.c k hk
        rw [hu] at this
        simp only [if_true] at this
        show cnt d.P.c = cnt (d.P.c.set k ⟨(d.P.c.getD k Z0).x, true, true⟩)
        omega
    · rw [if_neg hl]
      exact (look_late q hq now v hs hkM huM (by rw [hx]; exact hl)).mono fun e w' ⟨he, hb⟩ => ⟨none, 0, he, Sl.nil _ _, nonew, H.low hb, Ch.bel hb⟩
theorem ev_any (H : Sh w h K d) (q : Qu) (hq : q.Fine) :
    Calls Try.prog 21 #[.pointer (some ⟨h, 0, none⟩), qV q] w fun e w' => e = .returned (.bool (evS d q).2) ∧ Sh w' h K (evS d q).1 ∧ Ch K.X w w' := by
  obtain ⟨M, hp, v⟩ := H.ex
  unfold evS
  cases hs : slotOf d.P.c q with
  | none => exact (evict_none q hq v hs).mono fun e w' ⟨he, hb⟩ => ⟨he, H.low hb, Ch.bel hb⟩
  | some k =>
    obtain ⟨hk, hu, hqk⟩ := H.find hs
    have hkM : k < M.c.length := by rw [pure_len hp]; exact hk
    have huM : us M.c k = true := by rw [pure_us hp]; exact hu
    have hx := pure_x hp k
    refine (evict_some q hq v hs hkM huM).mono ?_
    rintro e w' ⟨he, v', hc⟩
    rw [hx] at v'
    exact ⟨he, ⟨freeS_ok H.ok hk, _, pure_set hp k Z0, v'.fun (fun q => free_places H.ok.uq hk hu q) (free_count H.ok.uq hk hu) rfl⟩, hc⟩
theorem keys_s (H : Sh w h K d) :
    Calls Try.prog 14 #[.pointer (some ⟨h, 0, none⟩)] w fun e w' => ∃ A cap, e = .returned (.slice A (keysOf d.P.c).length cap) ∧ Sl qf w' A cap (keysOf d.P.c) ∧ Nw w.heap.size A ∧ Below w.heap.size w w' := by
  obtain ⟨M, hp, v⟩ := H.ex
  have := keys_any v
  rw [show pc M.c = d.P.c by rw [← hp]; rfl] at this
  exact this
theorem len_s (H : Sh w h K d) :
    Calls Try.prog 16 #[.pointer (some ⟨h, 0, none⟩)] w fun e w' => e = .returned (.int .i64 ((keysOf d.P.c).length : Nat)) ∧ Below w.heap.size w w' := by
  obtain ⟨M, hp, v⟩ := H.ex
  have := len_any_s v
  rw [pure_cnt hp, ← keys_len] at this
  exact this
theorem room_s (H : Sh w h K d) :
    Calls Try.prog 17 #[.pointer (some ⟨h, 0, none⟩)] w fun e w' => e = .returned (.int .i64 (d.P.c.length : Nat)) ∧ w' = w := by
  obtain ⟨M, hp, v⟩ := H.ex
  have := room_any v
  rw [pure_len hp] at this
  exact this
end
/-- Where there may not be such slots. -/
theorem new_bad (r : Int) (hr : r < 1 ∨ 64 < r) (s : Int) (w : World) :
    Calls Try.prog 10 #[.int .i64 r, .int .i64 s] w fun e w' => e = .returned (.pointer none) ∧ Below w.heap.size w w' := by
  have HC := Lib.hid (fun V => new_no r hr V)
  have HW := Lib.hid (fun V => (show Calls Try.prog 27 #[.int .i64 s] V (fun e w' => (∃ p, e = .returned (.pointer p)) ∧ Below V.heap.size V w') from by
    by_cases hs : s < 1 ∨ 256 < s
    · exact (W.new_none s hs V).mono fun e w' ⟨he, hw⟩ => ⟨⟨_, he⟩, by rw [hw]; exact Below.refl _ _⟩
    · obtain ⟨n, rfl⟩ : ∃ n : Nat, s = n := ⟨s.toNat, by omega⟩
      exact (W.new_any n (by omega) (by omega) V).mono fun e w' ⟨g, sb, bm, he, _, hb, _⟩ => ⟨⟨_, he⟩, hb⟩))
  go_enter Try.func10, Try.ntmps10
  go_wp2_with (first
    | (go_at_call 26; (with_reducible (refine (HC.out _).mono ?_)); rintro e w1 ⟨rfl, rfl⟩)
    | (go_at_call 27; (with_reducible (refine (HW.out _).mono ?_)); rintro e w2 ⟨⟨p, rfl⟩, hb2⟩; have HB := Lib.hid hb2; clear hb2))
  go_ret
  exact ⟨rfl, HB.out⟩
theorem new_bad2 (r : Nat) (h1 : 1 ≤ r) (h2 : r ≤ 64) (s : Int) (hs : s < 1 ∨ 256 < s) (w : World) :
    Calls Try.prog 10 #[.int .i64 (r : Nat), .int .i64 s] w fun e w' => e = .returned (.pointer none) ∧ Below w.heap.size w w' := by
  have HC := Lib.hid (fun V => new_any r h1 h2 V)
  have HW := Lib.hid (fun V => W.new_none s hs V)
  go_enter Try.func10, Try.ntmps10
  go_wp2_with (first
    | (go_at_call 26; (with_reducible (refine (HC.out _).mono ?_)); rintro e w1 ⟨rfl, _, hb1, _⟩; have HB := Lib.hid hb1; clear hb1)
    | (go_at_call 27; (with_reducible (refine (HW.out _).mono ?_)); rintro e w2 ⟨rfl, rfl⟩))
  go_ret
  exact ⟨rfl, HB.out⟩
theorem newS_cnt (n : Nat) : cnt (newM n : Ms En).c = 0 := by
  show ((List.replicate n (Z0 : Ce En)).filter (·.u)).length = 0
  rw [List.filter_replicate]
  rfl
theorem newS_slot (n : Nat) (q : Qu) : slotOf (newM n : Ms En).c q = none := by
  rw [slot_none]
  intro k hk hu
  have : us (newM n : Ms En).c k = false := by
    unfold us newM
    simp only [List.getD_eq_getElem?_getD, List.getElem?_replicate]
    split <;> rfl
  rw [this] at hu
  cases hu
set_option maxHeartbeats 2000000 in
theorem new_s (r s : Nat) (h1 : 1 ≤ r) (h2 : r ≤ 64) (s1 : 1 ≤ s) (s2 : s ≤ 256) (w : World) :
    Calls Try.prog 10 #[.int .i64 (r : Nat), .int .i64 (s : Nat)] w fun e w' => ∃ h K, e = .returned (.pointer (some ⟨h, 0, none⟩)) ∧ Sh w' h K (newS r) ∧ Below w.heap.size w w' ∧ (∀ i, K.X i → w.heap.size ≤ i) := by
  have HC := Lib.hid (fun V => new_any r h1 h2 V)
  have HW := Lib.hid (fun V => W.new_any s s1 s2 V)
  have hmm := @run_makeMap Try.prog 69
  go_enter Try.func10, Try.ntmps10
  go_wp2_with (first
    | (go_at_call 26; (with_reducible (refine (HC.out _).mono ?_)); rintro e w1 ⟨rfl, sp1, hb1, z1⟩; have HS := Lib.hid (And.intro sp1 (And.intro hb1 z1)); clear sp1 hb1 z1)
    | (go_at_call 27; (with_reducible (refine (HW.out _).mono ?_)); rintro e w2 ⟨g, sb, bm, rfl, wl2, hb2, q1, q2, q3⟩; have HS2 := Lib.hid (And.intro wl2 (And.intro hb2 (And.intro q1 (And.intro q2 q3)))); clear wl2 hb2 q1 q2 q3))
  go_ret
  have a1 := HS.out.2.2
  have a2 := cell_size HS2.out.1.c0
  have a3 := cell_size (HS2.out.1.e0 0 HS2.out.1.pos)
  have a4 := HS2.out.2.2.1
  have a5 := HS2.out.2.2.2.1
  have a6 := HS2.out.2.1.size
  simp only at a2 a3
  have hbm := (Below.refl w2.heap.size w2).alloc (Nat.le_refl _) (Obj.map #[] 0)
  have pm3 := pm_made w2
  have z3 : (w2.alloc (Obj.map #[] 0)).heap.size = w2.heap.size + 1 := by simp
  have hp2 : w2.heap.size < (w2.alloc (Obj.map #[] 0)).heap.size := by omega
  generalize w2.alloc (Obj.map #[] 0) = w3 at *
  have hb4 := (Below.refl w3.heap.size w3).alloc (Nat.le_refl _) (Obj.cells #[.pointer (some ⟨w.heap.size + 1, 0, none⟩), .map (some w2.heap.size), .pointer (some ⟨g, 0, none⟩)] 71)
  have bh4 := blk_new_eq w3 71 #[.pointer (some ⟨w.heap.size + 1, 0, none⟩), .map (some w2.heap.size), .pointer (some ⟨g, 0, none⟩)]
  rw [z3] at bh4
  have b24 := hbm.trans (hb4.mono hbm.size)
  have b14 := HS2.out.2.1.trans (b24.mono HS2.out.2.1.size)
  have b04 := HS.out.2.1.trans (b14.mono HS.out.2.1.size)
  refine ⟨w2.heap.size + 1, ⟨w.heap.size + 1, w.heap.size, w2.heap.size, g, sb, s, bm⟩, rfl, ⟨newS_ok h1 h2, newM r, newM_pure r, ?_⟩, b04, ?_⟩
  · refine ⟨⟨by simp, by simp only; omega, by simp only; omega, fun j hj => by have := HS2.out.2.2.2.2 j hj; simp only; omega, a2, a3, fun j hj => (HS2.out.1.mp j hj).lt, by simp⟩, bh4, HS.out.1.keep b14, ?_, ?_, fun k => ?_⟩
    · have e1 : cnt (newS r).P.c = 0 := newS_cnt r
      rw [e1]
      exact (pm3.block (hb4.block _ (by omega))).congr (fun q => (newS_slot r q).symm)
    · exact HS2.out.1.ch (X := fun _ => False) (Ch.bel b24) (fun e => e) (fun e => e) (fun _ _ e => e)
    · have : ((newM r : Ms Ev).c.getD k Z0).x = default := by
        unfold newM
        simp only [List.getD_eq_getElem?_getD, List.getElem?_replicate]
        split <;> rfl
      rw [this]
      exact Re.zero _ _
  · rintro i (e | e | e | ⟨j, hj, e⟩)
    · rw [e]; simp only; omega
    · rw [e]; exact Nat.le_refl _
    · rw [e]; simp only; omega
    · rw [e]; have := HS2.out.2.2.2.2 j hj; simp only; omega
end Go.Proofs.Ytjjanogfcfapcaa
