/- The law ModelPlays (written by tools/gen_epl.py). -/
import Derived.Test.YtnmgeoeppfdnhaaEmu
import Derived.Deep.RegionHeld3
namespace Go.Proofs.Ytnmgeoeppfdnhaa.D
open Go.RowKit
set_option linter.unusedVariables false
set_option linter.unusedSimpArgs false

theorem has_at (l : List Ev) (q : Qu) : decide (0 ≤ atI (findL (pm l) q)) = (entL (pm l) q).isSome := by
  rw [findL_ent]
  cases findL (pm l) q with
  | none => simp [atI]
  | some k => simp [atI]
set_option maxRecDepth 100000 in
set_option maxHeartbeats 8000000 in
theorem plays_law (room : Int) (A : Option Addr) (cap : Nat) (zs : List Dd) (q : Qu) (hroom : (Lit.int .i64 room).wf = true) (hq : q.Fine) (W : World) (hS : Sl df W A cap zs) (hD : ∀ D ∈ zs, ArgD W D) :
    Calls Try.prog 3 #[.int .i64 room, .slice A zs.length cap, qV q] W fun e w' => e = .returned (.bool true) ∧ Below W.heap.size W w' := by
  unfold qV
  have HX := Lib.hid (qbox_of W q)
  have HA := Lib.hid (And.intro hS hD)
  unfold qf at HX
  clear hS hD hroom
  have HSh := Lib.hid (fun V => shown_any V)
  by_cases hr : room < 1
  · skip
    have d0 : decide (room < 1) = true := by simpa using hr
    go_enter Try.func3, Try.ntmps3
    go_upto_region 1 with (fail)
    generalize W.alloc (Obj.cells #[.string q.n, .int .u16 (q.k : Nat), .int .u16 (q.c : Nat)] 25) = w1 at *
    go_upto_region 2 with (go_at_call 9; (with_reducible (refine (HSh.out _).mono ?_)); rintro e w2 ⟨rfl, hb2⟩; have HX2 := Lib.hid (And.intro (HX.out.1.eq (hb2.block _ HX.out.1.lt)) (HX.out.2.trans (hb2.mono HX.out.2.size))); clear hb2)
    clear HX HSh
    have HN := Lib.hid (new_none room hr w2)
    have HFu := Lib.hid (fun V => full_nil V)
    go_wp2_with (first | (go_at_call 11; (with_reducible (refine (HFu.out _).mono ?_)); rintro e w4 ⟨rfl, hb4⟩; have HF := Lib.hid (HX2.out.2.trans (hb4.mono HX2.out.2.size)); clear hb4) | (go_at_call 10; (with_reducible (refine (HN.out).mono ?_)); rintro e w3 ⟨rfl, rfl⟩))
    go_ret
    exact ⟨rfl, HF.out⟩
  · skip
    have d0 : decide (room < 1) = false := by simpa using hr
    go_enter Try.func3, Try.ntmps3
    go_upto_region 1 with (fail)
    generalize W.alloc (Obj.cells #[.string q.n, .int .u16 (q.k : Nat), .int .u16 (q.c : Nat)] 25) = w1 at *
    go_upto_region 2 with (go_at_call 9; (with_reducible (refine (HSh.out _).mono ?_)); rintro e w2 ⟨rfl, hb2⟩; have HX2 := Lib.hid (And.intro (HX.out.1.eq (hb2.block _ HX.out.1.lt)) (HX.out.2.trans (hb2.mono HX.out.2.size))); clear hb2)
    clear HX HSh
    have HN := Lib.hid (new_any room (by omega) w2)
    go_wp2_with (go_at_call 10; (with_reducible (refine (HN.out).mono ?_)); rintro e w3 ⟨h, p, rfl, v3, b3, hh, hp⟩; have HV := Lib.hid (And.intro v3 (And.intro (HX2.out.2.trans (b3.mono HX2.out.2.size)) (And.intro (HX2.out.1.eq (b3.block _ HX2.out.1.lt)) (show W.heap.size < p from Nat.lt_of_lt_of_le HX2.out.1.lt hp)))); clear v3 b3 hh hp)
    clear HN HX2 d0
    go_loopw [9, 10] (fun sv x wr => ∃ (j : Nat) (l : List Ev) (A' : Option Addr) (cap' : Nat) (f : Qu → Option Ev), j ≤ zs.length ∧ j ≤ 200 ∧ x = .int .i64 j ∧ sv = .slice A' l.length cap' ∧ Bo wr h p room f l A' cap' ∧ l.length ≤ j ∧ Ch (fun i => i = p) W wr ∧ Blk wr W.heap.size 25 (qf q).toArray) (fun _ x _ => zs.length - (intOf x).toNat)
    case atStart => exact ⟨0, [], none, 0, _, Nat.zero_le _, Nat.zero_le _, rfl, rfl, bo_new HV.out.1, Nat.le_refl _, Ch.bel HV.out.2.1, HV.out.2.2.1⟩
    case round =>
      obtain ⟨j, l, A', cap', f, hj, hj2, rfl, rfl, hb, hlj, hc, hbq⟩ := hrel
      have HB := Lib.hid (And.intro hb (And.intro hlj (And.intro hc hbq)))
      clear hb hlj hc hbq
      by_cases hlt : j < zs.length
      · have d1 : decide ((j : Int) < (zs.length : Nat)) = true := by simp; omega
        have s0 : (0 : Int) ≤ (j : Nat) := by omega
        have s1 : (j : Int) < (zs.length : Nat) := by omega
        by_cases hlt2 : j < 200
        · have d2 : decide ((j : Int) < 200) = true := by simp; omega
          obtain ⟨b, off, hAz, hbl, hrg⟩ := Sl_df HA.out.1 j hlt
          subst hAz
          have HBw := Lib.hid (HB.out.2.2.1.isBelow (n := W.heap.size) (fun i e => by have := HV.out.2.2.2; omega) (Nat.le_refl _))
          have HR := Lib.hid (show wr.rangeAt b (off + j * 9) (df zs[j]) from fun i u hi => (HBw.out.cell (p := ⟨b, off + j * 9 + i, none⟩) hbl).trans (hrg i u hi))
          have hA := HA.out.2 zs[j] (List.getElem_mem hlt)
          have HX := Lib.hid (arg_re (X := fun i => i = p) hA.x HBw.out (fun i e => by have := HV.out.2.2.2; omega))
          clear hrg hA hbl HBw
          generalize zs[j] = D at *
          have hd := do_any HB.out.1 (Nat.le_trans HB.out.2.1 (by omega)) D HX.out
          unfold DoR at hd
          have HD := Lib.hid hd
          have HRo := Lib.hid (show (doL l room D).length ≤ j + 1 from Nat.le_trans (doL_len l room D) (by have := HB.out.2.1; omega))
          clear hd
          generalize doL l room D = l2 at *
          go_upto_region 10 with (first | (refine wpList_load_mid rfl 37 _ rfl b (off + j * 9) rfl _ _ HR.out Try.underlying37 rfl (infoD9 _) ?_) | (go_at_call 12; (with_reducible (refine (HD.out).mono ?_)); rintro e wz ⟨f2, A2, c2, rfl, b2, k2⟩; have HZ := Lib.hid (And.intro b2 (And.intro (HB.out.2.2.1.trans k2) (HB.out.2.2.2.ch k2 (fun e => by have := HV.out.2.2.2; omega)))); clear b2 k2))
          go_upto_region 11 with (fail)
          have hz := HZ.out.2.2
          have hl2 : l2.length ≤ 1000 := by have := HRo.out; omega
          have HF := Lib.hid (fun (w' : World) (b : Below wz.heap.size wz w') => (show Below wz.heap.size wz w' ∧ w'.cell? ⟨W.heap.size, 0, none⟩ = some (.string q.n) ∧ w'.cell? ⟨W.heap.size, 1, none⟩ = some (.int .u16 (q.k : Nat)) ∧ w'.cell? ⟨W.heap.size, 2, none⟩ = some (.int .u16 (q.c : Nat)) from by
            obtain ⟨b0, b1, b2⟩ := q_cells (q := q) (hz.eq (b.block _ hz.lt))
            exact ⟨b, b0, b1, b2⟩))
          have HC1 := Lib.hid (fun (w' : World) (s : Below wz.heap.size wz w' ∧ w'.cell? ⟨W.heap.size, 0, none⟩ = some (.string q.n) ∧ w'.cell? ⟨W.heap.size, 1, none⟩ = some (.int .u16 (q.k : Nat)) ∧ w'.cell? ⟨W.heap.size, 2, none⟩ = some (.int .u16 (q.c : Nat))) => (len_any (HZ.out.1.mh.low s.1)).mono (R' := fun e w'' => e = .returned (.int .i64 (l2.length : Nat)) ∧ Below wz.heap.size wz w'') (by rintro e w5 ⟨rfl, rfl⟩; exact ⟨by rw [pm_len], s.1⟩))
          have HC2 := Lib.hid (fun (w' : World) (s : Below wz.heap.size wz w' ∧ w'.cell? ⟨W.heap.size, 0, none⟩ = some (.string q.n) ∧ w'.cell? ⟨W.heap.size, 1, none⟩ = some (.int .u16 (q.k : Nat)) ∧ w'.cell? ⟨W.heap.size, 2, none⟩ = some (.int .u16 (q.c : Nat))) => (full_any (HZ.out.1.mh.low s.1)).mono (R' := fun e w'' => e = .returned (.bool (decide (room ≤ ((l2.length : Nat) : Int)))) ∧ Below wz.heap.size wz w'') (by rintro e w5 ⟨rfl, hb5⟩; exact ⟨by rw [pm_len], s.1.trans (hb5.mono s.1.size)⟩))
          obtain ⟨hs, hhs⟩ : ∃ hs, (entL (pm l2) q).isSome = hs := ⟨_, rfl⟩
          obtain ⟨fi, hfi⟩ : ∃ fi, atI (findL (pm l2) q) = fi := ⟨_, rfl⟩
          have dF := has_at l2 q
          rw [hhs, hfi] at dF
          have HC3 := Lib.hid (fun (w' : World) (s : Below wz.heap.size wz w' ∧ w'.cell? ⟨W.heap.size, 0, none⟩ = some (.string q.n) ∧ w'.cell? ⟨W.heap.size, 1, none⟩ = some (.int .u16 (q.k : Nat)) ∧ w'.cell? ⟨W.heap.size, 2, none⟩ = some (.int .u16 (q.c : Nat))) => (show Calls Try.prog 14 #[.pointer (some ⟨h, 0, none⟩), .agg #[.string q.n, .int .u16 (q.k : Nat), .int .u16 (q.c : Nat)]] w' (fun e w'' => e = .returned (.bool hs) ∧ Below wz.heap.size wz w'') from (has_any q hq (HZ.out.1.mh.low s.1)).mono (by rintro e w5 ⟨rfl, hb5⟩; exact ⟨by rw [hhs], s.1.trans (hb5.mono s.1.size)⟩)))
          have HC4 := Lib.hid (fun (w' : World) (s : Below wz.heap.size wz w' ∧ w'.cell? ⟨W.heap.size, 0, none⟩ = some (.string q.n) ∧ w'.cell? ⟨W.heap.size, 1, none⟩ = some (.int .u16 (q.k : Nat)) ∧ w'.cell? ⟨W.heap.size, 2, none⟩ = some (.int .u16 (q.c : Nat))) => (find_any A2 c2 l2 hl2 q w' (HZ.out.1.sl.below' s.1)).mono (R' := fun e w'' => e = .returned (.int .i64 fi) ∧ Below wz.heap.size wz w'') (by rintro e w5 ⟨rfl, hb5⟩; exact ⟨by rw [hfi], s.1.trans (hb5.mono s.1.size)⟩))
          have G0 := Lib.hid ((Below.refl wz.heap.size wz).drew)
          have HRl := Lib.hid (fun (w' : World) (b : Below wz.heap.size wz w') => (show Bo w' h p room f2 l2 A2 c2 ∧ Ch (fun i => i = p) W w' ∧ Blk w' W.heap.size 25 (qf q).toArray from ⟨HZ.out.1.low b, HZ.out.2.1.below b, hz.eq (b.block _ hz.lt)⟩))
          clear hz hhs hfi
          generalize hn2 : l2.length = n2 at *
          go_region_held3 (fun w' => Below wz.heap.size wz w' ∧ w'.cell? ⟨W.heap.size, 0, none⟩ = some (.string q.n) ∧ w'.cell? ⟨W.heap.size, 1, none⟩ = some (.int .u16 (q.k : Nat)) ∧ w'.cell? ⟨W.heap.size, 2, none⟩ = some (.int .u16 (q.c : Nat))) (first | exact HF.out _ G0.out | exact HF.out _ (by assumption)) (first
            | (go_at_call 13; with_reducible (refine (HC1.out _ (by assumption)).mono ?_); rintro e w4 ⟨rfl, hb4⟩)
            | (go_at_call 11; with_reducible (refine (HC2.out _ (by assumption)).mono ?_); rintro e w5 ⟨rfl, hb5⟩)
            | (go_at_call 14; with_reducible (refine (HC3.out _ (by assumption)).mono ?_); rintro e w6 ⟨rfl, hb6⟩)
            | (go_at_call 15; with_reducible (refine (HC4.out _ (by assumption)).mono ?_); rintro e w7 ⟨rfl, hb7⟩))
          all_goals (go_wp2_with fail)
          all_goals (go_roundw)
          case rel => exact ⟨j + 1, l2, A2, c2, f2, hlt, hlt2, by go_num, by rw [hn2], (HRl.out _ (by assumption)).1, by rw [hn2]; exact HRo.out, (HRl.out _ (by assumption)).2.1, (HRl.out _ (by assumption)).2.2⟩
          case measure => simp [intOf]; omega
        · have hj200 : j = 200 := by omega
          subst hj200
          have d2 : decide (((200 : Nat) : Int) < 200) = false := by decide
          go_wp2_with fail
          go_ret
          exact ⟨rfl, HB.out.2.2.1.isBelow (n := W.heap.size) (fun i e => by have := HV.out.2.2.2; omega) (Nat.le_refl _)⟩
      · have d1 : decide ((j : Int) < (zs.length : Nat)) = false := by simp; omega
        go_wp2_with fail
        go_ret
        exact ⟨rfl, HB.out.2.2.1.isBelow (n := W.heap.size) (fun i e => by have := HV.out.2.2.2; omega) (Nat.le_refl _)⟩
end Go.Proofs.Ytnmgeoeppfdnhaa.D
