/- Two wheels side by side; the law WheelSizes: its walk. -/
import Derived.Test.YtdhahienhlknoaaWvb
import Derived.Test.YtdhahienhlknoaaWhe
namespace Go.Proofs.Ytdhahienhlknoaa
open Go.RowKit
set_option linter.unusedVariables false
/-- A wheel is kept where another one's maps alone have turned. -/
theorem Wl.fw {w w' : World} {g sb s n : Nat} {bm : Nat → Nat} {l : List Ti} (h : Wl w g sb s n bm l) {bm2 : Nat → Nat} {s2 : Nat} (hf : Fw bm2 s2 w w') (h1 : ∀ j, j < s2 → g ≠ bm2 j) (h2 : ∀ j, j < s2 → sb ≠ bm2 j) (h3 : ∀ i, i < s → ∀ j, j < s2 → bm i ≠ bm2 j) : Wl w' g sb s n bm l := by
  have cell : ∀ (b i : Nat) (v : Value), (∀ j, j < s2 → b ≠ bm2 j) → w.cell? ⟨b, i, none⟩ = some v → w'.cell? ⟨b, i, none⟩ = some v := by
    intro b i v hne hc
    have hlt : b < w.heap.size := cell_size hc
    have e := hf.block b hlt hne
    unfold World.cell? at hc ⊢
    simp only at hc ⊢
    rw [e]
    exact hc
  exact ⟨cell _ _ _ h1 h.c0, fun j hj => cell _ _ _ h2 (h.e0 j hj), fun j hj => (h.mp j hj).block (hf.block _ (h.mp j hj).lt (fun i hi => h3 j hj i hi)), h.inj, h.ord, h.pos, h.le⟩
/-- Where two wheels lie. -/
structure Dj (n0 gv sbv sv : Nat) (bmv : Nat → Nat) (gw sbw sw : Nat) (bmw : Nat → Nat) : Prop where
  gv : ∀ j, j < sw → gv ≠ bmw j
  bv : ∀ j, j < sw → sbv ≠ bmw j
  gw : ∀ j, j < sv → gw ≠ bmv j
  bw : ∀ j, j < sv → sbw ≠ bmv j
  m : ∀ i, i < sv → ∀ j, j < sw → bmv i ≠ bmw j
  lv : ∀ j, j < sv → n0 ≤ bmv j
  lw : ∀ j, j < sw → n0 ≤ bmw j
/-- Two wheels in a world that has grown out of w. -/
structure T2 (w W : World) (gv sbv sv : Nat) (bmv : Nat → Nat) (gw sbw sw : Nat) (bmw : Nat → Nat) (nv : Nat) (lv : List Ti) (nw : Nat) (lw : List Ti) : Prop where
  cv : Wl W gv sbv sv nv bmv lv
  cw : Wl W gw sbw sw nw bmw lw
  cb : Below w.heap.size w W
section
variable {w W W' : World} {gv sbv sv gw sbw sw nv nw nv' nw' : Nat} {bmv bmw : Nat → Nat} {lv lw lv' lw' : List Ti}
theorem T2.fv (h : T2 w W gv sbv sv bmv gw sbw sw bmw nv lv nw lw) (D : Dj w.heap.size gv sbv sv bmv gw sbw sw bmw) (hl : Wl W' gv sbv sv nv' bmv lv') (hf : Fw bmv sv W W') : T2 w W' gv sbv sv bmv gw sbw sw bmw nv' lv' nw lw :=
  ⟨hl, h.cw.fw hf D.gw D.bw (fun i hi j hj e => D.m j hj i hi e.symm), h.cb.trans (hf.isBelow D.lv h.cb.size)⟩
theorem T2.fw (h : T2 w W gv sbv sv bmv gw sbw sw bmw nv lv nw lw) (D : Dj w.heap.size gv sbv sv bmv gw sbw sw bmw) (hl : Wl W' gw sbw sw nw' bmw lw') (hf : Fw bmw sw W W') : T2 w W' gv sbv sv bmv gw sbw sw bmw nv lv nw' lw' :=
  ⟨h.cv.fw hf D.gv D.bv D.m, hl, h.cb.trans (hf.isBelow D.lw h.cb.size)⟩
theorem T2.drewN (h : T2 w W gv sbv sv bmv gw sbw sw bmw nv lv nw lw) : T2 w (W.drewN 1) gv sbv sv bmv gw sbw sw bmw nv lv nw lw := ⟨h.cv.drewN 1, h.cw.drewN 1, h.cb.drew⟩
theorem T2.drew (h : T2 w W gv sbv sv bmv gw sbw sw bmw nv lv nw lw) : T2 w W.drew gv sbv sv bmv gw sbw sw bmw nv lv nw lw := h.drewN
theorem T2.low (h : T2 w W gv sbv sv bmv gw sbw sw bmw nv lv nw lw) (hb : Below W.heap.size W W') : T2 w W' gv sbv sv bmv gw sbw sw bmw nv lv nw lw := ⟨h.cv.low h.cv.isLow hb, h.cw.low h.cw.isLow hb, h.cb.trans (hb.mono h.cb.size)⟩
end
theorem ints_due (A : Option Addr) (cap : Nat) (A2 : Option Addr) (cap2 : Nat) (l : List Ti) (now : Nat) (hl : l.length ≤ 200) (w : World) (hI : NsI w A ((dueL l now).map (·.id))) (hJ : NsI w A2 ((dueL l now).map (·.id))) :
    Calls Try.prog 18 #[.slice A (dueL l now).length cap, .slice A2 (dueL l now).length cap2] w fun e w' => e = .returned (.bool true) ∧ Below w.heap.size w w' := by
  have h := ints_yesI A cap A2 cap2 ((dueL l now).map (·.id)) (by rw [List.length_map]; have := dueL_le l now; omega) w hI hJ
  rw [List.length_map] at h
  exact h
set_option maxRecDepth 100000 in
set_option maxHeartbeats 16000000 in
theorem sizes_walk (HS : SortC 200) (k1 k2 : Nat) (A : Option Addr) (cap : Nat) (l : List De) (hk1 : k1 < 256) (hk2 : k2 < 256) (w : World) (hA : Ds w A cap l) :
    Calls Try.prog 4 #[.int .u8 (k1 : Nat), .int .u8 (k2 : Nat), .slice A l.length cap] w fun e w' => e = .returned (.bool true) ∧ Below w.heap.size w w' := by
  have HSS := Lib.hid HS
  have HA := Lib.hid hA
  have HC0 := Lib.hid (shown_any w)
  have HC1 := Lib.hid (fun w' => new_z (1 + (k1 : Nat)) (k1 + 1) (by omega) (by omega) (by omega) w')
  have HC2 := Lib.hid (fun w' => new_z (1 + (k2 : Nat)) (k2 + 1) (by omega) (by omega) (by omega) w')
  clear hA HS
  go_enter Try.func4, Try.ntmps4
  go_upto_region 3 with (first
    | (go_at_call 9; with_reducible (refine (HC1.out _).mono ?_); rintro e w1 ⟨gv, sbv, bmv, rfl, hl1, hb1, hg1, hsb1, hm1⟩)
    | (go_at_call 8; with_reducible (refine HC0.out.mono ?_); rintro e w0 ⟨rfl, hb0⟩))
  go_wp2_with (first
    | (go_at_call 9; with_reducible (refine (HC2.out _).mono ?_); rintro e w2 ⟨gw, sbw, bmw, rfl, hl2, hb2, hg2, hsb2, hm2⟩))
  have hlo := hl1.isLow
  have hb01 := hb0.trans (hb1.mono hb0.size)
  have DJ := Lib.hid (show Dj w.heap.size gv sbv (k1 + 1) bmv gw sbw (k2 + 1) bmw from
    ⟨fun j hj e => by have := hlo.g; have := hm2 j hj; omega, fun j hj e => by have := hlo.b; have := hm2 j hj; omega, fun j hj e => by have := hlo.m j hj; omega, fun j hj e => by have := hlo.m j hj; omega,
     fun i hi j hj e => by have := hlo.m i hi; have := hm2 j hj; omega, fun j hj => Nat.le_trans hb0.size (hm1 j hj), fun j hj => Nat.le_trans hb01.size (hm2 j hj)⟩)
  have HT1 := Lib.hid (show T2 w w2 gv sbv (k1 + 1) bmv gw sbw (k2 + 1) bmw 0 [] 0 [] from ⟨hl1.low hlo hb2, hl2, hb01.trans (hb2.mono hb01.size)⟩)
  clear hb0 hb1 hl1 hm1 hg1 hsb1 HC0 HC1 HC2 hl2 hb2 hg2 hsb2 hm2 hlo hb01
  go_loopw [10] (fun x wr => ∃ (j nv nw : Nat) (lw : List Ti), x = .int .i64 j ∧ j ≤ l.length ∧ j ≤ 200 ∧ nv ≤ j ∧ nw ≤ j ∧ lw.length ≤ j ∧ T2 w wr gv sbv (k1 + 1) bmv gw sbw (k2 + 1) bmw nv lw nw lw) (fun x _ => l.length - (intOf x).toNat)
  case atStart => exact ⟨0, 0, 0, [], rfl, Nat.zero_le _, by omega, Nat.le_refl _, Nat.le_refl _, Nat.le_refl _, HT1.out⟩
  case round =>
    clear HT1
    obtain ⟨j, nv, nw, lw, rfl, hj, hj2, hnv, hnw, hlen, hT⟩ := hrel
    have HT := Lib.hid hT
    clear hT
    obtain ⟨bq, hbq⟩ : ∃ z, (decide (j < l.length) && decide (j < 200)) = z := ⟨_, rfl⟩
    go_upto_region 5 with fail
    go_cut [31] (fun x wx => x = .bool bq ∧ wx = wr)
    case first =>
      by_cases h1 : j < l.length
      · have d1 : decide ((j : Int) < (l.length : Nat)) = true := by simp; omega
        by_cases h2 : j < 200
        · have d2 : decide ((j : Int) < 200) = true := by simp; omega
          go_wp2_with fail
          go_meet
          exact ⟨by rw [← hbq]; simp [h1, h2], rfl⟩
        · have d2 : decide ((j : Int) < 200) = false := by simp; omega
          go_wp2_with fail
          go_meet
          exact ⟨by rw [← hbq]; simp [h2], rfl⟩
      · have d1 : decide ((j : Int) < (l.length : Nat)) = false := by simp; omega
        go_wp2_with fail
        go_meet
        exact ⟨by rw [← hbq]; simp [h1], rfl⟩
    case rest =>
    obtain ⟨rfl, rfl⟩ := hcut
    cases bq with
    | true =>
      simp only [Bool.and_eq_true, decide_eq_true_eq] at hbq
      obtain ⟨hlt, h200⟩ := hbq
      obtain ⟨b, off, rfl, hbb, q0, q1, q2, hts, hwd⟩ := HA.out.at j hlt
      have HQ := Lib.hid (And.intro q0 (And.intro q1 q2))
      obtain ⟨c0, c1, c2⟩ := keep3 HT.out.cb HQ.out
      have s0 : (0 : Int) ≤ (j : Nat) := by omega
      have s1 : (j : Int) < (l.length : Nat) := by omega
      clear q0 q1 q2 hbb
      generalize l[j] = d at *
      obtain ⟨kd, i, tt⟩ := d
      simp only at HQ c0 c1 c2 hts hwd
      by_cases e0 : kd = 0
      · subst e0
        have HLe := Lib.hid (setL_le lw i tt)
        go_upto_region 11 with (fail)
        go_still_tail 11, (by kernel_rfl)
        change wpList _ _ _ _ _ wc.drew
        have HTd := Lib.hid HT.out.drew
        clear c0 c1 c2
        generalize wc.drew = wk at *
        have HS := Lib.hid (set_f i hwd tt hts HTd.out.cv (by omega))
        go_upto_region 12 with (go_at_call 16; (with_reducible (refine HS.out.mono ?_)); rintro e w2 ⟨rfl, hl2, hf2⟩; have HTa := Lib.hid (HTd.out.fv DJ.out hl2 hf2); clear hl2 hf2)
        obtain ⟨c0, c1, c2⟩ := keep3 HTa.out.cb HQ.out
        clear HTd HS
        go_still_tail 11, (by kernel_rfl)
        change wpList _ _ _ _ _ w2.drew
        have HTd := Lib.hid HTa.out.drew
        clear c0 c1 c2 HTa
        generalize w2.drew = wm at *
        have HS := Lib.hid (set_f i hwd tt hts HTd.out.cw (by omega))
        go_wp2_with (go_at_call 16; (with_reducible (refine HS.out.mono ?_)); rintro e w3 ⟨rfl, hl3, hf3⟩; have HTb := Lib.hid (HTd.out.fw DJ.out hl3 hf3); clear hl3 hf3)
        go_roundw
        case rel => exact ⟨j + 1, nv + 1, nw + 1, _, by go_num, hlt, h200, by omega, by omega, by have := HLe.out; omega, HTb.out⟩
        case measure => simp [intOf]; omega
      · have m0 : (kd == 0) = false := by simpa using e0
        have m00 : decide (kd = 0) = false := by simpa using e0
        by_cases e1 : kd = 1
        · subst e1
          have HLe := Lib.hid (delL_le lw i)
          have HD1 := Lib.hid (del_f i hwd HT.out.drew.cv)
          have HTd := Lib.hid HT.out.drew
          have HD2 := Lib.hid (fun W (h : Wl W gw sbw (k2 + 1) nw bmw lw) => del_f i hwd h)
          generalize (look lw i).isSome = bl at *
          go_upto_region 14 with fail
          go_region_held3 (fun w' => w'.cell? ⟨b, off + j * 3, none⟩ = some (.int .i64 1) ∧ w'.cell? ⟨b, off + j * 3 + 1, none⟩ = some (.int .i64 i) ∧ w'.cell? ⟨b, off + j * 3 + 2, none⟩ = some (.int .u64 (tt : Nat))) (first | exact keep3 HTd.out.cb HQ.out | exact keep3 HTa.out.cb HQ.out | exact keep3 HTb.out.cb HQ.out) (first
            | (go_at_call 17; (with_reducible (refine HD1.out.mono ?_)); rintro e w2 ⟨rfl, hl2, hf2⟩; have HTa := Lib.hid (HTd.out.fv DJ.out hl2 hf2); clear hl2 hf2)
            | (go_at_call 17; (with_reducible (refine (HD2.out _ HTa.out.cw).mono ?_)); rintro e w3 ⟨rfl, hl3, hf3⟩; have HTb := Lib.hid (HTa.out.fw DJ.out hl3 hf3); clear hl3 hf3))
          go_wp2_with fail
          go_roundw
          case rel => exact ⟨j + 1, nv, nw, _, by go_num, hlt, h200, by omega, by omega, by have := HLe.out; omega, HTb.out⟩
          case measure => simp [intOf]; omega
        · have m1 : (kd == 1) = false := by simpa using e1
          have m10 : decide (kd = 1) = false := by simpa using e1
          have HLe := Lib.hid (restL_le lw tt)
          have hl2 : lw.length ≤ 200 := by omega
          have HTd := Lib.hid HT.out.drew
          have HD1 := Lib.hid (due_f HSS.out tt HT.out.drew.cv hl2)
          have HD2 := Lib.hid (fun W (h : Wl W gw sbw (k2 + 1) nw bmw lw) => due_f HSS.out tt h hl2)
          have HI := Lib.hid (fun A4 c4 A5 c5 W hI hJ => ints_due A4 c4 A5 c5 lw tt hl2 W hI hJ)
          generalize (dueL lw tt).length = dl at *
          generalize (dueL lw tt).map (·.id) = is at *
          go_upto_region 8 with fail
          go_region_held3 (fun w' => w'.cell? ⟨b, off + j * 3, none⟩ = some (.int .i64 kd) ∧ w'.cell? ⟨b, off + j * 3 + 1, none⟩ = some (.int .i64 i) ∧ w'.cell? ⟨b, off + j * 3 + 2, none⟩ = some (.int .u64 (tt : Nat))) (first | exact keep3 HTd.out.cb HQ.out | exact keep3 HTa.out.cb HQ.out | exact keep3 HTb.out.cb HQ.out | exact keep3 HTc.out.cb HQ.out) (first
            | (go_at_call 19; (with_reducible (refine HD1.out.mono ?_)); rintro e w2 ⟨A4, c4, rfl, hn4, hl2, hf2⟩; have HNa := Lib.hid hn4; have HTa := Lib.hid (HTd.out.fv DJ.out hl2 hf2); clear hn4 hl2 hf2)
            | (go_at_call 19; (with_reducible (refine (HD2.out _ HTa.out.cw).mono ?_)); rintro e w3 ⟨A5, c5, rfl, hn5, hl3, hf3⟩; have HNb := Lib.hid (And.intro (HNa.out.fw HTa.out.cw hf3) hn5); have HTb := Lib.hid (HTa.out.fw DJ.out hl3 hf3); clear hn5 hl3 hf3)
            | (go_at_call 18; (with_reducible (refine (HI.out _ _ _ _ _ HNb.out.1 HNb.out.2).mono ?_)); rintro e w4 ⟨rfl, hb4⟩; have HTc := Lib.hid (HTb.out.low hb4); clear hb4))
          go_wp2_with fail
          go_roundw
          case rel => exact ⟨j + 1, nv, nw, _, by go_num, hlt, h200, by omega, by omega, by have := HLe.out; omega, HTc.out⟩
          case measure => simp [intOf]; omega
    | false =>
      have hl2 : lw.length ≤ 100000 := by omega
      have H1 := Lib.hid (next_f HT.out.cv)
      have H2 := Lib.hid (fun W (h : Wl W gw sbw (k2 + 1) nw bmw lw) => next_f h)
      have H3 := Lib.hid (fun W (h : Wl W gv sbv (k1 + 1) nv bmv lw) => len_f h hl2)
      have H4 := Lib.hid (fun W (h : Wl W gw sbw (k2 + 1) nw bmw lw) => len_f h hl2)
      clear hbq HA hl2
      generalize lkT (nextL lw) = nx at *
      generalize (nextL lw).isSome = bx at *
      generalize lw.length = nl at *
      go_wp2_with (first
        | (go_at_call 14; (with_reducible (refine H1.out.mono ?_)); rintro e w2 ⟨rfl, hl2, hf2⟩; have HTa := Lib.hid (HT.out.fv DJ.out hl2 hf2); clear hl2 hf2)
        | (go_at_call 14; (with_reducible (refine (H2.out _ HTa.out.cw).mono ?_)); rintro e w3 ⟨rfl, hl3, hf3⟩; have HTb := Lib.hid (HTa.out.fw DJ.out hl3 hf3); clear hl3 hf3)
        | (go_at_call 10; (with_reducible (refine (H3.out _ HTb.out.cv).mono ?_)); rintro e w4 ⟨rfl, hl4, hf4⟩; have HTc := Lib.hid (HTb.out.fv DJ.out hl4 hf4); clear hl4 hf4)
        | (go_at_call 10; (with_reducible (refine (H4.out _ HTc.out.cw).mono ?_)); rintro e w5 ⟨rfl, hl5, hf5⟩; have HTe := Lib.hid (HTc.out.fw DJ.out hl5 hf5); clear hl5 hf5))
      go_ret
      exact ⟨by first | rfl | simp, HTe.out.cb⟩
end Go.Proofs.Ytdhahienhlknoaa
