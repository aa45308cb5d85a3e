/- The contracts of derrickref06.all and derrickref06.May. -/
import Derived.Test.YtnakljbginbenaaGreatDoorMmd
import Derived.Test.YtnakljbginbenaaGreatDoorRrq
import Derived.RegionTactic
import Derived.Deep.DeepCutAuto
import Derived.BigQuiet
namespace Go.Proofs.YtnakljbginbenaaGreatDoor
open Go.RowKit
set_option linter.unusedVariables false

set_option maxRecDepth 100000 in
set_option maxHeartbeats 1000000 in
theorem fall_any (A : Option Addr) (cap : Nat) (l : List Rc) (hs : Sm l) (w : World) (hI : Sl rf w A cap l) :
    Calls Tryz.prog 33 #[.slice A l.length cap] w fun e w' => e = .returned (.bool (allR l)) ∧ Below w.heap.size w w' := by
  have hlen := hs.len
  have HS := Lib.hid hs
  have HI := Lib.hid hI
  have d1 : decide ((l.length : Int) ≤ 65535) = true := by simp; omega
  clear hI hs
  go_enter Tryz.func33, Tryz.ntmps33
  go_wp2_with fail
  go_loopw [3] (fun i wr => ∃ j : Nat, j ≤ l.length ∧ i = .int .i64 j ∧ (∀ t (ht : t < l.length), t < j → mayR l[t] = true) ∧ Below w.heap.size w wr) (fun i _ => l.length - (intOf i).toNat)
  case atStart => exact ⟨0, Nat.zero_le _, rfl, (fun t _ ht => by omega), Below.refl _ _⟩
  case round =>
    obtain ⟨j, hj, rfl, hall, hbel⟩ := hrel
    by_cases hlt : j < l.length
    · obtain ⟨b, off, rfl, hb, c0, c1, c2, c3, c4⟩ := (HI.out.below' hbel).rec5 j hlt
      obtain ⟨z1, z2, z3⟩ := HS.out.each l[j] (List.getElem_mem hlt)
      have HAll := Lib.hid hall
      have HNo := Lib.hid (allR_no (l := l) hlt)
      have hnx : mayR l[j] = true → ∀ t (ht : t < l.length), t < j + 1 → mayR l[t] = true := fun h t ht hlt' => by
        rcases Nat.lt_or_ge t j with h' | h'
        · exact HAll.out t ht h'
        · obtain rfl : t = j := by omega
          exact h
      have HNx := Lib.hid hnx
      clear hall hnx
      generalize l[j] = r at *
      have HB := Lib.hid hbel
      have HM := Lib.hid (fun w' => fmayr_any r (by omega) (by omega) z3 w')
      clear hbel
      cases hm : mayR r with
      | false =>
        rw [hm] at HM
        have HE := Lib.hid (HNo.out hm)
        clear hm
        go_wp2_with fail
        refine (HM.out _).mono ?_
        rintro e w2 ⟨rfl, hb2⟩
        have HB2 := Lib.hid (HB.out.trans (hb2.mono HB.out.size))
        clear hb2
        go_wp2_with fail
        go_ret
        rw [HE.out]
        exact ⟨rfl, HB2.out⟩
      | true =>
        rw [hm] at HM
        have HE := Lib.hid (HNx.out hm)
        clear hm
        go_wp2_with fail
        refine (HM.out _).mono ?_
        rintro e w2 ⟨rfl, hb2⟩
        have HB2 := Lib.hid (HB.out.trans (hb2.mono HB.out.size))
        clear hb2
        go_wp2_with fail
        go_roundw
        case rel => exact ⟨j + 1, hlt, by go_num, HE.out, HB2.out⟩
        case measure => simp [intOf]; omega
    · obtain rfl : j = l.length := by omega
      have HB := Lib.hid hbel
      have HY := Lib.hid (allR_yes (l := l) (by omega) (fun t ht => hall t ht ht))
      clear hall hbel
      go_wp2_with fail
      go_ret
      rw [HY.out]
      exact ⟨rfl, HB.out⟩

theorem mayM_q {m : Ms} (h : allQ m.q = false) : mayM m = false := by unfold mayM; rw [h]; cases codeB m.op <;> cases codeB m.rc <;> rfl
theorem mayM_code {m : Ms} (h : m.op < 0 ∨ 15 < m.op ∨ m.rc < 0 ∨ 15 < m.rc) : mayM m = false := by
  cases hm : mayM m with
  | false => rfl
  | true =>
    have h1 := (mayM_iff.1 hm).op
    have h2 := (mayM_iff.1 hm).rc
    omega
theorem mayM_rest {m : Ms} (h1 : 0 ≤ m.op ∧ m.op ≤ 15) (h2 : 0 ≤ m.rc ∧ m.rc ≤ 15) (h3 : allQ m.q = true) : mayM m = (allR m.an && (allR m.ns && allR m.ar)) := by
  unfold mayM
  rw [codeB_iff.2 h1, codeB_iff.2 h2, h3]
  rfl

set_option maxRecDepth 100000 in
set_option maxHeartbeats 2000000 in
theorem fmaym_any (m : Ms) (d : Ad) (hs : SmM m) (w : World) (hI : Mg w m d) :
    Calls Tryz.prog 11 #[.agg (msV m d)] w fun e w' => e = .returned (.bool (mayM m)) ∧ Below w.heap.size w w' := by
  have hbox := World.alloc_heap_new w (Obj.cells (msV m d) 26)
  have hal := (Below.refl w.heap.size w).alloc (Nat.le_refl _) (Obj.cells (msV m d) 26)
  obtain ⟨w1, hw1⟩ : ∃ w1, w1 = w.alloc (Obj.cells (msV m d) 26) := ⟨_, rfl⟩
  have HB1 := Lib.hid hal
  rw [← hw1] at hbox HB1
  have HX := Lib.hid hbox
  have HW := Lib.hid hw1
  have HI := Lib.hid (hI.below HB1.out)
  have HS := Lib.hid hs
  have hlen := hs.q.len
  clear hbox hal hw1 hI hs
  have HSz := Lib.hid (show w.heap.size < w1.heap.size from heap_lt HX.out)
  have cell : ∀ W, Below w1.heap.size w1 W → ∀ i u, (msV m d)[i]? = some u → W.cell? ⟨w.heap.size, i, none⟩ = some u := fun W hW i u hu => (blk_cell ((hW.block _ HSz.out).trans HX.out) i).trans hu
  have HC := Lib.hid cell
  have d1 : decide ((m.q.length : Int) ≤ 65535) = true := by simp; omega
  clear cell
  go_enter Tryz.func11, Tryz.ntmps11
  go_upto_region 1 with (fail)
  rw [← HW.out]
  go_wp2_with fail
  go_loopw [3] (fun i wr => ∃ j : Nat, j ≤ m.q.length ∧ i = .int .i64 j ∧ (∀ t (ht : t < m.q.length), t < j → mayB m.q[t].n = true) ∧ Below w1.heap.size w1 wr) (fun i _ => m.q.length - (intOf i).toNat)
  case atStart => exact ⟨0, Nat.zero_le _, rfl, (fun t _ ht => by omega), Below.refl _ _⟩
  case round =>
    obtain ⟨j, hj, rfl, hall, hbel⟩ := hrel
    have c8 := HC.out wr hbel 8 (.slice d.aq m.q.length d.cq) rfl
    by_cases hlt : j < m.q.length
    · obtain ⟨b, off, hA, hb, c0, c1, c2⟩ := (HI.out.q.below' hbel).ask3 j hlt
      obtain ⟨z1, z2, z3⟩ := HS.out.q.each m.q[j] (List.getElem_mem hlt)
      have HAll := Lib.hid hall
      have HNo := Lib.hid (allQ_no (l := m.q) hlt)
      have hnx : mayB m.q[j].n = true → ∀ t (ht : t < m.q.length), t < j + 1 → mayB m.q[t].n = true := fun h t ht hlt' => by
        rcases Nat.lt_or_ge t j with h' | h'
        · exact HAll.out t ht h'
        · obtain rfl : t = j := by omega
          exact h
      have HNx := Lib.hid hnx
      rw [hA] at c8
      clear hall hnx hA
      generalize m.q[j] = r at *
      have HB := Lib.hid hbel
      have HM := Lib.hid (fun w' => fmayq_any r.n r.k r.c (by omega) w')
      clear hbel
      cases hm : mayB r.n with
      | false =>
        rw [hm] at HM
        have HE := Lib.hid (mayM_q (HNo.out hm))
        clear hm
        go_wp2_with fail
        refine (HM.out _).mono ?_
        rintro e w2 ⟨rfl, hb2⟩
        have HB2 := Lib.hid (HB.out.trans (hb2.mono HB.out.size))
        clear hb2
        go_wp2_with fail
        go_ret
        rw [HE.out]
        exact ⟨rfl, HB1.out.trans (HB2.out.mono HB1.out.size)⟩
      | true =>
        rw [hm] at HM
        have HE := Lib.hid (HNx.out hm)
        clear hm
        go_wp2_with fail
        refine (HM.out _).mono ?_
        rintro e w2 ⟨rfl, hb2⟩
        have HB2 := Lib.hid (HB.out.trans (hb2.mono HB.out.size))
        clear hb2
        go_wp2_with fail
        go_roundw
        case rel => exact ⟨j + 1, hlt, by go_num, HE.out, HB2.out⟩
        case measure => simp [intOf]; omega
    · obtain rfl : j = m.q.length := by omega
      have HB := Lib.hid hbel
      have HY := Lib.hid (allQ_yes (l := m.q) (by omega) (fun t ht => hall t ht ht))
      have c6 := HC.out wr hbel 6 (.int .i64 m.op) rfl
      have c7 := HC.out wr hbel 7 (.int .i64 m.rc) rfl
      have c9 := HC.out wr hbel 9 (.slice d.a1 m.an.length d.c1) rfl
      have HF := Lib.hid (HB1.out.trans (hbel.mono HB1.out.size))
      have HNo := Lib.hid (mayM_code (m := m))
      have HRe := Lib.hid (fun h1 h2 => mayM_rest (m := m) h1 h2 HY.out)
      clear hall hbel
      generalize hop : m.op = o at *
      generalize hrc : m.rc = c at *
      clear hop hrc
      by_cases h1 : o < 0
      · have g1 : decide (o ≥ 0) = false := by simp; omega
        have g1' : decide (0 ≤ o) = false := by simp; omega
        have HE := Lib.hid (HNo.out (by omega))
        go_wp2_with fail
        go_ret
        rw [HE.out]
        exact ⟨rfl, HF.out⟩
      have g1 : decide (o ≥ 0) = true := by simp; omega
      have g1' : decide (0 ≤ o) = true := by simp; omega
      by_cases h2 : 15 < o
      · have g2 : decide (o ≤ 15) = false := by simp; omega
        have HE := Lib.hid (HNo.out (by omega))
        go_wp2_with fail
        go_ret
        rw [HE.out]
        exact ⟨rfl, HF.out⟩
      have g2 : decide (o ≤ 15) = true := by simp; omega
      by_cases h3 : c < 0
      · have g3 : decide (c ≥ 0) = false := by simp; omega
        have g3' : decide (0 ≤ c) = false := by simp; omega
        have HE := Lib.hid (HNo.out (by omega))
        go_wp2_with fail
        go_ret
        rw [HE.out]
        exact ⟨rfl, HF.out⟩
      have g3 : decide (c ≥ 0) = true := by simp; omega
      have g3' : decide (0 ≤ c) = true := by simp; omega
      by_cases h4 : 15 < c
      · have g4 : decide (c ≤ 15) = false := by simp; omega
        have HE := Lib.hid (HNo.out (by omega))
        go_wp2_with fail
        go_ret
        rw [HE.out]
        exact ⟨rfl, HF.out⟩
      have g4 : decide (c ≤ 15) = true := by simp; omega
      have HE := Lib.hid (HRe.out (by omega) (by omega))
      clear HRe HNo HY
      go_wp2_with fail
      refine (fall_any _ _ m.an HS.out.an _ (HI.out.an.below' HB.out)).mono ?_
      rintro e w2 ⟨rfl, hb2⟩
      have HB2 := Lib.hid (HB.out.trans (hb2.mono HB.out.size))
      have c10 := HC.out w2 HB2.out 10 (.slice d.a2 m.ns.length d.c2) rfl
      clear hb2 c6 c7 c8 c9
      cases k1 : allR m.an with
      | false =>
        rw [k1] at HE
        clear k1
        go_wp2_with fail
        go_ret
        rw [HE.out]
        exact ⟨rfl, HB1.out.trans (HB2.out.mono HB1.out.size)⟩
      | true =>
        rw [k1] at HE
        clear k1
        go_wp2_with fail
        refine (fall_any _ _ m.ns HS.out.ns _ (HI.out.ns.below' HB2.out)).mono ?_
        rintro e w3 ⟨rfl, hb3⟩
        have HB3 := Lib.hid (HB2.out.trans (hb3.mono HB2.out.size))
        have c11 := HC.out w3 HB3.out 11 (.slice d.a3 m.ar.length d.c3) rfl
        clear hb3 c10
        cases k2 : allR m.ns with
        | false =>
          rw [k2] at HE
          clear k2
          go_wp2_with fail
          go_ret
          rw [HE.out]
          exact ⟨rfl, HB1.out.trans (HB3.out.mono HB1.out.size)⟩
        | true =>
          rw [k2] at HE
          clear k2
          go_wp2_with fail
          refine (fall_any _ _ m.ar HS.out.ar _ (HI.out.ar.below' HB3.out)).mono ?_
          rintro e w4 ⟨rfl, hb4⟩
          have HB4 := Lib.hid (HB3.out.trans (hb4.mono HB3.out.size))
          clear hb4 c11
          cases k3 : allR m.ar
          all_goals
            rw [k3] at HE
            clear k3
            go_wp2_with fail
            go_ret
            rw [HE.out]
            exact ⟨rfl, HB1.out.trans (HB4.out.mono HB1.out.size)⟩
end Go.Proofs.YtnakljbginbenaaGreatDoor
