/- The contracts of message: all (of questions, and of records), May. -/
import Derived.Test.YtnakljbginbenaaGreatDoorMmc
namespace Go.Proofs.YtnakljbginbenaaGreatDoor
open Go.RowKit
set_option linter.unusedVariables false

/-- Lists that are no longer than any that the statements hand in. -/
structure Sm (l : List Rc) : Prop where
  len : l.length ≤ 6000
  each : ∀ r ∈ l, r.n.size ≤ 65535 ∧ r.d.size ≤ 65535 ∧ r.Ok
structure SmM (m : Ms) : Prop where
  q : Sm m.q
  an : Sm m.an
  ns : Sm m.ns
  ar : Sm m.ar
theorem allQ_no {l : List Rc} {j : Nat} (hj : j < l.length) (h : mayB l[j].n = false) : allQ l = false := by
  cases hq : allQ l with
  | false => rfl
  | true => have := (allQ_iff.1 hq).2 l[j] (List.getElem_mem hj); rw [h] at this; cases this
theorem allR_no {l : List Rc} {j : Nat} (hj : j < l.length) (h : mayR l[j] = false) : allR l = false := by
  cases hq : allR l with
  | false => rfl
  | true => have := (allR_iff.1 hq).2 l[j] (List.getElem_mem hj); rw [h] at this; cases this
theorem allQ_yes {l : List Rc} (hl : l.length ≤ 65535) (h : ∀ t (ht : t < l.length), mayB l[t].n = true) : allQ l = true := allQ_iff.2 ⟨hl, fun r hr => by obtain ⟨t, ht, rfl⟩ := List.getElem_of_mem hr; exact h t ht⟩
theorem allR_yes {l : List Rc} (hl : l.length ≤ 65535) (h : ∀ t (ht : t < l.length), mayR l[t] = true) : allR l = true := allR_iff.2 ⟨hl, fun r hr => by obtain ⟨t, ht, rfl⟩ := List.getElem_of_mem hr; exact h t ht⟩

set_option maxRecDepth 100000 in
set_option maxHeartbeats 1000000 in
theorem allQ_any (A : Option Addr) (cap : Nat) (l : List Rc) (hs : Sm l) (w : World) (hI : Sl qf w A cap l) (hL : Lay w) :
    Calls Tryz.prog 28 #[.slice A l.length cap, .func (.func 29) #[] #[]] w fun e w' => e = .returned (.bool (allQ l)) ∧ Below w.heap.size w w' := by
  have hlen := hs.len
  have HS := Lib.hid hs
  have HI := Lib.hid hI
  have HL := Lib.hid hL
  have H0 := Lib.hid (lay_lt hL)
  have d1 : decide ((l.length : Int) > 65535) = false := by simp; omega
  clear hI hL hs
  go_enter Tryz.func28, Tryz.ntmps28
  go_wp2_with fail
  go_loopw [12] (fun i wr => ∃ j : Nat, j ≤ l.length ∧ i = .int .i64 j ∧ (∀ t (ht : t < l.length), t < j → mayB l[t].n = true) ∧ Below w.heap.size w wr) (fun i _ => l.length - (intOf i).toNat)
  case atStart => exact ⟨0, Nat.zero_le _, rfl, (fun t _ ht => by omega), Below.refl _ _⟩
  case round =>
    obtain ⟨j, hj, rfl, hall, hbel⟩ := hrel
    by_cases hlt : j < l.length
    · obtain ⟨b, off, rfl, hb, c0, c1, c2⟩ := (HI.out.below' hbel).ask3 j hlt
      obtain ⟨z1, z2, z3⟩ := HS.out.each l[j] (List.getElem_mem hlt)
      have HAll := Lib.hid hall
      have HNo := Lib.hid (allQ_no (l := l) hlt)
      have hnx : mayB l[j].n = true → ∀ t (ht : t < l.length), t < j + 1 → mayB l[t].n = true := fun h t ht hlt' => by
        rcases Nat.lt_or_ge t j with h' | h'
        · exact HAll.out t ht h'
        · obtain rfl : t = j := by omega
          exact h
      have HNx := Lib.hid hnx
      clear hall hnx
      generalize l[j] = r at *
      have hal := hbel.alloc hbel.size (Obj.cells #[.string r.n, .int .u16 (r.k : Nat), .int .u16 (r.c : Nat)] 48)
      have HB := Lib.hid hal
      have HM := Lib.hid (fun w' (_ : Lay w') => mayq_any r.n r.k r.c (by omega) w')
      clear hal hbel
      cases hm : mayB r.n with
      | false =>
        rw [hm] at HM
        have HE := Lib.hid (HNo.out hm)
        clear hm
        go_wp2_with fail
        refine (HM.out _ (HL.out.below H0.out HB.out)).mono ?_
        rintro e w2 ⟨rfl, hb2⟩
        have HB2 := Lib.hid (HB.out.trans (hb2.mono HB.out.size))
        clear hb2
        go_wp2_with fail
        go_ret
        rw [HE.out]
        exact ⟨rfl, HB2.out⟩
      | true =>
        rw [hm] at HM
        have HE := Lib.hid (HNx.out hm)
        clear hm
        go_wp2_with fail
        refine (HM.out _ (HL.out.below H0.out HB.out)).mono ?_
        rintro e w2 ⟨rfl, hb2⟩
        have HB2 := Lib.hid (HB.out.trans (hb2.mono HB.out.size))
        clear hb2
        go_wp2_with fail
        go_roundw
        case rel => exact ⟨j + 1, hlt, by go_num, HE.out, HB2.out⟩
        case measure => simp [intOf]; omega
    · obtain rfl : j = l.length := by omega
      have HB := Lib.hid hbel
      have HY := Lib.hid (allQ_yes (l := l) (by omega) (fun t ht => hall t ht ht))
      clear hall hbel
      go_wp2_with fail
      go_ret
      rw [HY.out]
      exact ⟨rfl, HB.out⟩

set_option maxRecDepth 100000 in
set_option maxHeartbeats 1000000 in
theorem allR_any (A : Option Addr) (cap : Nat) (l : List Rc) (hs : Sm l) (w : World) (hI : Sl rf w A cap l) (hL : Lay w) :
    Calls Tryz.prog 30 #[.slice A l.length cap, .func (.func 31) #[] #[]] w fun e w' => e = .returned (.bool (allR l)) ∧ Below w.heap.size w w' := by
  have hlen := hs.len
  have HS := Lib.hid hs
  have HI := Lib.hid hI
  have HL := Lib.hid hL
  have H0 := Lib.hid (lay_lt hL)
  have d1 : decide ((l.length : Int) > 65535) = false := by simp; omega
  clear hI hL hs
  go_enter Tryz.func30, Tryz.ntmps30
  go_wp2_with fail
  go_loopw [12] (fun i wr => ∃ j : Nat, j ≤ l.length ∧ i = .int .i64 j ∧ (∀ t (ht : t < l.length), t < j → mayR l[t] = true) ∧ Below w.heap.size w wr) (fun i _ => l.length - (intOf i).toNat)
  case atStart => exact ⟨0, Nat.zero_le _, rfl, (fun t _ ht => by omega), Below.refl _ _⟩
  case round =>
    obtain ⟨j, hj, rfl, hall, hbel⟩ := hrel
    by_cases hlt : j < l.length
    · obtain ⟨b, off, rfl, hb, c0, c1, c2, c3, c4⟩ := (HI.out.below' hbel).rec5 j hlt
      obtain ⟨z1, z2, z3⟩ := HS.out.each l[j] (List.getElem_mem hlt)
      have HAll := Lib.hid hall
      have HNo := Lib.hid (allR_no (l := l) hlt)
      have hnx : mayR l[j] = true → ∀ t (ht : t < l.length), t < j + 1 → mayR l[t] = true := fun h t ht hlt' => by
        rcases Nat.lt_or_ge t j with h' | h'
        · exact HAll.out t ht h'
        · obtain rfl : t = j := by omega
          exact h
      have HNx := Lib.hid hnx
      clear hall hnx
      generalize l[j] = r at *
      have hal := hbel.alloc hbel.size (Obj.cells #[.string r.n, .int .u16 (r.k : Nat), .int .u16 (r.c : Nat), .int .u32 (r.t : Nat), .string r.d] 46)
      have HB := Lib.hid hal
      have HM := Lib.hid (fun w' hL' => mayr_any r (by omega) (by omega) z3 w' hL')
      clear hal hbel
      cases hm : mayR r with
      | false =>
        rw [hm] at HM
        have HE := Lib.hid (HNo.out hm)
        clear hm
        go_wp2_with fail
        refine (HM.out _ (HL.out.below H0.out HB.out)).mono ?_
        rintro e w2 ⟨rfl, hb2⟩
        have HB2 := Lib.hid (HB.out.trans (hb2.mono HB.out.size))
        clear hb2
        go_wp2_with fail
        go_ret
        rw [HE.out]
        exact ⟨rfl, HB2.out⟩
      | true =>
        rw [hm] at HM
        have HE := Lib.hid (HNx.out hm)
        clear hm
        go_wp2_with fail
        refine (HM.out _ (HL.out.below H0.out HB.out)).mono ?_
        rintro e w2 ⟨rfl, hb2⟩
        have HB2 := Lib.hid (HB.out.trans (hb2.mono HB.out.size))
        clear hb2
        go_wp2_with fail
        go_roundw
        case rel => exact ⟨j + 1, hlt, by go_num, HE.out, HB2.out⟩
        case measure => simp [intOf]; omega
    · obtain rfl : j = l.length := by omega
      have HB := Lib.hid hbel
      have HY := Lib.hid (allR_yes (l := l) (by omega) (fun t ht => hall t ht ht))
      clear hall hbel
      go_wp2_with fail
      go_ret
      rw [HY.out]
      exact ⟨rfl, HB.out⟩

set_option maxRecDepth 100000 in
set_option maxHeartbeats 1000000 in
theorem maym_any (m : Ms) (d : Ad) (hs : SmM m) (w : World) (hI : Mg w m d) (hL : Lay w) :
    Calls Tryz.prog 10 #[.agg (msV m d)] w fun e w' => e = .returned (.bool (mayM m)) ∧ Below w.heap.size w w' := by
  have hbox := World.alloc_heap_new w (Obj.cells (msV m d) 26)
  have hal := (Below.refl w.heap.size w).alloc (Nat.le_refl _) (Obj.cells (msV m d) 26)
  obtain ⟨w1, hw1⟩ : ∃ w1, w1 = w.alloc (Obj.cells (msV m d) 26) := ⟨_, rfl⟩
  have HB1 := Lib.hid hal
  rw [← hw1] at hbox HB1
  have HX := Lib.hid hbox
  have HW := Lib.hid hw1
  have HL := Lib.hid hL
  have H0 := Lib.hid (lay_lt hL)
  have HI := Lib.hid hI
  have HS := Lib.hid hs
  have hE : mayM m = (codeB m.op && (codeB m.rc && (allQ m.q && (allR m.an && (allR m.ns && allR m.ar))))) := rfl
  have HE := Lib.hid hE
  clear hbox hal hw1 hL hI hs hE
  have HSz := Lib.hid (show w.heap.size < w1.heap.size from heap_lt HX.out)
  have cell : ∀ W, Below w1.heap.size w1 W → ∀ i u, (msV m d)[i]? = some u → W.cell? ⟨w.heap.size, i, none⟩ = some u := fun W hW i u hu => (blk_cell ((hW.block _ HSz.out).trans HX.out) i).trans hu
  have HC := Lib.hid cell
  have c6 := HC.out w1 (Below.refl _ _) 6 (.int .i64 m.op) rfl
  clear cell
  go_enter Tryz.func10, Tryz.ntmps10
  go_upto_region 1 with (fail)
  rw [← HW.out]
  cases h1 : codeB m.op with
  | false =>
    have HK1 := Lib.hid (code_any m.op)
    rw [h1] at HK1 HE
    clear h1
    go_wp2_with fail
    refine (HK1.out _).mono ?_
    rintro e w2 ⟨rfl, rfl⟩
    go_wp2_with fail
    go_ret
    rw [HE.out]
    exact ⟨rfl, HB1.out⟩
  | true =>
    have HK1 := Lib.hid (code_any m.op)
    rw [h1] at HK1 HE
    clear h1
    have c7 := HC.out w1 (Below.refl _ _) 7 (.int .i64 m.rc) rfl
    cases h2 : codeB m.rc with
    | false =>
      have HK2 := Lib.hid (code_any m.rc)
      rw [h2] at HK2 HE
      clear h2
      go_wp2_with fail
      refine (HK1.out _).mono ?_
      rintro e w2 ⟨rfl, rfl⟩
      go_wp2_with fail
      refine (HK2.out _).mono ?_
      rintro e w2 ⟨rfl, rfl⟩
      go_wp2_with fail
      go_ret
      rw [HE.out]
      exact ⟨rfl, HB1.out⟩
    | true =>
      have HK2 := Lib.hid (code_any m.rc)
      rw [h2] at HK2 HE
      clear h2
      have c8 := HC.out w1 (Below.refl _ _) 8 (.slice d.aq m.q.length d.cq) rfl
      go_wp2_with fail
      refine (HK1.out _).mono ?_
      rintro e w2 ⟨rfl, rfl⟩
      go_wp2_with fail
      refine (HK2.out _).mono ?_
      rintro e w2 ⟨rfl, rfl⟩
      go_wp2_with fail
      refine (allQ_any _ _ m.q HS.out.q _ (HI.out.q.below' HB1.out) (HL.out.below H0.out HB1.out)).mono ?_
      rintro e w3 ⟨rfl, hb3⟩
      have HB3 := Lib.hid hb3
      have HB3' := Lib.hid (HB1.out.trans (hb3.mono HB1.out.size))
      clear hb3 c6 c7 c8
      cases h3 : allQ m.q with
      | false =>
        rw [h3] at HE
        clear h3
        go_wp2_with fail
        go_ret
        rw [HE.out]
        exact ⟨rfl, HB3'.out⟩
      | true =>
        rw [h3] at HE
        clear h3
        have c9 := HC.out w3 HB3.out 9 (.slice d.a1 m.an.length d.c1) rfl
        go_wp2_with fail
        refine (allR_any _ _ m.an HS.out.an _ (HI.out.an.below' HB3'.out) (HL.out.below H0.out HB3'.out)).mono ?_
        rintro e w4 ⟨rfl, hb4⟩
        have HB4 := Lib.hid (HB3.out.trans (hb4.mono HB3.out.size))
        have HB4' := Lib.hid (HB3'.out.trans (hb4.mono HB3'.out.size))
        clear hb4 c9
        cases h4 : allR m.an with
        | false =>
          rw [h4] at HE
          clear h4
          go_wp2_with fail
          go_ret
          rw [HE.out]
          exact ⟨rfl, HB4'.out⟩
        | true =>
          rw [h4] at HE
          clear h4
          have c10 := HC.out w4 HB4.out 10 (.slice d.a2 m.ns.length d.c2) rfl
          go_wp2_with fail
          refine (allR_any _ _ m.ns HS.out.ns _ (HI.out.ns.below' HB4'.out) (HL.out.below H0.out HB4'.out)).mono ?_
          rintro e w5 ⟨rfl, hb5⟩
          have HB5 := Lib.hid (HB4.out.trans (hb5.mono HB4.out.size))
          have HB5' := Lib.hid (HB4'.out.trans (hb5.mono HB4'.out.size))
          clear hb5 c10
          cases h5 : allR m.ns with
          | false =>
            rw [h5] at HE
            clear h5
            go_wp2_with fail
            go_ret
            rw [HE.out]
            exact ⟨rfl, HB5'.out⟩
          | true =>
            rw [h5] at HE
            clear h5
            have c11 := HC.out w5 HB5.out 11 (.slice d.a3 m.ar.length d.c3) rfl
            go_wp2_with fail
            refine (allR_any _ _ m.ar HS.out.ar _ (HI.out.ar.below' HB5'.out) (HL.out.below H0.out HB5'.out)).mono ?_
            rintro e w6 ⟨rfl, hb6⟩
            have HB6' := Lib.hid (HB5'.out.trans (hb6.mono HB5'.out.size))
            clear hb6 c11
            generalize allR m.ar = B at HE
            go_wp2_with fail
            go_ret
            rw [HE.out]
            exact ⟨by simp, HB6'.out⟩
end Go.Proofs.YtnakljbginbenaaGreatDoor
