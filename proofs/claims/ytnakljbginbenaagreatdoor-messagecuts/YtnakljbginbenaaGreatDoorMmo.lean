/- The contract of derrickref06.Few. -/
import Derived.Test.YtnakljbginbenaaGreatDoorMmf
namespace Go.Proofs.YtnakljbginbenaaGreatDoor
open Go.RowKit
set_option linter.unusedVariables false

/-- append(own, x...) where x is any slice of records, nil or not. -/
theorem wpList_append_sl {w : World} {ops : Array Oper} {rest : List Oper} {o : Oper} {a : Act} {Q : Exit → Act → World → Prop} (hgd : o.guard = none) (s x : Operand)
    (ho : o.op = .call { callee := .builtin .append, args := #[s, x], argTypes := #[24, 24] })
    (base : Nat) (v : Value) (l0 : List Rc) (hs : a.eval s = v) (hown : w.ownsRow base 46 5 v l0.length (l0.flatMap rf)) (A : Option Addr) (cap : Nat) (l : List Rc) (hSl : Sl rf w A cap l) (hx : a.eval x = .slice A l.length cap)
    (h63 : l0.length + l.length ≤ 1000000) (hbase : base ≤ w.heap.size)
    (h : ∀ v' w', w'.ownsRow base 46 5 v' (l0 ++ l).length ((l0 ++ l).flatMap rf) → w.grownBy w' v.ownBlock → wpList Tryz.prog ops Q rest (a.put o.dst v') w') : wpList Tryz.prog ops Q (o :: rest) a w := by
  obtain ⟨i0, hi, hz0, hz1, hz2⟩ := el_of elR
  cases A with
  | none =>
    obtain rfl := hSl.empty rfl
    have hz := hSl.nl rfl
    subst hz
    exact wpList_append_own_none hgd s x 24 ho base 46 i0 5 Tryz.underlying24 hi v l0.length (l0.flatMap rf) hs hown hx (h v w (by simpa using hown) ⟨rfl, rfl, rfl, Nat.le_refl _, fun _ _ _ => rfl⟩)
  | some ad =>
    refine wpList_append_own w hgd s x 24 ho base 46 i0 zR 5 40 Tryz.underlying24 hi hz0 hz1 hz2 rfl (by decide) v l0.length (l0.flatMap rf) hs hown ad l.length cap (l.flatMap rf) hx (flat_len rf_len l) hSl.src (rf_one l) (by unfold maxLen; omega) (by omega) hbase ?_
    intro v' w' h1 h2 _
    exact h v' w' (by rw [List.length_append, List.flatMap_append]; exact h1) h2

def few1 (r : Rc) : Bool := decide (r.n.size ≤ 300) && decide (r.d.size ≤ 300)
def few0 (r : Rc) : Bool := decide (r.n.size ≤ 300)
def fewM (m : Ms) : Bool := decide (m.q.length ≤ 20) && (decide (m.an.length ≤ 20) && (decide (m.ns.length ≤ 20) && (decide (m.ar.length ≤ 20) && (m.recs.all few1 && m.q.all few0))))
theorem all_no {f : Rc → Bool} {l : List Rc} {j : Nat} (hj : j < l.length) (h : f l[j] = false) : l.all f = false := by
  cases ha : l.all f with
  | false => rfl
  | true => have := List.all_eq_true.1 ha l[j] (List.getElem_mem hj); rw [h] at this; cases this
theorem all_yes {f : Rc → Bool} {l : List Rc} (h : ∀ t (ht : t < l.length), f l[t] = true) : l.all f = true := List.all_eq_true.2 fun r hr => by obtain ⟨t, ht, rfl⟩ := List.getElem_of_mem hr; exact h t ht
theorem fewM_sm {m : Ms} (h : fewM m = true) (hok : m.Ok) : SmM m := by
  unfold fewM at h
  simp only [Bool.and_eq_true, decide_eq_true_iff, List.all_eq_true] at h
  obtain ⟨h1, h2, h3, h4, h5, h6⟩ := h
  have e : ∀ r ∈ m.recs, r.n.size ≤ 65535 ∧ r.d.size ≤ 65535 ∧ r.Ok := fun r hr => by
    have := h5 r hr
    unfold few1 at this
    simp only [Bool.and_eq_true, decide_eq_true_iff] at this
    exact ⟨by omega, by omega, hok.recs r hr⟩
  refine ⟨⟨by omega, fun r hr => ?_⟩, ⟨by omega, fun r hr => e r (by unfold Ms.recs; simp [hr])⟩, ⟨by omega, fun r hr => e r (by unfold Ms.recs; simp [hr])⟩, ⟨by omega, fun r hr => e r (by unfold Ms.recs; simp [hr])⟩⟩
  have := h6 r hr
  unfold few0 at this
  simp only [decide_eq_true_iff] at this
  obtain ⟨k1, k2⟩ := hok.q r hr
  refine ⟨by omega, ?_, k1⟩
  rw [k2]
  show (⟨#[]⟩ : ByteArray).size ≤ _
  decide

set_option maxRecDepth 100000 in
set_option maxHeartbeats 4000000 in
theorem fewm_any (m : Ms) (d : Ad) (w : World) (hI : Mg w m d) :
    Calls Tryz.prog 7 #[.agg (msV m d)] w fun e w' => e = .returned (.bool (fewM m)) ∧ Below w.heap.size w w' := by
  obtain ⟨aq, cq, a1, c1, a2, c2, a3, c3⟩ := d
  have hbox := World.alloc_heap_new w (Obj.cells (msV m ⟨aq, cq, a1, c1, a2, c2, a3, c3⟩) 26)
  have hal := (Below.refl w.heap.size w).alloc (Nat.le_refl _) (Obj.cells (msV m ⟨aq, cq, a1, c1, a2, c2, a3, c3⟩) 26)
  obtain ⟨w1, hw1⟩ : ∃ w1, w1 = w.alloc (Obj.cells (msV m ⟨aq, cq, a1, c1, a2, c2, a3, c3⟩) 26) := ⟨_, rfl⟩
  rw [← hw1] at hbox hal
  have hblk : ∀ W, Below w1.heap.size w1 W → W.heap[w.heap.size]? = some (.cells (msV m ⟨aq, cq, a1, c1, a2, c2, a3, c3⟩) 26 (0, 0)) := fun W hW => (hW.block _ (heap_lt hbox)).trans hbox
  have HW := Lib.hid hw1
  have HX := Lib.hid hblk
  have HAl := Lib.hid hal
  have hIq : Sl qf w1 aq cq m.q := hI.q.below' hal
  have hI1 : Sl rf w1 a1 c1 m.an := hI.an.below' hal
  have hI2 : Sl rf w1 a2 c2 m.ns := hI.ns.below' hal
  have hI3 : Sl rf w1 a3 c3 m.ar := hI.ar.below' hal
  have HQ := Lib.hid hIq
  have H1 := Lib.hid hI1
  have H2 := Lib.hid hI2
  have H3 := Lib.hid hI3
  have e8 : w1.cell? ⟨w.heap.size, 8, none⟩ = some (.slice aq m.q.length cq) := blk_cell hbox 8
  have e9 : w1.cell? ⟨w.heap.size, 9, none⟩ = some (.slice a1 m.an.length c1) := blk_cell hbox 9
  have e10 : w1.cell? ⟨w.heap.size, 10, none⟩ = some (.slice a2 m.ns.length c2) := blk_cell hbox 10
  have e11 : w1.cell? ⟨w.heap.size, 11, none⟩ = some (.slice a3 m.ar.length c3) := blk_cell hbox 11
  have HE := Lib.hid (show fewM m = (decide (m.q.length ≤ 20) && (decide (m.an.length ≤ 20) && (decide (m.ns.length ≤ 20) && (decide (m.ar.length ≤ 20) && (m.recs.all few1 && m.q.all few0))))) from rfl)
  clear hbox hal hw1 hblk hI hIq hI1 hI2 hI3
  go_enter Tryz.func7, Tryz.ntmps7
  go_upto_region 1 with (fail)
  rw [← HW.out]
  clear HW
  by_cases hq : m.q.length ≤ 20
  rotate_left
  · have ghq : decide ((m.q.length : Int) > 20) = true := by simp; omega
    rw [show decide (m.q.length ≤ 20) = false by simpa using hq] at HE
    have HE2 := Lib.hid HE.out
    clear hq HE
    go_wp2_with fail
    go_ret
    refine ⟨?_, HAl.out⟩
    rw [HE2.out]
    simp
  have gq : decide ((m.q.length : Int) > 20) = false := by simp; omega
  rw [show decide (m.q.length ≤ 20) = true by simpa using hq, Bool.true_and] at HE
  by_cases h1 : m.an.length ≤ 20
  rotate_left
  · have gh1 : decide ((m.an.length : Int) > 20) = true := by simp; omega
    rw [show decide (m.an.length ≤ 20) = false by simpa using h1] at HE
    have HE2 := Lib.hid HE.out
    clear h1 HE
    go_wp2_with fail
    go_ret
    refine ⟨?_, HAl.out⟩
    rw [HE2.out]
    simp
  have g1 : decide ((m.an.length : Int) > 20) = false := by simp; omega
  rw [show decide (m.an.length ≤ 20) = true by simpa using h1, Bool.true_and] at HE
  by_cases h2 : m.ns.length ≤ 20
  rotate_left
  · have gh2 : decide ((m.ns.length : Int) > 20) = true := by simp; omega
    rw [show decide (m.ns.length ≤ 20) = false by simpa using h2] at HE
    have HE2 := Lib.hid HE.out
    clear h2 HE
    go_wp2_with fail
    go_ret
    refine ⟨?_, HAl.out⟩
    rw [HE2.out]
    simp
  have g2 : decide ((m.ns.length : Int) > 20) = false := by simp; omega
  rw [show decide (m.ns.length ≤ 20) = true by simpa using h2, Bool.true_and] at HE
  by_cases h3 : m.ar.length ≤ 20
  rotate_left
  · have gh3 : decide ((m.ar.length : Int) > 20) = true := by simp; omega
    rw [show decide (m.ar.length ≤ 20) = false by simpa using h3] at HE
    have HE2 := Lib.hid HE.out
    clear h3 HE
    go_wp2_with fail
    go_ret
    refine ⟨?_, HAl.out⟩
    rw [HE2.out]
    simp
  have g3 : decide ((m.ar.length : Int) > 20) = false := by simp; omega
  rw [show decide (m.ar.length ≤ 20) = true by simpa using h3, Bool.true_and] at HE
  have hb2 := HAl.out.alloc HAl.out.size (Obj.cells #[] 46)
  have hb2' := (Below.refl w1.heap.size w1).alloc (Nat.le_refl _) (Obj.cells #[] 46)
  have ho2 := World.ownsRow_made (base := w1.heap.size) (e := 46) (size := 5) w1 #[] 0 (Nat.le_refl _) (Nat.zero_le _) (by simp)
  have HB2 := Lib.hid hb2'
  have HO2 := Lib.hid ho2
  have HS2 := Lib.hid (H1.out.below' hb2')
  have k9 : (w1.alloc (Obj.cells #[] 46)).cell? ⟨w.heap.size, 9, none⟩ = some (.slice a1 m.an.length c1) := blk_cell (HX.out _ hb2') 9
  clear hb2 hb2' ho2
  go_upto_region 4 with (at_builtin; refine wpList_append_sl rfl _ _ rfl w1.heap.size _ [] rfl HO2.out a1 c1 m.an HS2.out rfl ?q1 ?q2 ?_)
  case q1 => simp; omega
  case q2 => exact HB2.out.size
  intro v3 w3 ho3' hg3
  have ho3 : w3.ownsRow w1.heap.size 46 5 v3 m.an.length (m.an.flatMap rf) := by simpa using ho3'
  clear ho3'
  obtain ⟨A3, p3, rfl⟩ := ownR_form ho3
  have hb3 := HB2.out.grown hg3 HB2.out.size (fun k hk => (HO2.out.lt k hk).1)
  have HO3 := Lib.hid ho3
  have HB3 := Lib.hid hb3
  have HS3 := Lib.hid (H2.out.below' hb3)
  have k10 : w3.cell? ⟨w.heap.size, 10, none⟩ = some (.slice a2 m.ns.length c2) := blk_cell (HX.out _ hb3) 10
  clear ho3 hb3 hg3 k9 e8 e9 e10 e11 HO2 HB2 HS2
  go_wp2_with (at_builtin; refine wpList_append_sl rfl _ _ rfl w1.heap.size _ m.an rfl HO3.out a2 c2 m.ns HS3.out rfl ?q1 ?q2 ?_)
  case q1 => omega
  case q2 => exact HB3.out.size
  intro v4 w4 ho4' hg4
  have ho4 : w4.ownsRow w1.heap.size 46 5 v4 (m.an ++ m.ns).length ((m.an ++ m.ns).flatMap rf) := by simpa using ho4'
  clear ho4'
  obtain ⟨A4, p4, hv4⟩ := ownR_form ho4
  rw [List.length_append] at hv4
  subst hv4
  have hb4 := HB3.out.grown hg4 HB3.out.size (fun k hk => (HO3.out.lt k hk).1)
  have HO4 := Lib.hid ho4
  have HB4 := Lib.hid hb4
  have HS4 := Lib.hid (H3.out.below' hb4)
  have k11 : w4.cell? ⟨w.heap.size, 11, none⟩ = some (.slice a3 m.ar.length c3) := blk_cell (HX.out _ hb4) 11
  clear ho4 hb4 hg4 k10 HO3 HB3 HS3
  go_wp2_with (at_builtin; refine wpList_append_sl rfl _ _ rfl w1.heap.size _ (m.an ++ m.ns) rfl HO4.out a3 c3 m.ar HS4.out rfl ?q1 ?q2 ?_)
  case q1 => rw [List.length_append]; omega
  case q2 => exact HB4.out.size
  intro v5 w5 ho5 hg5
  have hrl : m.recs.length ≤ 60 := by rw [recs_len]; omega
  have ho5' : w5.ownsRow w1.heap.size 46 5 v5 m.recs.length (m.recs.flatMap rf) := by unfold Ms.recs; simpa [Nat.add_assoc] using ho5
  obtain ⟨A5, p5, rfl, hS5⟩ := Sl.own rf_len ho5'
  have hb5 := HB4.out.grown hg5 HB4.out.size (fun k hk => (HO4.out.lt k hk).1)
  have HB5 := Lib.hid hb5
  have HS5 := Lib.hid hS5
  clear ho5 ho5' hb5 hg5 k11 HO4 HB4 HS4 hS5 gq g1 g2 g3
  go_wp2_with fail
  go_loopw [4] (fun i wr => ∃ j : Nat, j ≤ m.recs.length ∧ i = .int .i64 j ∧ (∀ t (ht : t < m.recs.length), t < j → few1 m.recs[t] = true) ∧ w5 = wr) (fun i _ => m.recs.length - (intOf i).toNat)
  case atStart => exact ⟨0, Nat.zero_le _, rfl, (fun t _ ht => by omega), rfl⟩
  case round =>
    obtain ⟨j, hj, rfl, hall, rfl⟩ := hrel
    by_cases hlt : j < m.recs.length
    · obtain ⟨b, off, rfl, hb, c0, _, _, _, c4⟩ := HS5.out.rec5 j hlt
      have HNo := Lib.hid (all_no (f := few1) (l := m.recs) hlt)
      have HAll := Lib.hid hall
      have hnx : few1 m.recs[j] = true → ∀ t (ht : t < m.recs.length), t < j + 1 → few1 m.recs[t] = true := fun h t ht hlt' => by
        rcases Nat.lt_or_ge t j with h' | h'
        · exact HAll.out t ht h'
        · obtain rfl : t = j := by omega
          exact h
      have HNx := Lib.hid hnx
      clear hall hnx
      generalize m.recs[j] = r at *
      by_cases hn : r.n.size ≤ 300
      · have t1 : decide ((r.n.size : Int) > 300) = false := by simp; omega
        by_cases hd : r.d.size ≤ 300
        · have t2 : decide ((r.d.size : Int) > 300) = false := by simp; omega
          have HE3 := Lib.hid (HNx.out (by unfold few1; simp [hn, hd]))
          clear hn hd
          go_wp2_with fail
          go_roundw
          case rel => exact ⟨j + 1, hlt, by go_num, HE3.out, by first | rfl | trivial⟩
          case measure => simp [intOf]; omega
        · have t2 : decide ((r.d.size : Int) > 300) = true := by simp; omega
          have HE3 := Lib.hid (HNo.out (by unfold few1; simp [hd]))
          clear hn hd
          go_wp2_with fail
          go_ret
          refine ⟨?_, HAl.out.trans (HB5.out.mono HAl.out.size)⟩
          rw [HE.out, HE3.out]
          rfl
      · have t1 : decide ((r.n.size : Int) > 300) = true := by simp; omega
        have HE3 := Lib.hid (HNo.out (by unfold few1; simp [hn]))
        clear hn
        go_wp2_with fail
        go_ret
        refine ⟨?_, HAl.out.trans (HB5.out.mono HAl.out.size)⟩
        rw [HE.out, HE3.out]
        rfl
    · obtain rfl : j = m.recs.length := by omega
      rw [all_yes (f := few1) (l := m.recs) (fun t ht => hall t ht ht), Bool.true_and] at HE
      have e8 : w5.cell? ⟨w.heap.size, 8, none⟩ = some (.slice aq m.q.length cq) := blk_cell (HX.out _ HB5.out) 8
      have HQ5 := Lib.hid (HQ.out.below' HB5.out)
      have HF := Lib.hid (HAl.out.trans (HB5.out.mono HAl.out.size))
      clear hall
      go_wp2_with fail
      go_loopw [5] (fun i wr => ∃ j : Nat, j ≤ m.q.length ∧ i = .int .i64 j ∧ (∀ t (ht : t < m.q.length), t < j → few0 m.q[t] = true) ∧ w5 = wr) (fun i _ => m.q.length - (intOf i).toNat)
      case atStart => exact ⟨0, Nat.zero_le _, rfl, (fun t _ ht => by omega), rfl⟩
      case round =>
        obtain ⟨j, hj, rfl, hall, rfl⟩ := hrel
        by_cases hlt : j < m.q.length
        · obtain ⟨b, off, rfl, hb, c0, _, _⟩ := HQ5.out.ask3 j hlt
          have HNo := Lib.hid (all_no (f := few0) (l := m.q) hlt)
          have HAll := Lib.hid hall
          have hnx : few0 m.q[j] = true → ∀ t (ht : t < m.q.length), t < j + 1 → few0 m.q[t] = true := fun h t ht hlt' => by
            rcases Nat.lt_or_ge t j with h' | h'
            · exact HAll.out t ht h'
            · obtain rfl : t = j := by omega
              exact h
          have HNx := Lib.hid hnx
          clear hall hnx
          generalize m.q[j] = r at *
          by_cases hn : r.n.size ≤ 300
          · have t1 : decide ((r.n.size : Int) > 300) = false := by simp; omega
            have HE3 := Lib.hid (HNx.out (by unfold few0; simp [hn]))
            clear hn
            go_wp2_with fail
            go_roundw
            case rel => exact ⟨j + 1, hlt, by go_num, HE3.out, by first | rfl | trivial⟩
            case measure => simp [intOf]; omega
          · have t1 : decide ((r.n.size : Int) > 300) = true := by simp; omega
            have HE3 := Lib.hid (HNo.out (by unfold few0; simp [hn]))
            clear hn
            go_wp2_with fail
            go_ret
            refine ⟨?_, HF.out⟩
            rw [HE.out, HE3.out]
            rfl
        · obtain rfl : j = m.q.length := by omega
          rw [all_yes (f := few0) (l := m.q) (fun t ht => hall t ht ht)] at HE
          clear hall
          go_wp2_with fail
          go_ret
          refine ⟨?_, HF.out⟩
          rw [HE.out]
          rfl
end Go.Proofs.YtnakljbginbenaaGreatDoor
