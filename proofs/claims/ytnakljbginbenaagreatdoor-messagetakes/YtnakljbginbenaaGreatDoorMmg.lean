/- The contract of message's begin: a pack with the header and the questions. -/
import Derived.Test.YtnakljbginbenaaGreatDoorMmf
namespace Go.Proofs.YtnakljbginbenaaGreatDoor
open Go.RowKit
set_option linter.unusedVariables false

/-- The counts, and the header up to so many of them. -/
def cntM (m : Ms) : Nat → Nat
  | 0 => m.q.length
  | 1 => m.an.length
  | 2 => m.ns.length
  | _ => m.ar.length
def hdU (m : Ms) : Nat → List UInt8
  | 0 => b16 m.id ++ b16 (bitsN m)
  | j + 1 => hdU m j ++ b16 (cntM m j)
theorem hdU_all (m : Ms) : hdU m 4 = hdM m := by
  show ((((b16 m.id ++ b16 (bitsN m)) ++ b16 m.q.length) ++ b16 m.an.length) ++ b16 m.ns.length) ++ b16 m.ar.length = hdM m
  unfold hdM
  simp only [List.append_assoc]
theorem hdU_len (m : Ms) : ∀ j, (hdU m j).length = 4 + 2 * j
  | 0 => by show (b16 m.id ++ b16 (bitsN m)).length = _; simp [b16_len]
  | j + 1 => by show (hdU m j ++ b16 (cntM m j)).length = _; rw [List.length_append, hdU_len m j, b16_len]; omega

set_option maxRecDepth 100000 in
set_option maxHeartbeats 2000000 in
theorem begin_any (m : Ms) (d : Ad) (hm : MayM m) (hok : m.Ok) (hs : SmM m) (w : World) (hI : Mg w m d) (hL : Lay w) :
    Calls Tryz.prog 21 #[.agg (msV m d)] w fun e w' => e = .returned (.pointer (some ⟨w.heap.size + 1, 0, none⟩)) ∧ St (w.heap.size + 1) (w.heap.size + 1) (bgM m).1 (bgM m).2 w' ∧ Below w.heap.size w w' := by
  obtain ⟨aq, cq, a1, c1, a2, c2, a3, c3⟩ := d
  have hbox := World.alloc_heap_new w (Obj.cells (msV m ⟨aq, cq, a1, c1, a2, c2, a3, c3⟩) 26)
  have hal := (Below.refl w.heap.size w).alloc (Nat.le_refl _) (Obj.cells (msV m ⟨aq, cq, a1, c1, a2, c2, a3, c3⟩) 26)
  have hsz : (w.alloc (Obj.cells (msV m ⟨aq, cq, a1, c1, a2, c2, a3, c3⟩) 26)).heap.size = w.heap.size + 1 := by simp
  obtain ⟨w1, hw1⟩ : ∃ w1, w1 = w.alloc (Obj.cells (msV m ⟨aq, cq, a1, c1, a2, c2, a3, c3⟩) 26) := ⟨_, rfl⟩
  rw [← hw1] at hbox hal hsz
  have HW := Lib.hid hw1
  have HAl := Lib.hid hal
  have HSz := Lib.hid hsz
  have hIq : Sl qf w1 aq cq m.q := (hI.below hal).q
  have HI := Lib.hid hIq
  have HL := Lib.hid (hL.below (lay_lt hL) hal)
  have HM := Lib.hid hm
  have HOk := Lib.hid hok
  have HSm := Lib.hid hs
  have hblk : ∀ W, Below (w.heap.size + 1) w1 W → W.heap[w.heap.size]? = some (.cells (msV m ⟨aq, cq, a1, c1, a2, c2, a3, c3⟩) 26 (0, 0)) := fun W hW => (hW.block _ (by omega)).trans hbox
  have HX := Lib.hid hblk
  have HB0 := Lib.hid (bitsN_lt hm.op.2 hm.rc.2)
  clear hbox hal hsz hw1 hI hIq hL hm hok hs hblk
  go_enter Tryz.func21, Tryz.ntmps21
  go_upto_region 1 with (fail)
  rw [← HW.out]
  clear HW
  go_wp2_with fail
  refine (new_any _).mono ?_
  rintro e w2 ⟨rfl, hI2, hb2⟩
  rw [HSz.out] at hI2 hb2 ⊢
  have HS2 := Lib.hid (St.new hI2)
  have HB2 := Lib.hid hb2
  have HZ2 := Lib.hid (show w.heap.size + 1 ≤ w2.heap.size by have := hb2.size; have := HSz.out; omega)
  have c0 : w2.cell? ⟨w.heap.size, 0, none⟩ = some (.int .u16 (m.id : Nat)) := blk_cell (HX.out _ hb2) 0
  clear hI2 hb2
  go_wp2_with fail
  refine (Oc.Put16b (m.id : Nat) _ (by omega) (by have := HOk.out.id; omega)).mono ?_
  rintro e w3 ⟨rfl, hb3⟩
  have HS3 := Lib.hid (HS2.out.below hb3)
  have HB3 := Lib.hid (HB2.out.trans (hb3.mono HZ2.out))
  have HZ3 := Lib.hid (Nat.le_trans HZ2.out hb3.size)
  clear hb3 c0 HS2 HB2 HZ2
  go_wp2_with fail
  refine (add_step _ _ _ _ _ _ HS3.out (by rw [Oc.bstr_size]; simp) HZ3.out).mono ?_
  rintro e w4 ⟨rfl, hs4, hb4, _⟩
  rw [bstr16 HOk.out.id, List.nil_append] at hs4
  have HS4 := Lib.hid hs4
  have HB4 := Lib.hid (HB3.out.trans hb4)
  have HZ4 := Lib.hid (Nat.le_trans HZ3.out hb4.size)
  have HX4 := Lib.hid (HX.out _ HB4.out)
  clear hs4 hb4 HS3 HB3 HZ3
  go_wp2_with (refine wpList_load_row rfl 26 _ rfl w.heap.size rfl 26 _ _ _ HX4.out Tryz.underlying26 rfl (infoM' m ⟨aq, cq, a1, c1, a2, c2, a3, c3⟩) ?_)
  refine (bitsOf_any m ⟨aq, cq, a1, c1, a2, c2, a3, c3⟩ HM.out.op HM.out.rc _).mono ?_
  rintro e w5 ⟨rfl, hb5⟩
  have HS5 := Lib.hid (HS4.out.below hb5)
  have HB5 := Lib.hid (HB4.out.trans (hb5.mono HZ4.out))
  have HZ5 := Lib.hid (Nat.le_trans HZ4.out hb5.size)
  clear hb5 HS4 HB4 HZ4 HX4
  go_wp2_with fail
  refine (Oc.Put16b (bitsN m : Nat) _ (by omega) (by have := HB0.out; omega)).mono ?_
  rintro e w6 ⟨rfl, hb6⟩
  have HS6 := Lib.hid (HS5.out.below hb6)
  have HB6 := Lib.hid (HB5.out.trans (hb6.mono HZ5.out))
  have HZ6 := Lib.hid (Nat.le_trans HZ5.out hb6.size)
  clear hb6 HS5 HB5 HZ5
  go_wp2_with fail
  refine (add_step _ _ _ _ _ _ HS6.out (by rw [Oc.bstr_size, b16_len]; omega) HZ6.out).mono ?_
  rintro e w7 ⟨rfl, hs7, hb7, _⟩
  rw [bstr16 HB0.out] at hs7
  have HS7 := Lib.hid hs7
  have HB7 := Lib.hid (HB6.out.trans hb7)
  have HZ7 := Lib.hid (Nat.le_trans HZ6.out hb7.size)
  have hx7 := HX.out _ HB7.out
  have c8 : w7.cell? ⟨w.heap.size, 8, none⟩ = some (.slice aq m.q.length cq) := blk_cell hx7 8
  have c9 : w7.cell? ⟨w.heap.size, 9, none⟩ = some (.slice a1 m.an.length c1) := blk_cell hx7 9
  have c10 : w7.cell? ⟨w.heap.size, 10, none⟩ = some (.slice a2 m.ns.length c2) := blk_cell hx7 10
  have c11 : w7.cell? ⟨w.heap.size, 11, none⟩ = some (.slice a3 m.ar.length c3) := blk_cell hx7 11
  clear hs7 hb7 HS6 HB6 HZ6 hx7
  go_wp2_with fail
  go_loopw [32] (fun i wr => ∃ j : Nat, j ≤ 4 ∧ i = .int .i64 j ∧ St (w.heap.size + 1) (w.heap.size + 1) (hdU m j) [] wr ∧ Below (w.heap.size + 1) w1 wr) (fun i _ => 4 - (intOf i).toNat)
  case atStart => exact ⟨0, Nat.zero_le _, rfl, HS7.out, HB7.out⟩
  case round =>
    clear HS7 HB7 HZ7 c8 c9 c10 c11
    obtain ⟨j, hj, rfl, hst, hbel⟩ := hrel
    have HSt := Lib.hid hst
    have HBel := Lib.hid hbel
    have HZ := Lib.hid (show w.heap.size + 1 ≤ wr.heap.size by have := hbel.size; have := HSz.out; omega)
    clear hst hbel
    by_cases hlt : j < 4
    · have hcn : cntM m j ≤ 65535 := by
        have h1 := HM.out.q.1; have h2 := HM.out.an.1; have h3 := HM.out.ns.1; have h4 := HM.out.ar.1
        have hc : j = 0 ∨ j = 1 ∨ j = 2 ∨ j = 3 := by omega
        rcases hc with rfl | rfl | rfl | rfl <;> assumption
      have hix : ∀ w', (Instr.index 70 (.agg #[.int .i64 m.q.length, .int .i64 m.an.length, .int .i64 m.ns.length, .int .i64 m.ar.length]) (.int .i64 j)).run Tryz.prog w' = .ok (.int .i64 (cntM m j)) w' := by
        have hc : j = 0 ∨ j = 1 ∨ j = 2 ∨ j = 3 := by omega
        rcases hc with rfl | rfl | rfl | rfl <;> (intro w'; kernel_rfl)
      have hnx : hdU m (j + 1) = hdU m j ++ b16 (cntM m j) := rfl
      have hle := hdU_len m j
      generalize cntM m j = C at *
      have hwr : IntKind.u16.wrap (C : Int) = C := u16w _ (by omega) (by omega)
      have HNx := Lib.hid hnx
      have HLe := Lib.hid hle
      clear hnx hle
      go_wp2_with fail
      refine (Oc.Put16b (C : Nat) _ (by omega) (by omega)).mono ?_
      rintro e w8 ⟨rfl, hb8⟩
      have HS8 := Lib.hid (HSt.out.below hb8)
      have HB8 := Lib.hid (HBel.out.trans (hb8.mono HZ.out))
      have HZ8 := Lib.hid (Nat.le_trans HZ.out hb8.size)
      clear hb8
      go_wp2_with fail
      refine (add_step _ _ _ _ _ _ HS8.out (by rw [Oc.bstr_size, HLe.out]; omega) HZ8.out).mono ?_
      rintro e w9 ⟨rfl, hs9, hb9, _⟩
      rw [bstr16 (by omega), ← HNx.out] at hs9
      have HS9 := Lib.hid hs9
      have HB9 := Lib.hid (HB8.out.trans hb9)
      clear hs9 hb9
      go_wp2_with fail
      go_roundw
      case rel => exact ⟨j + 1, hlt, by go_num, HS9.out, HB9.out⟩
      case measure => simp [intOf]; omega
    · obtain rfl : j = 4 := by omega
      rw [show ((4 : Nat) : Int) = 4 from rfl]
      rw [hdU_all] at HSt
      have c8 : wr.cell? ⟨w.heap.size, 8, none⟩ = some (.slice aq m.q.length cq) := blk_cell (HX.out _ HBel.out) 8
      have hql := HSm.out.q.len
      go_wp2_with fail
      go_loopw [44] (fun i wr => ∃ j : Nat, j ≤ m.q.length ∧ i = .int .i64 j ∧ St (w.heap.size + 1) (w.heap.size + 1) (qsF (hdM m, []) (m.q.take j)).1 (qsF (hdM m, []) (m.q.take j)).2 wr ∧ Below (w.heap.size + 1) w1 wr) (fun i _ => m.q.length - (intOf i).toNat)
      case atStart => exact ⟨0, Nat.zero_le _, rfl, by simpa [qsF] using HSt.out, HBel.out⟩
      case round =>
        clear HSt HBel HZ c8
        obtain ⟨j, hj, rfl, hst, hbel⟩ := hrel
        have HSt := Lib.hid hst
        have HBel := Lib.hid hbel
        have HZ := Lib.hid (show w.heap.size + 1 ≤ wr.heap.size by have := hbel.size; have := HSz.out; omega)
        by_cases hlt : j < m.q.length
        · obtain ⟨b, off, rfl, hb, e0, e1, e2⟩ := (HI.out.below hbel (fun b off hA => by
            rcases HI.out.has with h1 | ⟨b', off', h1, h2, _⟩
            · rw [h1] at hlt; cases hlt
            · rw [hA] at h1; cases h1; have := HSz.out; omega)).ask3 j hlt
          obtain ⟨z1, z2, z3⟩ := HSm.out.q.each m.q[j] (List.getElem_mem hlt)
          have hmy := HM.out.q.2 m.q[j] (List.getElem_mem hlt)
          have hnx := qsF_next (hdM m, []) m.q j hlt
          have hap := qsF_app (m.q.take j) (hdM m, []) (Good.nil _) (fun r hr => HM.out.q.2 r (List.mem_of_mem_take hr))
          obtain ⟨⟨Y, y1, y2⟩, _⟩ := hap
          have hln : (qsF (hdM m, []) (m.q.take j)).1.length ≤ 12 + 259 * 6000 := by
            rw [y1, List.length_append]
            show (hdM m).length + _ ≤ _
            rw [hdM_len]
            rw [List.length_take] at y2
            omega
          have HNx := Lib.hid hnx
          have HLn := Lib.hid hln
          have HMy := Lib.hid hmy
          clear hst hbel hnx y1 y2 hmy hln
          generalize m.q[j] = r at *
          generalize hX : qsF (hdM m, []) (m.q.take j) = X at *
          clear hX
          have hal := (HSt.out.more ((Below.refl _ wr).alloc (Nat.le_refl _) (Obj.cells #[.string r.n, .int .u16 (r.k : Nat), .int .u16 (r.c : Nat)] 48)) HZ.out)
          have HA := Lib.hid hal
          have HZ8 := Lib.hid (Nat.le_trans HZ.out hal.2.1.size)
          clear hal
          go_wp2_with fail
          refine (putq_any _ _ X.1 X.2 r (by omega) z3 (by have := HLn.out; omega) _ HA.out.1 HZ8.out).mono ?_
          rintro e w9 ⟨rfl, hs9, hb9, _⟩
          generalize stE r.n = E
          have e9 : pqS X.1 X.2 r = putQ X.1 X.2 r := by unfold pqS; rw [if_pos HMy.out]
          rw [e9, ← HNx.out] at hs9
          have HS9 := Lib.hid hs9
          have HB9 := Lib.hid (HBel.out.trans (HA.out.2.1.trans hb9))
          clear hs9 hb9 e9
          go_wp2_with fail
          go_roundw
          case rel => exact ⟨j + 1, hlt, by go_num, HS9.out, HB9.out⟩
          case measure => simp [intOf]; omega
        · obtain rfl : j = m.q.length := by omega
          rw [List.take_length] at HSt
          have HF := Lib.hid (HAl.out.trans (hbel.mono (by omega)))
          clear hst hbel
          go_wp2_with fail
          go_ret
          exact ⟨rfl, HSt.out, HF.out⟩
end Go.Proofs.YtnakljbginbenaaGreatDoor
