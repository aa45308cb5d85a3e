/- The contracts of derrickref06.one and derrickref06.header. -/
import Derived.Test.YtnakljbginbenaaGreatDoorMmb
import Derived.Deep.QuietTactic
import Derived.BigQuiet
import Derived.RegionTactic
import Derived.Deep.RegionHeld
import Derived.Deep.DeepCutAuto
namespace Go.Proofs.YtnakljbginbenaaGreatDoor
open Go.RowKit
set_option linter.unusedVariables false

/-- 1, if something is so; else 0. -/
def oneI (b : Bool) : Int := if b = true then 1 else 0
theorem oneI_le (b : Bool) : 0 ≤ oneI b ∧ oneI b ≤ 1 := by unfold oneI; split <;> omega
theorem oneI_nat (b : Bool) : oneI b = (b.toNat : Int) := by cases b <;> rfl
theorem one_any (b : Bool) (w : World) : Calls Tryz.prog 83 #[.bool b] w fun e w' => e = .returned (.int .i64 (oneI b)) ∧ w' = w := by
  cases b
  all_goals
    go_enter Tryz.func83, Tryz.ntmps83
    go_wp2
    go_ret
    exact ⟨rfl, rfl⟩
/-- The two bytes behind the ID. -/
def hiA (m : Ms) : Int := 128 * oneI m.qr + 8 * m.op + 4 * oneI m.aa + 2 * oneI m.tc + oneI m.rd
def loB (m : Ms) : Int := 128 * oneI m.ra + m.rc
theorem bits_ab {m : Ms} (h1 : 0 ≤ m.op ∧ m.op ≤ 15) (h2 : 0 ≤ m.rc ∧ m.rc ≤ 15) : (bitsN m : Int) / 256 = hiA m ∧ (bitsN m : Int) % 256 = loB m := by
  unfold bitsN hiA loB
  simp only [oneI_nat]
  have q1 := toNat_le m.qr
  have q2 := toNat_le m.aa
  have q3 := toNat_le m.tc
  have q4 := toNat_le m.rd
  have q5 := toNat_le m.ra
  omega
theorem conv_two_at (n : Int) (h0 : 0 ≤ n) (h1 : n < 65536) (W : World) (g : Nat) (h : W.heap[g]? = some (.cells #[.int .u8 (n / 256), .int .u8 (n % 256)] 5 (0, 0))) :
    (convert 88 9 (.slice (some ⟨g, 0, none⟩) 2 2)).run Tryz.prog W = .ok (.string (Oc.bstr n 2)) W := by
  have b0 := Oc.byteAt_toNat n 2 0 h0
  have b1 := Oc.byteAt_toNat n 2 1 h0
  simp only [Nat.reduceMul, Nat.reduceSub, Int.reducePow, Int.pow_zero, Int.ediv_one, Nat.mul_zero] at b0 b1
  have e : n / 256 % 256 = n / 256 := by omega
  rw [e] at b0
  rw [← b0, ← b1] at h
  refine run_convert_bytes_back (P := Tryz.prog) W 88 9 5 ⟨g, 0, none⟩ 2 [Oc.byteAt n 2 0, Oc.byteAt n 2 1] Tryz.underlying88 Tryz.underlying5 Tryz.underlying9 (fun j hj => ?_)
  match j, hj with
  | 0, _ => exact blk_cell h 0
  | 1, _ => exact blk_cell h 1
theorem hdM_strs {m : Ms} (hid : m.id < 65536) (hb : bitsN m < 65536) (hq : m.q.length ≤ 65535) (h1 : m.an.length ≤ 65535) (h2 : m.ns.length ≤ 65535) (h3 : m.ar.length ≤ 65535) :
    Oc.bstr (m.id : Nat) 2 ++ Oc.bstr (bitsN m : Nat) 2 ++ Oc.bstr (m.q.length : Nat) 2 ++ Oc.bstr (m.an.length : Nat) 2 ++ Oc.bstr (m.ns.length : Nat) 2 ++ Oc.bstr (m.ar.length : Nat) 2 = ⟨(hdM m).toArray⟩ := by
  apply ba_ext
  simp only [ByteArray.data_append, Array.toList_append, bstr16 hid, bstr16 hb, bstr16 (show m.q.length < 65536 by omega), bstr16 (show m.an.length < 65536 by omega), bstr16 (show m.ns.length < 65536 by omega), bstr16 (show m.ar.length < 65536 by omega)]
  unfold hdM
  simp only [List.append_assoc]

set_option maxRecDepth 100000 in
set_option maxHeartbeats 4000000 in
theorem fheader_any (m : Ms) (d : Ad) (h1 : 0 ≤ m.op ∧ m.op ≤ 15) (h2 : 0 ≤ m.rc ∧ m.rc ≤ 15) (hid : m.id < 65536) (hlq : m.q.length ≤ 65535) (hl1 : m.an.length ≤ 65535) (hl2 : m.ns.length ≤ 65535) (hl3 : m.ar.length ≤ 65535) (w : World) :
    Calls Tryz.prog 54 #[.agg (msV m d)] w fun e w' => e = .returned (.string ⟨(hdM m).toArray⟩) ∧ Below w.heap.size w w' := by
  have hbox := World.alloc_heap_new w (Obj.cells (msV m d) 26)
  have hal := (Below.refl w.heap.size w).alloc (Nat.le_refl _) (Obj.cells (msV m d) 26)
  obtain ⟨w1, hw1⟩ : ∃ w1, w1 = w.alloc (Obj.cells (msV m d) 26) := ⟨_, rfl⟩
  rw [← hw1] at hbox hal
  have HB1 := Lib.hid hal
  have HX := Lib.hid (fun W (hW : Below w1.heap.size w1 W) => (hW.block _ (heap_lt hbox)).trans hbox)
  have HW := Lib.hid hw1
  have hbl := bitsN_lt (m := m) h1.2 h2.2
  obtain ⟨ba, bb⟩ := bits_ab h1 h2
  have hcv := conv_two_at (bitsN m : Nat) (by omega) (by omega)
  rw [ba, bb] at hcv
  have hend := hdM_strs hid hbl hlq hl1 hl2 hl3
  have hA : 0 ≤ hiA m ∧ hiA m ≤ 255 := by omega
  have hB : 0 ≤ loB m ∧ loB m ≤ 255 := by omega
  have hA' : hiA m = 128 * oneI m.qr + 8 * m.op + 4 * oneI m.aa + 2 * oneI m.tc + oneI m.rd := rfl
  have hB' : loB m = 128 * oneI m.ra + m.rc := rfl
  have hp0 := fun w' => Oc.rput16 (m.id : Nat) w' (by omega) (by omega)
  have hp1 := fun w' => Oc.rput16 (m.q.length : Nat) w' (by omega) (by omega)
  have hp2 := fun w' => Oc.rput16 (m.an.length : Nat) w' (by omega) (by omega)
  have hp3 := fun w' => Oc.rput16 (m.ns.length : Nat) w' (by omega) (by omega)
  have hp4 := fun w' => Oc.rput16 (m.ar.length : Nat) w' (by omega) (by omega)
  have z0 := Oc.bstr_size (m.id : Nat) 2
  have zx := Oc.bstr_size (bitsN m : Nat) 2
  have z1 := Oc.bstr_size (m.q.length : Nat) 2
  have z2 := Oc.bstr_size (m.an.length : Nat) 2
  have z3 := Oc.bstr_size (m.ns.length : Nat) 2
  have z4 := Oc.bstr_size (m.ar.length : Nat) 2
  generalize Oc.bstr (m.id : Nat) 2 = s0 at *
  generalize Oc.bstr (bitsN m : Nat) 2 = sx at *
  generalize Oc.bstr (m.q.length : Nat) 2 = s1 at *
  generalize Oc.bstr (m.an.length : Nat) 2 = s2 at *
  generalize Oc.bstr (m.ns.length : Nat) 2 = s3 at *
  generalize Oc.bstr (m.ar.length : Nat) 2 = s4 at *
  have HP0 := Lib.hid hp0
  have HP1 := Lib.hid hp1
  have HP2 := Lib.hid hp2
  have HP3 := Lib.hid hp3
  have HP4 := Lib.hid hp4
  have HEnd := Lib.hid hend
  have HZs := Lib.hid (show s0.size = 2 ∧ sx.size = 2 ∧ s1.size = 2 ∧ s2.size = 2 ∧ s3.size = 2 ∧ s4.size = 2 from ⟨z0, zx, z1, z2, z3, z4⟩)
  have hqr := oneI_le m.qr
  have haa := oneI_le m.aa
  have htc := oneI_le m.tc
  have hrd := oneI_le m.rd
  have hra := oneI_le m.ra
  have HCv := Lib.hid hcv
  have wq1 : IntKind.u16.wrap (m.q.length : Int) = m.q.length := IntWalk.u16_in _ (by omega)
  have wq2 : IntKind.u16.wrap (m.an.length : Int) = m.an.length := IntWalk.u16_in _ (by omega)
  have wq3 : IntKind.u16.wrap (m.ns.length : Int) = m.ns.length := IntWalk.u16_in _ (by omega)
  have wq4 : IntKind.u16.wrap (m.ar.length : Int) = m.ar.length := IntWalk.u16_in _ (by omega)
  have HWq := Lib.hid (And.intro wq1 (And.intro wq2 (And.intro wq3 wq4)))
  clear wq1 wq2 wq3 wq4 hp0 hp1 hp2 hp3 hp4 hend z0 zx z1 z2 z3 z4 hcv ba bb hbl hw1 hal hbox hlq hl1 hl2 hl3 hid
  have hz := HX.out w1 (Below.refl _ _)
  have c1 : w1.cell? ⟨w.heap.size, 1, none⟩ = some (.bool m.qr) := blk_cell hz 1
  have c2 : w1.cell? ⟨w.heap.size, 2, none⟩ = some (.bool m.aa) := blk_cell hz 2
  have c3 : w1.cell? ⟨w.heap.size, 3, none⟩ = some (.bool m.tc) := blk_cell hz 3
  have c4 : w1.cell? ⟨w.heap.size, 4, none⟩ = some (.bool m.rd) := blk_cell hz 4
  have c6 : w1.cell? ⟨w.heap.size, 6, none⟩ = some (.int .i64 m.op) := blk_cell hz 6
  clear hz
  generalize hAe : hiA m = A at *
  generalize hBe : loB m = B at *
  clear hAe hBe
  go_enter Tryz.func54, Tryz.ntmps54
  go_upto_region 1 with (fail)
  rw [← HW.out]
  clear HW
  have HA := Lib.hid hA'
  have HB := Lib.hid hB'
  clear hA' hB'
  go_cut [3] (fun q wx => q = .int .i64 A ∧ Below w1.heap.size w1 wx)
  case first =>
    clear hA hB
    have o1 : IntKind.i64.wrap (128 * oneI m.qr) = 128 * oneI m.qr := IntWalk.i64_in _ (by omega)
    have o2 : IntKind.i64.wrap (8 * m.op) = 8 * m.op := IntWalk.i64_in _ (by omega)
    have o3 : IntKind.i64.wrap (128 * oneI m.qr + 8 * m.op) = 128 * oneI m.qr + 8 * m.op := IntWalk.i64_in _ (by omega)
    have o4 : IntKind.i64.wrap (4 * oneI m.aa) = 4 * oneI m.aa := IntWalk.i64_in _ (by omega)
    have o5 : IntKind.i64.wrap (128 * oneI m.qr + 8 * m.op + 4 * oneI m.aa) = 128 * oneI m.qr + 8 * m.op + 4 * oneI m.aa := IntWalk.i64_in _ (by omega)
    have o6 : IntKind.i64.wrap (2 * oneI m.tc) = 2 * oneI m.tc := IntWalk.i64_in _ (by omega)
    have o7 : IntKind.i64.wrap (128 * oneI m.qr + 8 * m.op + 4 * oneI m.aa + 2 * oneI m.tc) = 128 * oneI m.qr + 8 * m.op + 4 * oneI m.aa + 2 * oneI m.tc := IntWalk.i64_in _ (by omega)
    have o8 : IntKind.i64.wrap (128 * oneI m.qr + 8 * m.op + 4 * oneI m.aa + 2 * oneI m.tc + oneI m.rd) = 128 * oneI m.qr + 8 * m.op + 4 * oneI m.aa + 2 * oneI m.tc + oneI m.rd := IntWalk.i64_in _ (by omega)
    go_quiet ((go_at_call 83; exact Calls.quiet_of_same (one_any _ _)))
    go_wp2_with fail
    go_meet
    case rel => exact ⟨by rw [HA.out], Oc.below_drewN (Below.refl _ w1) _⟩
  case rest =>
    obtain ⟨rfl, hbw⟩ := hcut
    have hz := HX.out _ hbw
    have c5 : wc.cell? ⟨w.heap.size, 5, none⟩ = some (.bool m.ra) := blk_cell hz 5
    have c7 : wc.cell? ⟨w.heap.size, 7, none⟩ = some (.int .i64 m.rc) := blk_cell hz 7
    have HBw := Lib.hid hbw
    clear hz hbw c1 c2 c3 c4 c6
    go_upto_region 2 with (fail)
    go_cut [4] (fun q wx => q = .int .i64 B ∧ Below w1.heap.size w1 wx)
    case first =>
      clear hA hB
      have o1 : IntKind.i64.wrap (128 * oneI m.ra) = 128 * oneI m.ra := IntWalk.i64_in _ (by omega)
      have o2 : IntKind.i64.wrap (128 * oneI m.ra + m.rc) = 128 * oneI m.ra + m.rc := IntWalk.i64_in _ (by omega)
      go_quiet ((go_at_call 83; exact Calls.quiet_of_same (one_any _ _)))
      go_wp2_with fail
      go_meet
      case rel => exact ⟨by rw [HB.out], Oc.below_drewN HBw.out _⟩
    case rest =>
      obtain ⟨rfl, hbw⟩ := hcut
      clear HBw c5 c7 HA HB
      have HBw := Lib.hid hbw
      have HBd := Lib.hid hbw.drew
      clear hbw hqr haa htc hrd hra h1 h2
      have v1 : IntKind.u8.wrap A = A := IntWalk.u8_in _ (by omega)
      have v2 : IntKind.u8.wrap B = B := IntWalk.u8_in _ (by omega)
      clear hA hB
      obtain ⟨wq1, wq2, wq3, wq4⟩ := HWq.out
      have y1 : ¬ 9223372036854775807 < s0.size + sx.size := by obtain ⟨a, b, c, e, f, g⟩ := HZs.out; omega
      have y2 : ¬ 9223372036854775807 < s0.size + sx.size + s1.size := by obtain ⟨a, b, c, e, f, g⟩ := HZs.out; omega
      go_upto_region 3 with (fail)
      go_cut [5] (fun q wx => q = .string (s0 ++ sx ++ s1) ∧ Below w1.heap.size w1 wx)
      case first =>
        refine wp_region_held_drew (S := fun wq => Below w1.heap.size w1 wq) (by kernel_rfl) HBd.out (fun hHeld => ?_)
        refine wpAnyH_take (i := 0) (v := ?_) rfl (by kernel_rfl) (by kernel_rfl) (by kernel_rfl) (fun _ _ _ h => h) (Or.inl ⟨by rfl, ?_⟩) (by assumption) ?_
        rotate_left
        · (intro wq hSw; go_simp; try (with_reducible rfl))
        simp only [Act.put, List.getElem_toArray, List.getElem_cons_zero, List.setIfInBounds_toArray, List.set_cons_zero, List.set_cons_succ]
        refine wpAnyH_take (i := 1) (v := .int .u16 (m.id : Nat)) rfl (by kernel_rfl) (by kernel_rfl) (by kernel_rfl) (fun _ _ _ h => h) (Or.inl ⟨by rfl, ?_⟩) (by assumption) ?_
        · (intro wq hSw; have e0 : wq.cell? ⟨w.heap.size, 0, none⟩ = some (.int .u16 (m.id : Nat)) := blk_cell (HX.out _ hSw) 0; go_simp)
        simp only [Act.put, List.getElem_toArray, List.getElem_cons_zero, List.getElem_cons_succ, List.setIfInBounds_toArray, List.set_cons_zero, List.set_cons_succ]
        refine wpAnyH_take (i := 3) (v := ?_) rfl (by kernel_rfl) (by kernel_rfl) (by kernel_rfl) (fun _ _ _ h => h) (Or.inl ⟨by rfl, ?_⟩) (by assumption) ?_
        rotate_left
        · (intro wq hSw; go_simp; try (with_reducible rfl))
        simp only [Act.put, List.getElem_toArray, List.getElem_cons_zero, List.getElem_cons_succ, List.setIfInBounds_toArray, List.set_cons_zero, List.set_cons_succ]
        refine wpAnyH_take (i := 4) (v := ?_) rfl (by kernel_rfl) (by kernel_rfl) (by kernel_rfl) (fun _ _ _ h => h) (Or.inl ⟨by rfl, ?_⟩) (by assumption) ?_
        rotate_left
        · (intro wq hSw; go_simp; try (with_reducible rfl))
        simp only [Act.put, List.getElem_toArray, List.getElem_cons_zero, List.getElem_cons_succ, List.setIfInBounds_toArray, List.set_cons_zero, List.set_cons_succ]
        refine wpAnyH_take (i := 5) (v := ?_) rfl (by kernel_rfl) (by kernel_rfl) (by kernel_rfl) (fun _ _ _ h => h) (Or.inl ⟨by rfl, ?_⟩) (by assumption) ?_
        rotate_left
        · (intro wq hSw; go_simp; try (with_reducible rfl))
        simp only [Act.put, List.getElem_toArray, List.getElem_cons_zero, List.getElem_cons_succ, List.setIfInBounds_toArray, List.set_cons_zero, List.set_cons_succ]
        refine wpAnyH_take (i := 6) (v := ?_) rfl (by kernel_rfl) (by kernel_rfl) (by kernel_rfl) (fun _ _ _ h => h) (Or.inl ⟨by rfl, ?_⟩) (by assumption) ?_
        rotate_left
        · (intro wq hSw; go_simp; try (with_reducible rfl))
        simp only [Act.put, List.getElem_toArray, List.getElem_cons_zero, List.getElem_cons_succ, List.setIfInBounds_toArray, List.set_cons_zero, List.set_cons_succ]
        refine wpAnyH_take (i := 10) (v := ?_) rfl (by kernel_rfl) (by kernel_rfl) (by kernel_rfl) (fun _ _ _ h => h) (Or.inl ⟨by rfl, ?_⟩) (by assumption) ?_
        rotate_left
        · (intro wq hSw; go_simp; try (with_reducible rfl))
        simp only [Act.put, List.getElem_toArray, List.getElem_cons_zero, List.getElem_cons_succ, List.setIfInBounds_toArray, List.set_cons_zero, List.set_cons_succ]
        refine wpAnyH_take (i := 11) (v := .slice d.aq m.q.length d.cq) rfl (by kernel_rfl) (by kernel_rfl) (by kernel_rfl) (fun _ _ _ h => h) (Or.inl ⟨by rfl, ?_⟩) (by assumption) ?_
        · (intro wq hSw; have e0 : wq.cell? ⟨w.heap.size, 8, none⟩ = some (.slice d.aq m.q.length d.cq) := blk_cell (HX.out _ hSw) 8; go_simp)
        simp only [Act.put, List.getElem_toArray, List.getElem_cons_zero, List.getElem_cons_succ, List.setIfInBounds_toArray, List.set_cons_zero, List.set_cons_succ]
        refine wpAnyH_take (i := 12) (v := ?_) rfl (by kernel_rfl) (by kernel_rfl) (by kernel_rfl) (fun _ _ _ h => h) (Or.inl ⟨by rfl, ?_⟩) (by assumption) ?_
        rotate_left
        · (intro wq hSw; go_simp; try (with_reducible rfl))
        simp only [Act.put, List.getElem_toArray, List.getElem_cons_zero, List.getElem_cons_succ, List.setIfInBounds_toArray, List.set_cons_zero, List.set_cons_succ]
        refine wpAnyH_take (i := 13) (v := ?_) rfl (by kernel_rfl) (by kernel_rfl) (by kernel_rfl) (fun _ _ _ h => h) (Or.inl ⟨by rfl, ?_⟩) (by assumption) ?_
        rotate_left
        · (intro wq hSw; go_simp; try (with_reducible rfl))
        simp only [Act.put, List.getElem_toArray, List.getElem_cons_zero, List.getElem_cons_succ, List.setIfInBounds_toArray, List.set_cons_zero, List.set_cons_succ]
        refine wpAnyH_ready (rs := [2, 7]) (by kernel_rfl) (by simp) ?_
        refine AllReadyH.cons rfl (fun K hK => ?_) (AllReadyH.cons rfl (fun K hK => ?_) (AllReadyH.nil))
        · go_simp
          go_wp2_with (go_at_call 84; refine Calls.mono (HP0.out _) ?_; rintro e wk1 ⟨rfl, hb⟩)
          have HS1 := Lib.hid (HBd.out.trans (hb.mono HBd.out.size))
          clear hb
          refine hK.out _ _ HS1.out (fun hHeld => ?_)
          clear hK K
          refine wpAnyH_ready (rs := [7, 14]) (by kernel_rfl) (by simp) ?_
          refine AllReadyH.cons rfl (fun K hK => ?_) (AllReadyH.cons rfl (fun K hK => ?_) (AllReadyH.nil))
          · have hal := HS1.out.alloc HS1.out.size (Obj.cells #[Value.int .u8 A, .int .u8 B] 5)
            have hnw : (wk1.alloc (Obj.cells #[Value.int .u8 A, .int .u8 B] 5)).heap[wk1.heap.size]? = some (.cells #[.int .u8 A, .int .u8 B] 5 (0, 0)) := World.alloc_heap_new wk1 _
            have HS2 := Lib.hid hal
            have HZ2 := Lib.hid hnw
            clear hal hnw
            go_simp
            refine hK.out _ _ HS2.out (fun hHeld => ?_)
            clear hK K
            refine wpAnyH_ready (rs := [8, 14]) (by kernel_rfl) (by simp) ?_
            refine AllReadyH.cons rfl (fun K hK => ?_) (AllReadyH.cons rfl (fun K hK => ?_) (AllReadyH.nil))
            · have hcv := HCv.out _ _ HZ2.out
              go_simp
              clear hcv
              refine hK.out _ _ HS2.out (fun hHeld => ?_)
              clear hK K
              refine wpAnyH_take (i := 9) (v := ?_) rfl (by kernel_rfl) (by kernel_rfl) (by kernel_rfl) (fun _ _ _ h => h) (Or.inl ⟨by rfl, ?_⟩) (by assumption) ?_
              rotate_left
              · (intro wq hSw; go_simp; try (with_reducible rfl))
              simp only [Act.put, List.getElem_toArray, List.getElem_cons_zero, List.getElem_cons_succ, List.setIfInBounds_toArray, List.set_cons_zero, List.set_cons_succ]
              refine wpAnyH_ready (rs := [14]) (by kernel_rfl) (by simp) ?_
              refine AllReadyH.cons rfl (fun K hK => ?_) (AllReadyH.nil)
              go_simp
              go_wp2_with (go_at_call 84; refine Calls.mono (HP1.out _) ?_; rintro e wk4 ⟨rfl, hb⟩)
              have HS4 := Lib.hid (HS2.out.trans (hb.mono HS2.out.size))
              have HZ4 := Lib.hid ((hb.block _ (heap_lt HZ2.out)).trans HZ2.out)
              clear hb
              refine hK.out _ _ HS4.out (fun hHeld => ?_)
              clear hK K
              refine wpAnyH_take (i := 15) (v := ?_) rfl (by kernel_rfl) (by kernel_rfl) (by kernel_rfl) (fun _ _ _ h => h) (Or.inl ⟨by rfl, ?_⟩) (by assumption) ?_
              rotate_left
              · (intro wq hSw; go_simp; try (with_reducible rfl))
              simp only [Act.put, List.getElem_toArray, List.getElem_cons_zero, List.getElem_cons_succ, List.setIfInBounds_toArray, List.set_cons_zero, List.set_cons_succ]
              refine wpAnyH_take (i := 16) (v := ?_) rfl (by kernel_rfl) (by kernel_rfl) (by kernel_rfl) (fun _ _ _ h => h) (Or.inl ⟨by rfl, ?_⟩) (by assumption) ?_
              rotate_left
              · (intro wq hSw; go_simp; try (with_reducible rfl))
              simp only [Act.put, List.getElem_toArray, List.getElem_cons_zero, List.getElem_cons_succ, List.setIfInBounds_toArray, List.set_cons_zero, List.set_cons_succ]
              refine wpAnyH_done (by kernel_rfl) ?_ _
              clear hHeld
              have HL := HS4
              go_wp2_with fail
              go_meet
              case rel => exact ⟨rfl, HL.out⟩
            · go_simp
              go_wp2_with (go_at_call 84; refine Calls.mono (HP1.out _) ?_; rintro e wk3 ⟨rfl, hb⟩)
              have HS3 := Lib.hid (HS2.out.trans (hb.mono HS2.out.size))
              have HZ3 := Lib.hid ((hb.block _ (heap_lt HZ2.out)).trans HZ2.out)
              clear hb
              refine hK.out _ _ HS3.out (fun hHeld => ?_)
              clear hK K
              refine wpAnyH_ready (rs := [8]) (by kernel_rfl) (by simp) ?_
              refine AllReadyH.cons rfl (fun K hK => ?_) (AllReadyH.nil)
              have hcv := HCv.out _ _ HZ3.out
              go_simp
              clear hcv
              refine hK.out _ _ HS3.out (fun hHeld => ?_)
              clear hK K
              refine wpAnyH_take (i := 9) (v := ?_) rfl (by kernel_rfl) (by kernel_rfl) (by kernel_rfl) (fun _ _ _ h => h) (Or.inl ⟨by rfl, ?_⟩) (by assumption) ?_
              rotate_left
              · (intro wq hSw; go_simp; try (with_reducible rfl))
              simp only [Act.put, List.getElem_toArray, List.getElem_cons_zero, List.getElem_cons_succ, List.setIfInBounds_toArray, List.set_cons_zero, List.set_cons_succ]
              refine wpAnyH_take (i := 15) (v := ?_) rfl (by kernel_rfl) (by kernel_rfl) (by kernel_rfl) (fun _ _ _ h => h) (Or.inl ⟨by rfl, ?_⟩) (by assumption) ?_
              rotate_left
              · (intro wq hSw; go_simp; try (with_reducible rfl))
              simp only [Act.put, List.getElem_toArray, List.getElem_cons_zero, List.getElem_cons_succ, List.setIfInBounds_toArray, List.set_cons_zero, List.set_cons_succ]
              refine wpAnyH_take (i := 16) (v := ?_) rfl (by kernel_rfl) (by kernel_rfl) (by kernel_rfl) (fun _ _ _ h => h) (Or.inl ⟨by rfl, ?_⟩) (by assumption) ?_
              rotate_left
              · (intro wq hSw; go_simp; try (with_reducible rfl))
              simp only [Act.put, List.getElem_toArray, List.getElem_cons_zero, List.getElem_cons_succ, List.setIfInBounds_toArray, List.set_cons_zero, List.set_cons_succ]
              refine wpAnyH_done (by kernel_rfl) ?_ _
              clear hHeld
              have HL := HS3
              go_wp2_with fail
              go_meet
              case rel => exact ⟨rfl, HL.out⟩
          · go_simp
            go_wp2_with (go_at_call 84; refine Calls.mono (HP1.out _) ?_; rintro e wk2 ⟨rfl, hb⟩)
            have HS2 := Lib.hid (HS1.out.trans (hb.mono HS1.out.size))
            clear hb
            refine hK.out _ _ HS2.out (fun hHeld => ?_)
            clear hK K
            refine wpAnyH_ready (rs := [7]) (by kernel_rfl) (by simp) ?_
            refine AllReadyH.cons rfl (fun K hK => ?_) (AllReadyH.nil)
            have hal := HS2.out.alloc HS2.out.size (Obj.cells #[Value.int .u8 A, .int .u8 B] 5)
            have hnw : (wk2.alloc (Obj.cells #[Value.int .u8 A, .int .u8 B] 5)).heap[wk2.heap.size]? = some (.cells #[.int .u8 A, .int .u8 B] 5 (0, 0)) := World.alloc_heap_new wk2 _
            have HS3 := Lib.hid hal
            have HZ3 := Lib.hid hnw
            clear hal hnw
            go_simp
            refine hK.out _ _ HS3.out (fun hHeld => ?_)
            clear hK K
            refine wpAnyH_ready (rs := [8]) (by kernel_rfl) (by simp) ?_
            refine AllReadyH.cons rfl (fun K hK => ?_) (AllReadyH.nil)
            have hcv := HCv.out _ _ HZ3.out
            go_simp
            clear hcv
            refine hK.out _ _ HS3.out (fun hHeld => ?_)
            clear hK K
            refine wpAnyH_take (i := 9) (v := ?_) rfl (by kernel_rfl) (by kernel_rfl) (by kernel_rfl) (fun _ _ _ h => h) (Or.inl ⟨by rfl, ?_⟩) (by assumption) ?_
            rotate_left
            · (intro wq hSw; go_simp; try (with_reducible rfl))
            simp only [Act.put, List.getElem_toArray, List.getElem_cons_zero, List.getElem_cons_succ, List.setIfInBounds_toArray, List.set_cons_zero, List.set_cons_succ]
            refine wpAnyH_take (i := 15) (v := ?_) rfl (by kernel_rfl) (by kernel_rfl) (by kernel_rfl) (fun _ _ _ h => h) (Or.inl ⟨by rfl, ?_⟩) (by assumption) ?_
            rotate_left
            · (intro wq hSw; go_simp; try (with_reducible rfl))
            simp only [Act.put, List.getElem_toArray, List.getElem_cons_zero, List.getElem_cons_succ, List.setIfInBounds_toArray, List.set_cons_zero, List.set_cons_succ]
            refine wpAnyH_take (i := 16) (v := ?_) rfl (by kernel_rfl) (by kernel_rfl) (by kernel_rfl) (fun _ _ _ h => h) (Or.inl ⟨by rfl, ?_⟩) (by assumption) ?_
            rotate_left
            · (intro wq hSw; go_simp; try (with_reducible rfl))
            simp only [Act.put, List.getElem_toArray, List.getElem_cons_zero, List.getElem_cons_succ, List.setIfInBounds_toArray, List.set_cons_zero, List.set_cons_succ]
            refine wpAnyH_done (by kernel_rfl) ?_ _
            clear hHeld
            have HL := HS3
            go_wp2_with fail
            go_meet
            case rel => exact ⟨rfl, HL.out⟩
        · have hal := HBd.out.alloc HBd.out.size (Obj.cells #[Value.int .u8 A, .int .u8 B] 5)
          have hnw : (wc.drew.alloc (Obj.cells #[Value.int .u8 A, .int .u8 B] 5)).heap[wc.heap.size]? = some (.cells #[.int .u8 A, .int .u8 B] 5 (0, 0)) := World.alloc_heap_new wc.drew _
          have HS1 := Lib.hid hal
          have HZ1 := Lib.hid hnw
          clear hal hnw
          go_simp
          refine hK.out _ _ HS1.out (fun hHeld => ?_)
          clear hK K
          refine wpAnyH_ready (rs := [2, 8]) (by kernel_rfl) (by simp) ?_
          refine AllReadyH.cons rfl (fun K hK => ?_) (AllReadyH.cons rfl (fun K hK => ?_) (AllReadyH.nil))
          · go_simp
            go_wp2_with (go_at_call 84; refine Calls.mono (HP0.out _) ?_; rintro e wk2 ⟨rfl, hb⟩)
            have HS2 := Lib.hid (HS1.out.trans (hb.mono HS1.out.size))
            have HZ2 := Lib.hid ((hb.block _ (heap_lt HZ1.out)).trans HZ1.out)
            clear hb
            refine hK.out _ _ HS2.out (fun hHeld => ?_)
            clear hK K
            refine wpAnyH_ready (rs := [8, 14]) (by kernel_rfl) (by simp) ?_
            refine AllReadyH.cons rfl (fun K hK => ?_) (AllReadyH.cons rfl (fun K hK => ?_) (AllReadyH.nil))
            · have hcv := HCv.out _ _ HZ2.out
              go_simp
              clear hcv
              refine hK.out _ _ HS2.out (fun hHeld => ?_)
              clear hK K
              refine wpAnyH_take (i := 9) (v := ?_) rfl (by kernel_rfl) (by kernel_rfl) (by kernel_rfl) (fun _ _ _ h => h) (Or.inl ⟨by rfl, ?_⟩) (by assumption) ?_
              rotate_left
              · (intro wq hSw; go_simp; try (with_reducible rfl))
              simp only [Act.put, List.getElem_toArray, List.getElem_cons_zero, List.getElem_cons_succ, List.setIfInBounds_toArray, List.set_cons_zero, List.set_cons_succ]
              refine wpAnyH_ready (rs := [14]) (by kernel_rfl) (by simp) ?_
              refine AllReadyH.cons rfl (fun K hK => ?_) (AllReadyH.nil)
              go_simp
              go_wp2_with (go_at_call 84; refine Calls.mono (HP1.out _) ?_; rintro e wk4 ⟨rfl, hb⟩)
              have HS4 := Lib.hid (HS2.out.trans (hb.mono HS2.out.size))
              have HZ4 := Lib.hid ((hb.block _ (heap_lt HZ2.out)).trans HZ2.out)
              clear hb
              refine hK.out _ _ HS4.out (fun hHeld => ?_)
              clear hK K
              refine wpAnyH_take (i := 15) (v := ?_) rfl (by kernel_rfl) (by kernel_rfl) (by kernel_rfl) (fun _ _ _ h => h) (Or.inl ⟨by rfl, ?_⟩) (by assumption) ?_
              rotate_left
              · (intro wq hSw; go_simp; try (with_reducible rfl))
              simp only [Act.put, List.getElem_toArray, List.getElem_cons_zero, List.getElem_cons_succ, List.setIfInBounds_toArray, List.set_cons_zero, List.set_cons_succ]
              refine wpAnyH_take (i := 16) (v := ?_) rfl (by kernel_rfl) (by kernel_rfl) (by kernel_rfl) (fun _ _ _ h => h) (Or.inl ⟨by rfl, ?_⟩) (by assumption) ?_
              rotate_left
              · (intro wq hSw; go_simp; try (with_reducible rfl))
              simp only [Act.put, List.getElem_toArray, List.getElem_cons_zero, List.getElem_cons_succ, List.setIfInBounds_toArray, List.set_cons_zero, List.set_cons_succ]
              refine wpAnyH_done (by kernel_rfl) ?_ _
              clear hHeld
              have HL := HS4
              go_wp2_with fail
              go_meet
              case rel => exact ⟨rfl, HL.out⟩
            · go_simp
              go_wp2_with (go_at_call 84; refine Calls.mono (HP1.out _) ?_; rintro e wk3 ⟨rfl, hb⟩)
              have HS3 := Lib.hid (HS2.out.trans (hb.mono HS2.out.size))
              have HZ3 := Lib.hid ((hb.block _ (heap_lt HZ2.out)).trans HZ2.out)
              clear hb
              refine hK.out _ _ HS3.out (fun hHeld => ?_)
              clear hK K
              refine wpAnyH_ready (rs := [8]) (by kernel_rfl) (by simp) ?_
              refine AllReadyH.cons rfl (fun K hK => ?_) (AllReadyH.nil)
              have hcv := HCv.out _ _ HZ3.out
              go_simp
              clear hcv
              refine hK.out _ _ HS3.out (fun hHeld => ?_)
              clear hK K
              refine wpAnyH_take (i := 9) (v := ?_) rfl (by kernel_rfl) (by kernel_rfl) (by kernel_rfl) (fun _ _ _ h => h) (Or.inl ⟨by rfl, ?_⟩) (by assumption) ?_
              rotate_left
              · (intro wq hSw; go_simp; try (with_reducible rfl))
              simp only [Act.put, List.getElem_toArray, List.getElem_cons_zero, List.getElem_cons_succ, List.setIfInBounds_toArray, List.set_cons_zero, List.set_cons_succ]
              refine wpAnyH_take (i := 15) (v := ?_) rfl (by kernel_rfl) (by kernel_rfl) (by kernel_rfl) (fun _ _ _ h => h) (Or.inl ⟨by rfl, ?_⟩) (by assumption) ?_
              rotate_left
              · (intro wq hSw; go_simp; try (with_reducible rfl))
              simp only [Act.put, List.getElem_toArray, List.getElem_cons_zero, List.getElem_cons_succ, List.setIfInBounds_toArray, List.set_cons_zero, List.set_cons_succ]
              refine wpAnyH_take (i := 16) (v := ?_) rfl (by kernel_rfl) (by kernel_rfl) (by kernel_rfl) (fun _ _ _ h => h) (Or.inl ⟨by rfl, ?_⟩) (by assumption) ?_
              rotate_left
              · (intro wq hSw; go_simp; try (with_reducible rfl))
              simp only [Act.put, List.getElem_toArray, List.getElem_cons_zero, List.getElem_cons_succ, List.setIfInBounds_toArray, List.set_cons_zero, List.set_cons_succ]
              refine wpAnyH_done (by kernel_rfl) ?_ _
              clear hHeld
              have HL := HS3
              go_wp2_with fail
              go_meet
              case rel => exact ⟨rfl, HL.out⟩
          · have hcv := HCv.out (wc.alloc (Obj.cells #[Value.int .u8 A, .int .u8 B] 5)).drew wc.heap.size HZ1.out
            go_simp
            clear hcv
            refine hK.out _ _ (show Below w1.heap.size w1 (wc.alloc (Obj.cells #[Value.int .u8 A, .int .u8 B] 5)).drew from HS1.out) (fun hHeld => ?_)
            clear hK K
            refine wpAnyH_ready (rs := [2]) (by kernel_rfl) (by simp) ?_
            refine AllReadyH.cons rfl (fun K hK => ?_) (AllReadyH.nil)
            go_simp
            go_wp2_with (go_at_call 84; refine Calls.mono (HP0.out _) ?_; rintro e wk3 ⟨rfl, hb⟩)
            have HS3 := Lib.hid (HS1.out.trans (hb.mono HS1.out.size))
            have HZ3 := Lib.hid ((hb.block _ (heap_lt HZ1.out)).trans HZ1.out)
            clear hb
            refine hK.out _ _ HS3.out (fun hHeld => ?_)
            clear hK K
            refine wpAnyH_take (i := 9) (v := ?_) rfl (by kernel_rfl) (by kernel_rfl) (by kernel_rfl) (fun _ _ _ h => h) (Or.inl ⟨by rfl, ?_⟩) (by assumption) ?_
            rotate_left
            · (intro wq hSw; go_simp; try (with_reducible rfl))
            simp only [Act.put, List.getElem_toArray, List.getElem_cons_zero, List.getElem_cons_succ, List.setIfInBounds_toArray, List.set_cons_zero, List.set_cons_succ]
            refine wpAnyH_ready (rs := [14]) (by kernel_rfl) (by simp) ?_
            refine AllReadyH.cons rfl (fun K hK => ?_) (AllReadyH.nil)
            go_simp
            go_wp2_with (go_at_call 84; refine Calls.mono (HP1.out _) ?_; rintro e wk4 ⟨rfl, hb⟩)
            have HS4 := Lib.hid (HS3.out.trans (hb.mono HS3.out.size))
            have HZ4 := Lib.hid ((hb.block _ (heap_lt HZ3.out)).trans HZ3.out)
            clear hb
            refine hK.out _ _ HS4.out (fun hHeld => ?_)
            clear hK K
            refine wpAnyH_take (i := 15) (v := ?_) rfl (by kernel_rfl) (by kernel_rfl) (by kernel_rfl) (fun _ _ _ h => h) (Or.inl ⟨by rfl, ?_⟩) (by assumption) ?_
            rotate_left
            · (intro wq hSw; go_simp; try (with_reducible rfl))
            simp only [Act.put, List.getElem_toArray, List.getElem_cons_zero, List.getElem_cons_succ, List.setIfInBounds_toArray, List.set_cons_zero, List.set_cons_succ]
            refine wpAnyH_take (i := 16) (v := ?_) rfl (by kernel_rfl) (by kernel_rfl) (by kernel_rfl) (fun _ _ _ h => h) (Or.inl ⟨by rfl, ?_⟩) (by assumption) ?_
            rotate_left
            · (intro wq hSw; go_simp; try (with_reducible rfl))
            simp only [Act.put, List.getElem_toArray, List.getElem_cons_zero, List.getElem_cons_succ, List.setIfInBounds_toArray, List.set_cons_zero, List.set_cons_succ]
            refine wpAnyH_done (by kernel_rfl) ?_ _
            clear hHeld
            have HL := HS4
            go_wp2_with fail
            go_meet
            case rel => exact ⟨rfl, HL.out⟩
      case rest =>
        obtain ⟨rfl, hbw⟩ := hcut
        clear HBw HBd HCv v1 v2 y1 y2
        have HBd := Lib.hid hbw.drew
        have y3 : ¬ 9223372036854775807 < (s0 ++ sx ++ s1).size + s2.size := by obtain ⟨a, b, c, e, f, g⟩ := HZs.out; rw [ByteArray.size_append, ByteArray.size_append]; omega
        have y4 : ¬ 9223372036854775807 < (s0 ++ sx ++ s1).size + s2.size + s3.size := by obtain ⟨a, b, c, e, f, g⟩ := HZs.out; rw [ByteArray.size_append, ByteArray.size_append]; omega
        have y5 : ¬ 9223372036854775807 < (s0 ++ sx ++ s1).size + s2.size + s3.size + s4.size := by obtain ⟨a, b, c, e, f, g⟩ := HZs.out; rw [ByteArray.size_append, ByteArray.size_append]; omega
        generalize s0 ++ sx ++ s1 = s5 at *
        clear hbw
        go_upto_region 4 with (fail)
        refine wp_region_held_drew (S := fun wq => Below w1.heap.size w1 wq) (by kernel_rfl) HBd.out (fun hHeld => ?_)
        refine wpAnyH_take (i := 0) (v := ?_) rfl (by kernel_rfl) (by kernel_rfl) (by kernel_rfl) (fun _ _ _ h => h) (Or.inl ⟨by rfl, ?_⟩) (by assumption) ?_
        rotate_left
        · (intro wq hSw; go_simp; try (with_reducible rfl))
        simp only [Act.put, List.getElem_toArray, List.getElem_cons_zero, List.setIfInBounds_toArray, List.set_cons_zero, List.set_cons_succ]
        refine wpAnyH_take (i := 1) (v := ?_) rfl (by kernel_rfl) (by kernel_rfl) (by kernel_rfl) (fun _ _ _ h => h) (Or.inl ⟨by rfl, ?_⟩) (by assumption) ?_
        rotate_left
        · (intro wq hSw; go_simp; try (with_reducible rfl))
        simp only [Act.put, List.getElem_toArray, List.getElem_cons_zero, List.getElem_cons_succ, List.setIfInBounds_toArray, List.set_cons_zero, List.set_cons_succ]
        refine wpAnyH_take (i := 2) (v := .slice d.a1 m.an.length d.c1) rfl (by kernel_rfl) (by kernel_rfl) (by kernel_rfl) (fun _ _ _ h => h) (Or.inl ⟨by rfl, ?_⟩) (by assumption) ?_
        · (intro wq hSw; have e0 : wq.cell? ⟨w.heap.size, 9, none⟩ = some (.slice d.a1 m.an.length d.c1) := blk_cell (HX.out _ hSw) 9; go_simp)
        simp only [Act.put, List.getElem_toArray, List.getElem_cons_zero, List.getElem_cons_succ, List.setIfInBounds_toArray, List.set_cons_zero, List.set_cons_succ]
        refine wpAnyH_take (i := 3) (v := ?_) rfl (by kernel_rfl) (by kernel_rfl) (by kernel_rfl) (fun _ _ _ h => h) (Or.inl ⟨by rfl, ?_⟩) (by assumption) ?_
        rotate_left
        · (intro wq hSw; go_simp; try (with_reducible rfl))
        simp only [Act.put, List.getElem_toArray, List.getElem_cons_zero, List.getElem_cons_succ, List.setIfInBounds_toArray, List.set_cons_zero, List.set_cons_succ]
        refine wpAnyH_take (i := 4) (v := ?_) rfl (by kernel_rfl) (by kernel_rfl) (by kernel_rfl) (fun _ _ _ h => h) (Or.inl ⟨by rfl, ?_⟩) (by assumption) ?_
        rotate_left
        · (intro wq hSw; go_simp; try (with_reducible rfl))
        simp only [Act.put, List.getElem_toArray, List.getElem_cons_zero, List.getElem_cons_succ, List.setIfInBounds_toArray, List.set_cons_zero, List.set_cons_succ]
        refine wpAnyH_take (i := 7) (v := ?_) rfl (by kernel_rfl) (by kernel_rfl) (by kernel_rfl) (fun _ _ _ h => h) (Or.inl ⟨by rfl, ?_⟩) (by assumption) ?_
        rotate_left
        · (intro wq hSw; go_simp; try (with_reducible rfl))
        simp only [Act.put, List.getElem_toArray, List.getElem_cons_zero, List.getElem_cons_succ, List.setIfInBounds_toArray, List.set_cons_zero, List.set_cons_succ]
        refine wpAnyH_take (i := 8) (v := .slice d.a2 m.ns.length d.c2) rfl (by kernel_rfl) (by kernel_rfl) (by kernel_rfl) (fun _ _ _ h => h) (Or.inl ⟨by rfl, ?_⟩) (by assumption) ?_
        · (intro wq hSw; have e0 : wq.cell? ⟨w.heap.size, 10, none⟩ = some (.slice d.a2 m.ns.length d.c2) := blk_cell (HX.out _ hSw) 10; go_simp)
        simp only [Act.put, List.getElem_toArray, List.getElem_cons_zero, List.getElem_cons_succ, List.setIfInBounds_toArray, List.set_cons_zero, List.set_cons_succ]
        refine wpAnyH_take (i := 9) (v := ?_) rfl (by kernel_rfl) (by kernel_rfl) (by kernel_rfl) (fun _ _ _ h => h) (Or.inl ⟨by rfl, ?_⟩) (by assumption) ?_
        rotate_left
        · (intro wq hSw; go_simp; try (with_reducible rfl))
        simp only [Act.put, List.getElem_toArray, List.getElem_cons_zero, List.getElem_cons_succ, List.setIfInBounds_toArray, List.set_cons_zero, List.set_cons_succ]
        refine wpAnyH_take (i := 10) (v := ?_) rfl (by kernel_rfl) (by kernel_rfl) (by kernel_rfl) (fun _ _ _ h => h) (Or.inl ⟨by rfl, ?_⟩) (by assumption) ?_
        rotate_left
        · (intro wq hSw; go_simp; try (with_reducible rfl))
        simp only [Act.put, List.getElem_toArray, List.getElem_cons_zero, List.getElem_cons_succ, List.setIfInBounds_toArray, List.set_cons_zero, List.set_cons_succ]
        refine wpAnyH_take (i := 13) (v := ?_) rfl (by kernel_rfl) (by kernel_rfl) (by kernel_rfl) (fun _ _ _ h => h) (Or.inl ⟨by rfl, ?_⟩) (by assumption) ?_
        rotate_left
        · (intro wq hSw; go_simp; try (with_reducible rfl))
        simp only [Act.put, List.getElem_toArray, List.getElem_cons_zero, List.getElem_cons_succ, List.setIfInBounds_toArray, List.set_cons_zero, List.set_cons_succ]
        refine wpAnyH_take (i := 14) (v := .slice d.a3 m.ar.length d.c3) rfl (by kernel_rfl) (by kernel_rfl) (by kernel_rfl) (fun _ _ _ h => h) (Or.inl ⟨by rfl, ?_⟩) (by assumption) ?_
        · (intro wq hSw; have e0 : wq.cell? ⟨w.heap.size, 11, none⟩ = some (.slice d.a3 m.ar.length d.c3) := blk_cell (HX.out _ hSw) 11; go_simp)
        simp only [Act.put, List.getElem_toArray, List.getElem_cons_zero, List.getElem_cons_succ, List.setIfInBounds_toArray, List.set_cons_zero, List.set_cons_succ]
        refine wpAnyH_take (i := 15) (v := ?_) rfl (by kernel_rfl) (by kernel_rfl) (by kernel_rfl) (fun _ _ _ h => h) (Or.inl ⟨by rfl, ?_⟩) (by assumption) ?_
        rotate_left
        · (intro wq hSw; go_simp; try (with_reducible rfl))
        simp only [Act.put, List.getElem_toArray, List.getElem_cons_zero, List.getElem_cons_succ, List.setIfInBounds_toArray, List.set_cons_zero, List.set_cons_succ]
        refine wpAnyH_take (i := 16) (v := ?_) rfl (by kernel_rfl) (by kernel_rfl) (by kernel_rfl) (fun _ _ _ h => h) (Or.inl ⟨by rfl, ?_⟩) (by assumption) ?_
        rotate_left
        · (intro wq hSw; go_simp; try (with_reducible rfl))
        simp only [Act.put, List.getElem_toArray, List.getElem_cons_zero, List.getElem_cons_succ, List.setIfInBounds_toArray, List.set_cons_zero, List.set_cons_succ]
        refine wpAnyH_ready (rs := [5]) (by kernel_rfl) (by simp) ?_
        refine AllReadyH.cons rfl (fun K hK => ?_) (AllReadyH.nil)
        go_simp
        go_wp2_with (go_at_call 84; refine Calls.mono (HP2.out _) ?_; rintro e wk1 ⟨rfl, hb⟩)
        have HS1 := Lib.hid (HBd.out.trans (hb.mono HBd.out.size))
        clear hb
        refine hK.out _ _ HS1.out (fun hHeld => ?_)
        clear hK K
        refine wpAnyH_take (i := 6) (v := ?_) rfl (by kernel_rfl) (by kernel_rfl) (by kernel_rfl) (fun _ _ _ h => h) (Or.inl ⟨by rfl, ?_⟩) (by assumption) ?_
        rotate_left
        · (intro wq hSw; go_simp; try (with_reducible rfl))
        simp only [Act.put, List.getElem_toArray, List.getElem_cons_zero, List.getElem_cons_succ, List.setIfInBounds_toArray, List.set_cons_zero, List.set_cons_succ]
        refine wpAnyH_ready (rs := [11]) (by kernel_rfl) (by simp) ?_
        refine AllReadyH.cons rfl (fun K hK => ?_) (AllReadyH.nil)
        go_simp
        go_wp2_with (go_at_call 84; refine Calls.mono (HP3.out _) ?_; rintro e wk2 ⟨rfl, hb⟩)
        have HS2 := Lib.hid (HS1.out.trans (hb.mono HS1.out.size))
        clear hb
        refine hK.out _ _ HS2.out (fun hHeld => ?_)
        clear hK K
        refine wpAnyH_take (i := 12) (v := ?_) rfl (by kernel_rfl) (by kernel_rfl) (by kernel_rfl) (fun _ _ _ h => h) (Or.inl ⟨by rfl, ?_⟩) (by assumption) ?_
        rotate_left
        · (intro wq hSw; go_simp; try (with_reducible rfl))
        simp only [Act.put, List.getElem_toArray, List.getElem_cons_zero, List.getElem_cons_succ, List.setIfInBounds_toArray, List.set_cons_zero, List.set_cons_succ]
        refine wpAnyH_ready (rs := [17]) (by kernel_rfl) (by simp) ?_
        refine AllReadyH.cons rfl (fun K hK => ?_) (AllReadyH.nil)
        go_simp
        go_wp2_with (go_at_call 84; refine Calls.mono (HP4.out _) ?_; rintro e wk3 ⟨rfl, hb⟩)
        have HS3 := Lib.hid (HS2.out.trans (hb.mono HS2.out.size))
        clear hb
        refine hK.out _ _ HS3.out (fun hHeld => ?_)
        clear hK K
        refine wpAnyH_take (i := 18) (v := ?_) rfl (by kernel_rfl) (by kernel_rfl) (by kernel_rfl) (fun _ _ _ h => h) (Or.inl ⟨by rfl, ?_⟩) (by assumption) ?_
        rotate_left
        · (intro wq hSw; go_simp; try (with_reducible rfl))
        simp only [Act.put, List.getElem_toArray, List.getElem_cons_zero, List.getElem_cons_succ, List.setIfInBounds_toArray, List.set_cons_zero, List.set_cons_succ]
        refine wpAnyH_take (i := 19) (v := ?_) rfl (by kernel_rfl) (by kernel_rfl) (by kernel_rfl) (fun _ _ _ h => h) (Or.inl ⟨by rfl, ?_⟩) (by assumption) ?_
        rotate_left
        · (intro wq hSw; go_simp; try (with_reducible rfl))
        simp only [Act.put, List.getElem_toArray, List.getElem_cons_zero, List.getElem_cons_succ, List.setIfInBounds_toArray, List.set_cons_zero, List.set_cons_succ]
        refine wpAnyH_done (by kernel_rfl) ?_ _
        clear hHeld
        have HL := HS3
        go_wp2_with fail
        go_ret
        exact ⟨by rw [HEnd.out]; rfl, HB1.out.trans (HL.out.mono HB1.out.size)⟩
end Go.Proofs.YtnakljbginbenaaGreatDoor
