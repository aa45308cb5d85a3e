/- The contracts of message: add, Put. -/
import Derived.Test.YtnakljbginbenaaGreatDoorMmg
namespace Go.Proofs.YtnakljbginbenaaGreatDoor
open Go.RowKit
set_option linter.unusedVariables false

set_option maxRecDepth 100000 in
set_option maxHeartbeats 2000000 in
theorem adds_any (B b : Nat) (X : List UInt8 × Kn) (most : Int) (A : Option Addr) (cap : Nat) (l : List Rc) (hl : l.length ≤ 18000) (hs : ∀ r ∈ l, r.n.size ≤ 65535 ∧ r.d.size ≤ 65535 ∧ r.Ok) (hm : ∀ r ∈ l, mayR r = true) (hX : X.1.length ≤ 2000000) (hmo : most ≤ 65535)
    (w : World) (hT : SlT w A cap l) (hSt : St B b X.1 X.2 w) (hL : Lay w) (h0B : 0 < B) (hB : B ≤ w.heap.size) :
    Calls Tryz.prog 22 #[.pointer (some ⟨b, 0, none⟩), .int .i64 most, .slice A l.length cap] w fun e w' => ∃ j : Nat, e = .returned (.int .i64 j) ∧ FitsAt X l most j ∧ St B b (rsF X (l.take (j + 1))).1 (rsF X (l.take (j + 1))).2 w' ∧ Below B w w' ∧ Kp w w' := by
  have HT := Lib.hid hT
  have HSt := Lib.hid hSt
  have HL := Lib.hid hL
  have HS := Lib.hid hs
  have HM := Lib.hid hm
  have HX := Lib.hid hX
  clear hT hSt hL hs hm hX
  go_enter Tryz.func22, Tryz.ntmps22
  go_wp2_with fail
  go_loopw [11] (fun i wr => ∃ j : Nat, j ≤ l.length ∧ i = .int .i64 j ∧ (∀ t, t < j → ((rsF X (l.take (t + 1))).1.length : Int) ≤ most) ∧ St B b (rsF X (l.take j)).1 (rsF X (l.take j)).2 wr ∧ Below B w wr ∧ Kp w wr) (fun i _ => l.length - (intOf i).toNat)
  case atStart => exact ⟨0, Nat.zero_le _, rfl, (fun t ht => by omega), by simpa [rsF] using HSt.out, Below.refl _ _, Kp.refl _⟩
  case round =>
    obtain ⟨j, hj, rfl, hfit, hst, hbel, hkp⟩ := hrel
    by_cases hlt : j < l.length
    · obtain ⟨ab, ao, rfl, hb, c0, c1, c2, c3, c4⟩ := (HT.out.kp hkp).sl.rec5 j hlt
      obtain ⟨z1, z2, z3⟩ := HS.out l[j] (List.getElem_mem hlt)
      have hmy := HM.out l[j] (List.getElem_mem hlt)
      have hnx := rsF_next X l j hlt
      have hln : (rsF X (l.take j)).1.length ≤ 2000000 := by
        rcases Nat.eq_zero_or_pos j with h | h
        · subst h
          exact HX.out
        · have := hfit (j - 1) (by omega)
          rw [show j - 1 + 1 = j by omega] at this
          omega
      have hdone : most < ((rsF X (l.take (j + 1))).1.length : Int) → FitsAt X l most j := fun h => ⟨hj, hfit, fun _ => h⟩
      have hmore : ((rsF X (l.take (j + 1))).1.length : Int) ≤ most → ∀ t, t < j + 1 → ((rsF X (l.take (t + 1))).1.length : Int) ≤ most := fun h t ht => by
        rcases Nat.lt_or_ge t j with h' | h'
        · exact hfit t h'
        · obtain rfl : t = j := by omega
          exact h
      have HDone := Lib.hid hdone
      have HMore := Lib.hid hmore
      have HNx := Lib.hid hnx
      have HLn := Lib.hid hln
      have HMy := Lib.hid hmy
      have HSr := Lib.hid hst
      have HZ := Lib.hid (Nat.le_trans hB hbel.size)
      have hal := hst.more ((Below.refl _ wr).alloc (Nat.le_refl _) (Obj.cells #[.string l[j].n, .int .u16 (l[j].k : Nat), .int .u16 (l[j].c : Nat), .int .u32 (l[j].t : Nat), .string l[j].d] 46)) (Nat.le_trans hB hbel.size)
      have HA := Lib.hid hal
      have HZ8 := Lib.hid (Nat.le_trans hB (Nat.le_trans hbel.size hal.2.1.size))
      have HL8 := Lib.hid (HL.out.below h0B (hbel.trans hal.2.1))
      have HBel := Lib.hid (And.intro (hbel.trans hal.2.1) (hkp.trans hal.2.2))
      clear hdone hmore hnx hln hmy hst hal hbel hkp hfit
      generalize l[j] = r at *
      generalize hX : rsF X (l.take j) = Y at *
      generalize hX2 : rsF X (l.take (j + 1)) = Y2 at *
      go_wp2_with fail
      refine (putr_any _ _ Y.1 Y.2 r (by omega) (by omega) z3 (by have := HLn.out; omega) _ HL8.out HA.out.1 HZ8.out h0B).mono ?_
      rintro e w9 ⟨rfl, hs9, hb9, hk9⟩
      generalize prE r = E
      have e9 : prS Y.1 Y.2 r = putR Y.1 Y.2 r := by unfold prS; rw [if_pos HMy.out]
      rw [e9, ← HNx.out] at hs9
      have HS9 := Lib.hid hs9
      have HB9 := Lib.hid (And.intro (HBel.out.1.trans hb9) (HBel.out.2.trans hk9))
      clear hs9 hb9 hk9 e9 c0 c1 c2 c3 c4
      go_wp2_with fail
      refine (len_any _ _ _ _ _ HS9.out.is).mono ?_
      rintro e w10 ⟨rfl, rfl⟩
      by_cases hgt : most < (Y2.1.length : Int)
      · have d1 : decide ((Y2.1.length : Int) > most) = true := by simpa using hgt
        have HF := Lib.hid (HDone.out hgt)
        clear hgt
        go_wp2_with fail
        go_ret
        refine ⟨j, rfl, HF.out, ?_, HB9.out.1, HB9.out.2⟩
        rw [hX2]
        exact HS9.out
      · have d1 : decide ((Y2.1.length : Int) > most) = false := by simpa using hgt
        have HF := Lib.hid (HMore.out (by omega))
        clear hgt
        go_wp2_with fail
        go_roundw
        case rel => exact ⟨j + 1, hlt, by go_num, HF.out, by rw [hX2]; exact HS9.out, HB9.out.1, HB9.out.2⟩
        case measure => simp [intOf]; omega
    · obtain rfl : j = l.length := by omega
      have hF : FitsAt X l most l.length := ⟨Nat.le_refl _, hfit, fun h => absurd h (Nat.lt_irrefl _)⟩
      rw [List.take_length] at hst
      have HF := Lib.hid (And.intro hF (And.intro hst (And.intro hbel hkp)))
      clear hF hst hbel hkp hfit
      go_wp2_with fail
      go_ret
      refine ⟨l.length, rfl, HF.out.1, ?_, HF.out.2.2.1, HF.out.2.2.2⟩
      rw [List.take_of_length_le (by omega)]
      exact HF.out.2.1

/-- What Put answers. -/
def pmE (m : Ms) : Int := if mayM m = true then (if 65535 < (encM m).1.length then 3 else 0) else 1
def pmS (m : Ms) : ByteArray := if pmE m = 0 then ⟨(encM m).1.toArray⟩ else ⟨#[]⟩
theorem pm_no {m : Ms} (h : mayM m = false) : pmE m = 1 ∧ pmS m = ⟨#[]⟩ := by
  have : pmE m = 1 := by unfold pmE; rw [h]; rfl
  exact ⟨this, by unfold pmS; rw [this]; rfl⟩
theorem pm_long {m : Ms} (h : mayM m = true) (hl : 65535 < (encM m).1.length) : pmE m = 3 ∧ pmS m = ⟨#[]⟩ := by
  have : pmE m = 3 := by unfold pmE; rw [if_pos h, if_pos hl]
  exact ⟨this, by unfold pmS; rw [this]; rfl⟩
theorem pm_yes {m : Ms} (h : mayM m = true) (hl : (encM m).1.length ≤ 65535) : pmE m = 0 ∧ pmS m = ⟨(encM m).1.toArray⟩ := by
  have : pmE m = 0 := by unfold pmE; rw [if_pos h, if_neg (by omega)]
  exact ⟨this, by unfold pmS; rw [this]; rfl⟩
/-- What add leaves, and whether that is too long. -/
theorem fits_enc {m : Ms} (h : MayM m) {j : Nat} (hF : FitsAt (bgM m) m.recs 65535 j) : ((rsF (bgM m) (m.recs.take (j + 1))).1.length ≤ 65535 ↔ (encM m).1.length ≤ 65535) ∧ ((rsF (bgM m) (m.recs.take (j + 1))).1.length ≤ 65535 → rsF (bgM m) (m.recs.take (j + 1)) = encM m) := by
  obtain ⟨h1, h2, h3⟩ := hF
  by_cases hj : j < m.recs.length
  · have h4 := h3 hj
    have h5 := rsF_mono (X := bgM m) (l := m.recs) (bgM_app h).2 h.recs (show j + 1 ≤ m.recs.length from hj)
    rw [List.take_length] at h5
    have h6 : (encM m).1.length = (rsF (bgM m) m.recs).1.length := rfl
    exact ⟨⟨fun h => by omega, fun h => by omega⟩, fun h => by omega⟩
  · rw [List.take_of_length_le (by omega)]
    exact ⟨Iff.rfl, fun _ => rfl⟩
theorem SmM.recs {m : Ms} (h : SmM m) : m.recs.length ≤ 18000 ∧ ∀ r ∈ m.recs, r.n.size ≤ 65535 ∧ r.d.size ≤ 65535 ∧ r.Ok := by
  have h1 := h.an.len; have h2 := h.ns.len; have h3 := h.ar.len
  refine ⟨by rw [recs_len]; omega, fun r hr => ?_⟩
  unfold Ms.recs at hr
  rcases List.mem_append.1 hr with h1 | h1
  · exact h.an.each r h1
  · rcases List.mem_append.1 h1 with h2 | h2
    · exact h.ns.each r h2
    · exact h.ar.each r h2

set_option maxRecDepth 100000 in
set_option maxHeartbeats 2000000 in
theorem putm_any (m : Ms) (d : Ad) (hok : m.Ok) (hs : SmM m) (w : World) (hI : Mg w m d) (hL : Lay w) :
    Calls Tryz.prog 8 #[.agg (msV m d)] w fun e w' => e = .returned (.tuple #[.string (pmS m), .int .i64 (pmE m)]) ∧ Below w.heap.size w w' := by
  have hbox := World.alloc_heap_new w (Obj.cells (msV m d) 26)
  have hal := (Below.refl w.heap.size w).alloc (Nat.le_refl _) (Obj.cells (msV m d) 26)
  obtain ⟨w1, hw1⟩ : ∃ w1, w1 = w.alloc (Obj.cells (msV m d) 26) := ⟨_, rfl⟩
  rw [← hw1] at hbox hal
  have HW := Lib.hid hw1
  have HX := Lib.hid hbox
  have HAl := Lib.hid hal
  have HI := Lib.hid (hI.below hal)
  have HL := Lib.hid (hL.below (lay_lt hL) hal)
  have H0 := Lib.hid (lay_lt (hL.below (lay_lt hL) hal))
  have HOk := Lib.hid hok
  have HSm := Lib.hid hs
  clear hbox hal hw1 hI hL hok hs
  go_enter Tryz.func8, Tryz.ntmps8
  go_upto_region 1 with (fail)
  rw [← HW.out]
  clear HW
  go_wp2_with (refine wpList_load_row rfl 26 _ rfl w.heap.size rfl 26 _ _ _ HX.out Tryz.underlying26 rfl (infoM' m d) ?_)
  refine (maym_any m d HSm.out _ HI.out HL.out).mono ?_
  rintro e w2 ⟨rfl, hb2⟩
  have HB2 := Lib.hid hb2
  clear hb2
  cases hmm : mayM m with
  | false =>
    obtain ⟨e1, e2⟩ := pm_no hmm
    have HE := Lib.hid (And.intro e1 e2)
    clear e1 e2 hmm
    go_wp2_with fail
    go_ret2
    rw [HE.out.1, HE.out.2]
    exact ⟨rfl, HAl.out.trans (HB2.out.mono HAl.out.size)⟩
  | true =>
    have HM := Lib.hid (mayM_iff.1 hmm)
    have HMB := Lib.hid hmm
    have HX2 := Lib.hid ((HB2.out.block _ (heap_lt HX.out)).trans HX.out)
    have HI2 := Lib.hid (HI.out.below HB2.out)
    have HL2 := Lib.hid (HL.out.below H0.out HB2.out)
    clear hmm
    go_wp2_with (refine wpList_load_row rfl 26 _ rfl w.heap.size rfl 26 _ _ _ HX2.out Tryz.underlying26 rfl (infoM' m d) ?_)
    refine (begin_any m d HM.out HOk.out HSm.out _ HI2.out HL2.out).mono ?_
    rintro e w3 ⟨rfl, hs3, hb3⟩
    have hsz3 : w2.heap.size + 1 ≤ w3.heap.size := by have := hs3.is.lt; omega
    have HS3 := Lib.hid hs3
    have HB3 := Lib.hid (HB2.out.trans (hb3.mono HB2.out.size))
    have HX3 := Lib.hid ((HB3.out.block _ (heap_lt HX.out)).trans HX.out)
    have HI3 := Lib.hid (HI.out.below HB3.out)
    have HZ3 := Lib.hid hsz3
    have HB23 := Lib.hid hb3
    clear hs3 hb3 hsz3 HX2
    go_wp2_with (refine wpList_load_row rfl 26 _ rfl w.heap.size rfl 26 _ _ _ HX3.out Tryz.underlying26 rfl (infoM' m d) ?_)
    refine (records_any m d HSm.out _ HI3.out).mono ?_
    rintro e w4 ⟨A', cap', rfl, hT4, hb4⟩
    have HS4 := Lib.hid (HS3.out.below hb4)
    have HB4 := Lib.hid (HB3.out.trans (hb4.mono HB3.out.size))
    have HZ4 := Lib.hid (Nat.le_trans HZ3.out hb4.size)
    have HT4 := Lib.hid hT4
    have HL4 := Lib.hid (HL.out.below H0.out HB4.out)
    clear hb4 hT4
    have hbl := bgM_len HM.out
    have hql := HSm.out.q.len
    go_wp2_with fail
    refine (adds_any _ _ (bgM m) 65535 _ _ m.recs HSm.out.recs.1 HSm.out.recs.2 HM.out.recs (by omega) (by omega) _ HT4.out HS4.out HL4.out (by omega) HZ4.out).mono ?_
    rintro e w5 ⟨j, rfl, hF, hs5, hb5, _⟩
    obtain ⟨f1, f2⟩ := fits_enc HM.out hF
    have HS5 := Lib.hid hs5
    have HB5 := Lib.hid (HAl.out.trans ((HB4.out.mono HAl.out.size).trans (hb5.mono (Nat.le_trans (Nat.le_trans HAl.out.size HB2.out.size) (Nat.le_succ _)))))
    have HF1 := Lib.hid f1
    have HF2 := Lib.hid f2
    clear hs5 hb5 hF f1 f2 hbl hql
    generalize rsF (bgM m) (m.recs.take (j + 1)) = Y at *
    go_wp2_with fail
    refine (len_any _ _ _ _ _ HS5.out.is).mono ?_
    rintro e w6 ⟨rfl, rfl⟩
    by_cases hgt : Y.1.length ≤ 65535
    · have d1 : decide ((Y.1.length : Int) > 65535) = false := by simp; omega
      obtain rfl := HF2.out hgt
      obtain ⟨e1, e2⟩ := pm_yes HMB.out hgt
      have HE := Lib.hid (And.intro e1 e2)
      clear e1 e2 hgt
      go_wp2_with fail
      refine (out_any _ _ _ _ _ HS5.out.is).mono ?_
      rintro e w6 ⟨rfl, rfl⟩
      go_wp2_with fail
      go_ret2
      rw [HE.out.1, HE.out.2]
      exact ⟨rfl, HB5.out⟩
    · have d1 : decide ((Y.1.length : Int) > 65535) = true := by simp; omega
      obtain ⟨e1, e2⟩ := pm_long HMB.out (by have := HF1.out; omega)
      have HE := Lib.hid (And.intro e1 e2)
      clear e1 e2 hgt
      go_wp2_with fail
      go_ret2
      rw [HE.out.1, HE.out.2]
      exact ⟨rfl, HB5.out⟩
end Go.Proofs.YtnakljbginbenaaGreatDoor
