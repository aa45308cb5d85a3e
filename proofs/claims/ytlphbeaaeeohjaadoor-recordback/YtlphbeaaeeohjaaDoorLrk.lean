/- The walk of derricklaw05.RecordBack: what was put is taken, one behind the other, just as it was. -/
import Derived.Test.YtlphbeaaeeohjaaDoorLbm
import Derived.Test.YtlphbeaaeeohjaaDoorRqt
import Derived.Deep.DeepCutAuto
import Derived.RegionTactic
namespace Go.Proofs.YtlphbeaaeeohjaaDoor
open Go.RowKit
set_option linter.unusedVariables false

def Rat (l : List Rc) (j : Nat) : Rc := l.getD j Rc.zero
def Kat (l : List Bool) (j : Nat) : Bool := l.getD j false
theorem Rat_lt {l : List Rc} {j : Nat} (h : j < l.length) : Rat l j = l[j] := by unfold Rat; simp [List.getD, h]
theorem Kat_lt {l : List Bool} {j : Nat} (h : j < l.length) : Kat l j = l[j] := by unfold Kat; simp [List.getD, h]
theorem Kat_ge {l : List Bool} {j : Nat} (h : ¬ j < l.length) : Kat l j = false := by unfold Kat; simp [List.getD, h]

set_option maxRecDepth 100000 in
set_option maxHeartbeats 4000000 in
theorem back_walk (A : Option Addr) (cap : Nat) (l : List Rc) (A2 : Option Addr) (cap2 : Nat) (ks : List Bool) (hl : l.length ≤ 9223372036854775807) (hok : ∀ r ∈ l, r.Ok) (hl2 : ks.length ≤ 9223372036854775807) (w : World) (hI : Recs w A l) (hJ : Bools w A2 ks) (hL : Lay w) :
    Calls Tryd.prog 5 #[.slice A l.length cap, .slice A2 ks.length cap2] w fun e w' => e = .returned (.bool true) ∧ Below w.heap.size w w' := by
  have HL := Lib.hid hL
  have H0 := Lib.hid (lay_lt hL)
  have HI := Lib.hid hI
  have HJ := Lib.hid hJ
  have HOk := Lib.hid hok
  clear hL hI hJ hok
  go_enter Tryd.func5, Tryd.ntmps5
  go_wp2_with fail
  refine (rshown_any _ HL.out).mono ?_
  rintro e w1 ⟨rfl, hb1⟩
  have HB1 := Lib.hid hb1
  clear hb1
  go_wp2_with fail
  refine (new_any _).mono ?_
  rintro e w2 ⟨rfl, hI2, hb2⟩
  have HSt2 := Lib.hid (St.new hI2)
  have HB2 := Lib.hid hb2
  clear hI2 hb2
  go_wp2_with fail
  go_loopw [7] (fun i wr => ∃ j : Nat, j ≤ l.length ∧ j ≤ 20 ∧ i = .int .i64 j ∧ (∀ t, t < j → (Rat l t).n.size ≤ 700 ∧ (Rat l t).d.size ≤ 700) ∧ St w1.heap.size w1.heap.size (bst (Rat l) (Kat ks) j).1 (bst (Rat l) (Kat ks) j).2 wr ∧ Below w1.heap.size w1 wr) (fun i _ => l.length - (intOf i).toNat)
  case atStart => exact ⟨0, Nat.zero_le _, Nat.zero_le _, rfl, (fun t ht => by omega), HSt2.out, HB2.out⟩
  case round =>
    clear HSt2 HB2
    obtain ⟨j, hj, hj20, rfl, hfew, hst, hbel⟩ := hrel
    have HFew := Lib.hid hfew
    have HSt := Lib.hid hst
    have HBel := Lib.hid hbel
    have HBw := Lib.hid (HB1.out.trans (hbel.mono HB1.out.size))
    have HB := Lib.hid (Nat.le_trans (Nat.le_refl w1.heap.size) hbel.size)
    clear hfew hst hbel
    by_cases hgo : j < l.length ∧ j < 20
    · obtain ⟨hlt, hlt20⟩ := hgo
      obtain ⟨ab, ao, rfl, hab, hcl⟩ := HI.out.cells j hlt
      have hrok := HOk.out l[j] (List.getElem_mem hlt)
      have hR := Rat_lt hlt
      have hsl := bst_len (Rat l) (Kat ks) j (fun t ht => (HFew.out t ht).2)
      obtain ⟨⟨Y, y1, y2⟩, yg⟩ := bmid_app (bst_good (Rat l) (Kat ks) j) (Rat l j) (Kat ks j)
      have hml : (bmid (bst (Rat l) (Kat ks) j) (Rat l j) (Kat ks j)).1.length ≤ 26259 := by rw [y1, List.length_append]; omega
      have hnx : bst (Rat l) (Kat ks) (j + 1) = prS (bmid (bst (Rat l) (Kat ks) j) (Rat l j) (Kat ks j)).1 (bmid (bst (Rat l) (Kat ks) j) (Rat l j) (Kat ks j)).2 (Rat l j) := rfl
      have hmi : bmid (bst (Rat l) (Kat ks) j) (Rat l j) (Kat ks j) = if Kat ks j = true then pqS (bst (Rat l) (Kat ks) j).1 (bst (Rat l) (Kat ks) j).2 (Rat l j) else bst (Rat l) (Kat ks) j := rfl
      rw [hR] at hml hnx hmi
      have hfn : ∀ (h1 : l[j].n.size ≤ 700) (h2 : l[j].d.size ≤ 700) t, t < j + 1 → (Rat l t).n.size ≤ 700 ∧ (Rat l t).d.size ≤ 700 := fun h1 h2 t ht => by
        rcases Nat.lt_or_ge t j with h | h
        · exact HFew.out t h
        · obtain rfl : t = j := by omega
          rw [hR]
          exact ⟨h1, h2⟩
      have HFn := Lib.hid hfn
      have HNx := Lib.hid hnx
      have HMi := Lib.hid hmi
      have HCl := Lib.hid hcl
      clear hfn hnx hmi y1 y2 yg hR hcl
      generalize hr : l[j] = r at *
      generalize bmid (bst (Rat l) (Kat ks) j) r (Kat ks j) = M at *
      have HSl := Lib.hid (And.intro hsl hml)
      clear hsl hml hr
      obtain ⟨c0, c1, c2, c3, c4⟩ := HCl.out wr HBw.out
      have hfa := few_any r
      cases hf : fewR r with
      | false =>
        rw [hf] at hfa
        have HFa := Lib.hid hfa
        clear hfa hf
        go_wp2_with fail
        refine (HFa.out _).mono ?_
        rintro e w3 ⟨rfl, hb3⟩
        have HBf := Lib.hid (HBw.out.trans (hb3.mono HBw.out.size))
        clear hb3
        go_wp2_with fail
        go_ret
        exact ⟨rfl, HBf.out⟩
      | true =>
        rw [hf] at hfa
        have HFa := Lib.hid hfa
        have hfs : r.n.size ≤ 700 ∧ r.d.size ≤ 700 := by unfold fewR at hf; simpa using hf
        have HFs := Lib.hid hfs
        have HRok := Lib.hid hrok
        clear hfa hf hfs hrok
        go_wp2_with fail
        refine (HFa.out _).mono ?_
        rintro e w3 ⟨rfl, hb3⟩
        have HSt3 := Lib.hid (HSt.out.below hb3)
        have HB3 := Lib.hid (HBel.out.trans (hb3.mono HB.out))
        clear hb3 c0 c1 c2 c3 c4 HSt HBel HBw
        by_cases hka : j < ks.length
        · obtain ⟨bb, bo, rfl, hbb, hbc⟩ := HJ.out.cells j hka
          have hbk := hbc w3 (HB1.out.trans (HB3.out.mono HB1.out.size))
          have hKK := Kat_lt hka
          cases hkv : ks[j] with
          | true =>
            rw [hkv] at hbk hKK
            rw [hKK, if_pos rfl] at HMi
            have d1 : decide ((j : Int) < (ks.length : Int)) = true := by simp; omega
            clear hkv hKK hbc
            obtain ⟨c0, c1, c2, c3, c4⟩ := HCl.out w3 (HB1.out.trans (HB3.out.mono HB1.out.size))
            go_wp2_with fail
            refine (key_any _ _ _ _ _ _).mono ?_
            rintro e w4 ⟨rfl, hb4⟩
            have HSt4 := Lib.hid (HSt3.out.below hb4)
            have HB4 := Lib.hid (HB3.out.trans (hb4.mono HB3.out.size))
            clear hb4 c0 c1 c2 c3 c4 hbk
            go_wp2_with fail
            refine (putq_any _ _ _ _ r (by have := HFs.out; omega) HRok.out (by have := HSl.out; omega) _ HSt4.out HB4.out.size).mono ?_
            rintro e w5 ⟨rfl, hs5, hb5, _⟩
            generalize stE r.n = E5
            rw [← HMi.out] at hs5
            have HSt5 := Lib.hid hs5
            have HB5 := Lib.hid (HB4.out.trans hb5)
            clear hs5 hb5 HSt3 HSt4 HB3 HB4
            obtain ⟨c0, c1, c2, c3, c4⟩ := HCl.out w5 (HB1.out.trans (HB5.out.mono HB1.out.size))
            have HLp := Lib.hid (HL.out.below H0.out (HB1.out.trans (HB5.out.mono HB1.out.size)))
            go_wp2_with fail
            refine (putr_any _ _ M.1 M.2 r (by have := HFs.out; omega) (by have := HFs.out; omega) HRok.out (by have := HSl.out; omega) _ HLp.out HSt5.out HB5.out.size (Nat.lt_of_lt_of_le H0.out HB1.out.size)).mono ?_
            rintro e w6 ⟨rfl, hs6, hb6, _⟩
            generalize prE r = E0
            rw [← HNx.out] at hs6
            have HS6 := Lib.hid hs6
            have HB6 := Lib.hid (HB5.out.trans hb6)
            clear hs6 hb6 c0 c1 c2 c3 c4
            go_wp2_with fail
            go_roundw
            case rel => exact ⟨j + 1, hlt, hlt20, by go_num, HFn.out HFs.out.1 HFs.out.2, HS6.out, HB6.out⟩
            case measure => simp [intOf]; omega
          | false =>
            rw [hkv] at hbk hKK
            rw [hKK, if_neg (by decide)] at HMi
            have d1 : decide ((j : Int) < (ks.length : Int)) = true := by simp; omega
            rw [← HMi.out] at HSt3
            clear hkv hKK hbc
            obtain ⟨c0, c1, c2, c3, c4⟩ := HCl.out w3 (HB1.out.trans (HB3.out.mono HB1.out.size))
            have HLp := Lib.hid (HL.out.below H0.out (HB1.out.trans (HB3.out.mono HB1.out.size)))
            go_wp2_with fail
            refine (putr_any _ _ M.1 M.2 r (by have := HFs.out; omega) (by have := HFs.out; omega) HRok.out (by have := HSl.out; omega) _ HLp.out HSt3.out HB3.out.size (Nat.lt_of_lt_of_le H0.out HB1.out.size)).mono ?_
            rintro e w6 ⟨rfl, hs6, hb6, _⟩
            generalize prE r = E0
            rw [← HNx.out] at hs6
            have HS6 := Lib.hid hs6
            have HB6 := Lib.hid (HB3.out.trans hb6)
            clear hs6 hb6 c0 c1 c2 c3 c4
            go_wp2_with fail
            go_roundw
            case rel => exact ⟨j + 1, hlt, hlt20, by go_num, HFn.out HFs.out.1 HFs.out.2, HS6.out, HB6.out⟩
            case measure => simp [intOf]; omega
        · have hKK := Kat_ge hka
          rw [hKK, if_neg (by decide)] at HMi
          have d1 : decide ((j : Int) < (ks.length : Int)) = false := by simp; omega
          rw [← HMi.out] at HSt3
          clear hKK
          obtain ⟨c0, c1, c2, c3, c4⟩ := HCl.out w3 (HB1.out.trans (HB3.out.mono HB1.out.size))
          have HLp := Lib.hid (HL.out.below H0.out (HB1.out.trans (HB3.out.mono HB1.out.size)))
          go_wp2_with fail
          refine (putr_any _ _ M.1 M.2 r (by have := HFs.out; omega) (by have := HFs.out; omega) HRok.out (by have := HSl.out; omega) _ HLp.out HSt3.out HB3.out.size (Nat.lt_of_lt_of_le H0.out HB1.out.size)).mono ?_
          rintro e w6 ⟨rfl, hs6, hb6, _⟩
          generalize prE r = E0
          rw [← HNx.out] at hs6
          have HS6 := Lib.hid hs6
          have HB6 := Lib.hid (HB3.out.trans hb6)
          clear hs6 hb6 c0 c1 c2 c3 c4
          go_wp2_with fail
          go_roundw
          case rel => exact ⟨j + 1, hlt, hlt20, by go_num, HFn.out HFs.out.1 HFs.out.2, HS6.out, HB6.out⟩
          case measure => simp [intOf]; omega
    · obtain ⟨m, hm⟩ : ∃ m, j = m := ⟨_, rfl⟩
      subst hm
      have hback := fun t (ht : t < j) hr => bst_back (Rat l) (Kat ks) ht hr (s := ⟨(bst (Rat l) (Kat ks) j).1.toArray⟩) rfl
      have hsl := bst_len (Rat l) (Kat ks) j (fun t ht => (HFew.out t ht).2)
      have hpre := fun t (ht : t ≤ j) => bst_pre (Rat l) (Kat ks) ht
      have hcond : decide (j < l.length) = false ∨ (decide (j < l.length) = true ∧ decide ((j : Int) < 20) = false ∧ j < l.length) := by
        by_cases h : j < l.length
        · right; refine ⟨by simpa using h, ?_, h⟩; simp; omega
        · left; simpa using h
      have HC := Lib.hid hcond
      clear hcond hgo
      have HBk := Lib.hid hback
      have HSl := Lib.hid hsl
      have HPre := Lib.hid hpre
      clear hback hsl hpre HBel HB
      go_upto_region 4 with (fail)
      go_cut [26] (fun q wx => q = .bool false ∧ wr = wx)
      case first =>
        rcases HC.out with g1 | ⟨g1, g2, g3⟩
        all_goals
          go_wp2_with fail
          go_meet
          case rel => exact ⟨rfl, rfl⟩
      case rest =>
        obtain ⟨rfl, rfl⟩ := hcut
        go_wp2_with fail
        refine (out_any _ _ _ _ _ HSt.out.is).mono ?_
        rintro e w5 ⟨rfl, rfl⟩
        go_wp2_with fail
        go_loopw [9, 10] (fun a i wr => ∃ t : Nat, t ≤ j ∧ a = .int .i64 ((bst (Rat l) (Kat ks) t).1.length : Nat) ∧ i = .int .i64 t ∧ Below w.heap.size w wr) (fun _ i _ => j - (intOf i).toNat)
        case atStart => exact ⟨0, Nat.zero_le _, rfl, rfl, HBw.out⟩
        case round =>
          clear HSt HBw
          obtain ⟨t, htj, rfl, rfl, hbel⟩ := hrel
          by_cases hgt : t < j
          · have hlt : t < l.length := by omega
            have hlt20 : t < 20 := by omega
            obtain ⟨ab, ao, rfl, hab, hcl⟩ := HI.out.cells t hlt
            have hrok := HOk.out l[t] (List.getElem_mem hlt)
            have hR := Rat_lt hlt
            obtain ⟨F1, F2, F3, F4⟩ := HBk.out t hgt (by rw [hR]; exact hrok)
            have hfs := HFew.out t hgt
            have hsl := HSl.out
            obtain ⟨X0, hX0⟩ := HPre.out t (by omega)
            obtain ⟨X2, hX2⟩ := HPre.out (t + 1) (by omega)
            have q0 : (bst (Rat l) (Kat ks) t).1.length ≤ 26000 := by have := congrArg List.length hX0; rw [List.length_append] at this; omega
            have q2 : (bst (Rat l) (Kat ks) (t + 1)).1.length ≤ 26000 := by have := congrArg List.length hX2; rw [List.length_append] at this; omega
            obtain ⟨⟨Y, y1, y2⟩, yg⟩ := bmid_app (bst_good (Rat l) (Kat ks) t) (Rat l t) (Kat ks t)
            have q1 : (bmid (bst (Rat l) (Kat ks) t) (Rat l t) (Kat ks t)).1.length ≤ 26259 := by rw [y1, List.length_append]; omega
            have qs : (⟨(bst (Rat l) (Kat ks) j).1.toArray⟩ : ByteArray).size ≤ 26000 := by rw [mk_size]; omega
            clear hX0 hX2 y1 y2 yg hsl
            rw [hR] at F1 F2 F3 F4 hfs q1
            clear hR
            generalize hr : l[t] = r at *
            clear hr
            generalize hSb : (⟨(bst (Rat l) (Kat ks) j).1.toArray⟩ : ByteArray) = Sb at *
            generalize hP0 : (bst (Rat l) (Kat ks) t).1.length = p0 at *
            generalize hP1 : (bmid (bst (Rat l) (Kat ks) t) r (Kat ks t)).1.length = p1 at *
            generalize hP2 : (bst (Rat l) (Kat ks) (t + 1)).1.length = p2 at *
            have HP2 := Lib.hid hP2
            clear hSb hP0 hP1 hP2
            have htq : (Kat ks t && mayB r.n) = true → ∀ w', Calls Tryd.prog 13 #[.string Sb, .int .i64 (p0 : Nat)] w' (fun e w'' => e = .returned (.tuple #[.agg #[.string r.n, .int .u16 (r.k : Nat), .int .u16 (r.c : Nat)], .int .i64 (p1 : Nat), .int .i64 0]) ∧ Below w'.heap.size w' w'') := fun h w' => by
              obtain ⟨e1, e2, e3⟩ := q_some (F1 h)
              have := takeq_any Sb (p0 : Nat) (by omega) (by unfold maxLen; omega) w'
              rw [e1, e2, e3] at this
              exact this
            have htr : mayR r = true → ∀ w', Lay w' → Calls Tryd.prog 11 #[.string Sb, .int .i64 (p1 : Nat)] w' (fun e w'' => e = .returned (.tuple #[.agg #[.string r.n, .int .u16 (r.k : Nat), .int .u16 (r.c : Nat), .int .u32 (r.t : Nat), .string r.d], .int .i64 (p2 : Nat), .int .i64 0]) ∧ Below w'.heap.size w' w'') := fun h w' hL' => by
              obtain ⟨e1, e2, e3⟩ := r_some (F3 h)
              have := taker_any Sb (p1 : Nat) (by omega) (by unfold maxLen; omega) w' hL'
              rw [e1, e2, e3] at this
              exact this
            have HTq := Lib.hid htq
            have HTr := Lib.hid htr
            have HF2 := Lib.hid F2
            have HF4 := Lib.hid F4
            have HCl := Lib.hid hcl
            have HBw := Lib.hid hbel
            have HMq := Lib.hid (fun w' => mayq_any r.n r.k r.c (by omega) w')
            have HMr := Lib.hid (fun w' hL' => mayr_any r (by omega) (by omega) hrok w' hL')
            clear htq htr F1 F2 F3 F4 hcl hbel hrok qs HPre HSl HBk
            obtain ⟨c0, c1, c2, c3, c4⟩ := HCl.out wr HBw.out
            go_upto_region 16 with (fail)
            go_cut [88] (fun q wx => q = .bool (Kat ks t && mayB r.n) ∧ Below w.heap.size w wx)
            case first =>
              by_cases hka : t < ks.length
              · obtain ⟨bb, bo, rfl, hbb, hbc⟩ := HJ.out.cells t hka
                have hbk := hbc wr HBw.out
                have hKK := Kat_lt hka
                have d1 : decide ((t : Int) < (ks.length : Int)) = true := by simp; omega
                clear hbc
                cases hkv : ks[t] with
                | true =>
                  rw [hkv] at hbk hKK
                  have HKK := Lib.hid hKK
                  clear hkv hKK
                  go_wp2_with fail
                  refine (key_any _ _ _ _ _ _).mono ?_
                  rintro e w4 ⟨rfl, hb4⟩
                  have HB4 := Lib.hid (HBw.out.trans (hb4.mono HBw.out.size))
                  clear hb4
                  go_wp2_with fail
                  refine (HMq.out _).mono ?_
                  rintro e w5 ⟨rfl, hb5⟩
                  have HB5 := Lib.hid (HB4.out.trans (hb5.mono HB4.out.size))
                  clear hb5
                  go_wp2_with fail
                  go_meet
                  case rel => exact ⟨by rw [HKK.out, Bool.true_and], HB5.out⟩
                | false =>
                  rw [hkv] at hbk hKK
                  have HKK := Lib.hid hKK
                  clear hkv hKK
                  go_wp2_with fail
                  go_meet
                  case rel => exact ⟨by rw [HKK.out, Bool.false_and], HBw.out⟩
              · have hKK := Kat_ge hka
                have d1 : decide ((t : Int) < (ks.length : Int)) = false := by simp; omega
                have HKK := Lib.hid hKK
                clear hKK
                go_wp2_with fail
                go_meet
                case rel => exact ⟨by rw [HKK.out, Bool.false_and], HBw.out⟩
            case rest =>
              obtain ⟨rfl, hbc⟩ := hcut
              have HBc := Lib.hid hbc
              clear hbc c0 c1 c2 c3 c4 HBw HMq
              go_upto_if 88 with (fail)
              go_cut [9] (fun a wx => a = .int .i64 (p1 : Nat) ∧ Below w.heap.size w wx)
              case first =>
                cases hq : (Kat ks t && mayB r.n) with
                | true =>
                  have HT := Lib.hid (HTq.out hq)
                  clear hq HTq
                  go_wp2_with fail
                  refine (HT.out _).mono ?_
                  rintro e w4 ⟨rfl, hb4⟩
                  obtain ⟨w5, hw5⟩ : ∃ w5, w5 = w4.alloc (Obj.cells #[.string r.n, .int .u16 (r.k : Nat), .int .u16 (r.c : Nat)] 29) := ⟨_, rfl⟩
                  have hbx := HBc.out.trans (hb4.mono HBc.out.size)
                  have HB5 := Lib.hid (hbx.alloc hbx.size (Obj.cells #[.string r.n, .int .u16 (r.k : Nat), .int .u16 (r.c : Nat)] 29))
                  have HG5 := Lib.hid (World.alloc_heap_new w4 (Obj.cells #[.string r.n, .int .u16 (r.k : Nat), .int .u16 (r.c : Nat)] 29))
                  rw [← hw5] at HB5 HG5
                  have HW5 := Lib.hid hw5
                  obtain ⟨c0, c1, c2, c3, c4⟩ := HCl.out w5 HB5.out
                  have g0 : w5.cell? ⟨w4.heap.size, 0, none⟩ = some (.string r.n) := blk_cell HG5.out 0
                  have g1 : w5.cell? ⟨w4.heap.size, 1, none⟩ = some (.int .u16 (r.k : Nat)) := blk_cell HG5.out 1
                  have g2 : w5.cell? ⟨w4.heap.size, 2, none⟩ = some (.int .u16 (r.c : Nat)) := blk_cell HG5.out 2
                  clear hb4 hw5 hbx HT
                  go_upto_region 18 with (fail)
                  rw [← HW5.out]
                  clear HW5
                  first | (go_region_with (first | (go_at_call 10; refine (key_any _ _ _ _ _ w5.drew).mono ?_; rintro e w6 ⟨rfl, hb6⟩; have HB6 := Lib.hid (HB5.out.drew.trans (hb6.mono HB5.out.size)); have k0 : w6.cell? ⟨w4.heap.size, 0, none⟩ = some (.string r.n) := blk_cell ((hb6.block _ (heap_lt HG5.out)).trans HG5.out) 0; have k1 : w6.cell? ⟨w4.heap.size, 1, none⟩ = some (.int .u16 (r.k : Nat)) := blk_cell ((hb6.block _ (heap_lt HG5.out)).trans HG5.out) 1; have k2 : w6.cell? ⟨w4.heap.size, 2, none⟩ = some (.int .u16 (r.c : Nat)) := blk_cell ((hb6.block _ (heap_lt HG5.out)).trans HG5.out) 2; clear hb6))) | fail
                  all_goals
                    go_wp2_with fail
                    go_meet
                    case rel => exact ⟨rfl, HB6.out⟩
                | false =>
                  have HQ := Lib.hid hq
                  clear hq
                  go_wp2_with fail
                  go_meet
                  case rel => exact ⟨by rw [HF2.out HQ.out], HBc.out⟩
              case rest =>
                obtain ⟨rfl, hbc⟩ := hcut
                have HBd := Lib.hid hbc
                clear hbc HTq HF2 HBc
                obtain ⟨c0, c1, c2, c3, c4⟩ := HCl.out wc HBd.out
                have HLd := Lib.hid (HL.out.below H0.out HBd.out)
                cases hmr : mayR r with
                | false =>
                  rw [hmr] at HMr
                  have HE := Lib.hid (HF4.out hmr)
                  clear hmr
                  go_wp2_with fail
                  refine (HMr.out _ HLd.out).mono ?_
                  rintro e w6 ⟨rfl, hb6⟩
                  have HB6 := Lib.hid (HBd.out.trans (hb6.mono HBd.out.size))
                  clear hb6
                  go_wp2_with fail
                  go_roundw
                  case rel => exact ⟨t + 1, hgt, by rw [HP2.out, HE.out], by go_num, HB6.out⟩
                  case measure => simp [intOf]; omega
                | true =>
                  rw [hmr] at HMr
                  have HT := Lib.hid (HTr.out hmr)
                  clear hmr HTr
                  go_wp2_with fail
                  refine (HMr.out _ HLd.out).mono ?_
                  rintro e w6 ⟨rfl, hb6⟩
                  have HB6 := Lib.hid (HBd.out.trans (hb6.mono HBd.out.size))
                  clear hb6 c0 c1 c2 c3 c4
                  go_wp2_with fail
                  refine (HT.out _ (HL.out.below H0.out HB6.out)).mono ?_
                  rintro e w7 ⟨rfl, hb7⟩
                  obtain ⟨w8, hw8⟩ : ∃ w8, w8 = w7.alloc (Obj.cells #[.string r.n, .int .u16 (r.k : Nat), .int .u16 (r.c : Nat), .int .u32 (r.t : Nat), .string r.d] 25) := ⟨_, rfl⟩
                  have hbx := HB6.out.trans (hb7.mono HB6.out.size)
                  have HB8 := Lib.hid (hbx.alloc hbx.size (Obj.cells #[.string r.n, .int .u16 (r.k : Nat), .int .u16 (r.c : Nat), .int .u32 (r.t : Nat), .string r.d] 25))
                  have HG8 := Lib.hid (World.alloc_heap_new w7 (Obj.cells #[.string r.n, .int .u16 (r.k : Nat), .int .u16 (r.c : Nat), .int .u32 (r.t : Nat), .string r.d] 25))
                  rw [← hw8] at HB8 HG8
                  have HW8 := Lib.hid hw8
                  obtain ⟨c0, c1, c2, c3, c4⟩ := HCl.out w8 HB8.out
                  have g0 : w8.cell? ⟨w7.heap.size, 0, none⟩ = some (.string r.n) := blk_cell HG8.out 0
                  have g1 : w8.cell? ⟨w7.heap.size, 1, none⟩ = some (.int .u16 (r.k : Nat)) := blk_cell HG8.out 1
                  have g2 : w8.cell? ⟨w7.heap.size, 2, none⟩ = some (.int .u16 (r.c : Nat)) := blk_cell HG8.out 2
                  have g3 : w8.cell? ⟨w7.heap.size, 3, none⟩ = some (.int .u32 (r.t : Nat)) := blk_cell HG8.out 3
                  have g4 : w8.cell? ⟨w7.heap.size, 4, none⟩ = some (.string r.d) := blk_cell HG8.out 4
                  clear hb7 hw8 hbx HT
                  go_upto_region 23 with (fail)
                  rw [← HW8.out]
                  clear HW8
                  first | (go_region_with (fail)) | fail
                  all_goals
                    go_wp2_with fail
                    go_roundw
                    case rel => exact ⟨t + 1, hgt, by rw [HP2.out], by go_num, HB8.out.drew⟩
                    case measure => simp [intOf]; omega
          · obtain rfl : t = j := by omega
            have HBf := Lib.hid hbel
            have hz : (⟨(bst (Rat l) (Kat ks) t).1.toArray⟩ : ByteArray).size = (bst (Rat l) (Kat ks) t).1.length := mk_size _
            clear hbel hgt HPre HSl HBk HFew
            go_upto_region 14 with (fail)
            go_cut [68] (fun q wx => q = .bool false ∧ wr = wx)
            case first =>
              rcases HC.out with g1 | ⟨g1, g2, g3⟩
              all_goals
                go_wp2_with fail
                go_meet
                case rel => exact ⟨rfl, rfl⟩
            case rest =>
              obtain ⟨rfl, rfl⟩ := hcut
              go_wp2_with fail
              go_ret
              exact ⟨by simp, HBf.out⟩
end Go.Proofs.YtlphbeaaeeohjaaDoor
