/- The law WheelNobody: its walk. -/
import Derived.Test.YtdhahienhlknoaaWvb
namespace Go.Proofs.Ytdhahienhlknoaa
open Go.RowKit
set_option linter.unusedVariables false
/-- All at one time. -/
def At1 (t : Nat) (l : List Ti) : Prop := ∀ x ∈ l, x.t = t
theorem At1.set {t : Nat} {l : List Ti} (h : At1 t l) (id : Int) : At1 t (setL l id t) := fun x hx => by
  rcases insL_mem.1 hx with rfl | hx
  · rfl
  · exact h x (delL_mem.1 hx).1
theorem At1.due {t : Nat} {l : List Ti} (h : At1 t l) (M : Nat) (hM : t ≤ M) : dueL l M = l ∧ restL l M = [] := by
  have hp : ∀ x ∈ l, decide (x.t ≤ M) = true := fun x hx => by rw [h x hx]; simpa using hM
  clear h
  induction l with
  | nil => exact ⟨rfl, rfl⟩
  | cons x l ih =>
    obtain ⟨i1, i2⟩ := ih fun y hy => hp y (List.mem_cons_of_mem _ hy)
    have h0 := hp x (List.mem_cons_self ..)
    unfold dueL restL at *
    rw [List.takeWhile_cons, if_pos h0, i1, List.dropWhile_cons, if_pos h0, i2]
    exact ⟨rfl, rfl⟩
theorem At1.up {t : Nat} {l : List Ti} (h : At1 t l) (hO : Ord l) (p i : Nat) (hp : p < i) (hi : i < (l.map (·.id)).length) : (l.map (·.id))[p]'(Nat.lt_trans hp hi) < (l.map (·.id))[i] := by
  rw [List.length_map] at hi
  have := (List.pairwise_iff_getElem.1 hO.so) p i (by omega) hi hp
  rw [List.getElem_map, List.getElem_map]
  unfold ltT at this
  rw [h _ (List.getElem_mem _), h _ (List.getElem_mem _)] at this
  omega
theorem set_nilz (id : Int) (z : Int) (t : Nat) (hz : z = t) (w : World) : Calls Try.prog 16 #[.pointer none, .int .i64 id, .int .u64 z] w fun e w' => e = .returned (.int .i64 1) ∧ w' = w := by subst hz; exact set_nil id t w
theorem due_nilz (z : Int) (now : Nat) (hz : z = now) (w : World) : Calls Try.prog 19 #[.pointer none, .int .u64 z] w fun e w' => e = .returned (.slice none 0 0) ∧ Below w.heap.size w w' := by subst hz; exact due_nil now w
theorem len_nilz (w : World) : Calls Try.prog 10 #[.pointer none] w fun e w' => e = .returned (.int .i64 0) ∧ Below w.heap.size w w' := len_any (l := []) (.inl ⟨rfl, rfl⟩) (by simp)
theorem next_nilz (w : World) : Calls Try.prog 14 #[.pointer none] w fun e w' => e = .returned (.tuple #[.int .u64 0, .bool false]) ∧ Below w.heap.size w w' := next_any (l := []) (.inl ⟨rfl, rfl⟩)
set_option maxRecDepth 100000 in
set_option maxHeartbeats 8000000 in
theorem nobody_walk (HS : SortC 200) (k : Nat) (A : Option Addr) (cap : Nat) (ids : List Int) (t : Nat) (hk : k < 256) (hwf : ∀ i ∈ ids, (Lit.int .i64 i).wf = true) (ht : t < 18446744073709551616) (w : World) (hA : NsI w A ids) :
    Calls Try.prog 6 #[.int .u8 (k : Nat), .slice A ids.length cap, .int .u64 (t : Nat)] w fun e w' => e = .returned (.bool true) ∧ Below w.heap.size w w' := by
  have HSS := Lib.hid HS
  have HA := Lib.hid hA
  have HWF := Lib.hid hwf
  have HC0 := Lib.hid (shown_any w)
  have HC1 := Lib.hid (fun w' => new_z (1 + (k : Nat)) (k + 1) (by omega) (by omega) (by omega) w')
  have HN1 := Lib.hid (at_nil 1)
  have HN2 := Lib.hid next_nilz
  clear hA HS hwf
  go_enter Try.func6, Try.ntmps6
  go_wp2_with (first
    | (go_at_call 9; with_reducible (refine (HC1.out _).mono ?_); rintro e w1 ⟨g, sb, bm, rfl, hl1, hb1, hg1, hsb1, hm1⟩)
    | (go_at_call 14; with_reducible (refine (HN2.out _).mono ?_); rintro e w9 ⟨rfl, hb9⟩)
    | (go_at_call 12; with_reducible (refine (HN1.out _).mono ?_); rintro e w8 ⟨rfl, rfl⟩)
    | (go_at_call 8; with_reducible (refine HC0.out.mono ?_); rintro e w0 ⟨rfl, hb0⟩))
  have hb09 := hb0.trans (hb9.mono hb0.size)
  have HB1 := Lib.hid (hb09.trans (hb1.mono hb09.size))
  have HM := Lib.hid (show ∀ j, j < k + 1 → w.heap.size ≤ bm j from fun j hj => Nat.le_trans hb09.size (hm1 j hj))
  have HL1 := Lib.hid hl1
  clear hb0 hb1 hl1 hm1 hg1 hsb1 HC0 HC1 HN1 HN2 hb9 hb09
  go_loopw [14] (fun x wr => ∃ (j n : Nat) (lw : List Ti), x = .int .i64 j ∧ j ≤ ids.length ∧ j ≤ 100 ∧ n ≤ j ∧ lw.length ≤ j ∧ At1 t lw ∧ Wl wr g sb (k + 1) n bm lw ∧ Below w.heap.size w wr) (fun x _ => ids.length - (intOf x).toNat)
  case atStart => exact ⟨0, 0, [], rfl, Nat.zero_le _, by omega, Nat.le_refl _, Nat.le_refl _, (fun _ h => by cases h), HL1.out, HB1.out⟩
  case round =>
    clear HB1 HL1
    obtain ⟨j, n, lw, rfl, hj, hj2, hn, hlen, hwl, hl, hb⟩ := hrel
    have HL := Lib.hid hl
    have HB := Lib.hid hb
    have HW := Lib.hid hwl
    clear hl hb hwl
    obtain ⟨bq, hbq⟩ : ∃ z, (decide (j < ids.length) && decide (j < 100)) = z := ⟨_, rfl⟩
    go_upto_region 7 with fail
    go_cut [40] (fun x wx => x = .bool bq ∧ wx = wr)
    case first =>
      by_cases h1 : j < ids.length
      · have d1 : decide ((j : Int) < (ids.length : Nat)) = true := by simp; omega
        by_cases h2 : j < 100
        · have d2 : decide ((j : Int) < 100) = true := by simp; omega
          go_wp2_with fail
          go_meet
          exact ⟨by rw [← hbq]; simp [h1, h2], rfl⟩
        · have d2 : decide ((j : Int) < 100) = false := by simp; omega
          go_wp2_with fail
          go_meet
          exact ⟨by rw [← hbq]; simp [h2], rfl⟩
      · have d1 : decide ((j : Int) < (ids.length : Nat)) = false := by simp; omega
        go_wp2_with fail
        go_meet
        exact ⟨by rw [← hbq]; simp [h1], rfl⟩
    case rest =>
    obtain ⟨rfl, rfl⟩ := hcut
    cases bq with
    | true =>
      simp only [Bool.and_eq_true, decide_eq_true_eq] at hbq
      obtain ⟨hlt, h200⟩ := hbq
      obtain ⟨b, off, rfl, hbb, c0⟩ := (HA.out.below HB.out) j hlt
      have hwd := HWF.out _ (List.getElem_mem hlt)
      have s0 : (0 : Int) ≤ (j : Nat) := by omega
      have s1 : (j : Int) < (ids.length : Nat) := by omega
      clear hbb
      generalize ids[j] = i at hwd c0
      have HS := Lib.hid (set_f i hwd t ht HL.out (by omega))
      have HLe := Lib.hid (setL_le lw i t)
      go_wp2_with (go_at_call 16; with_reducible (refine HS.out.mono ?_); rintro e w2 ⟨rfl, hl2, hf2⟩)
      go_roundw
      case rel => exact ⟨j + 1, n + 1, _, by go_num, hlt, h200, by omega, by have := HLe.out; omega, HW.out.set i, hl2, HB.out.trans (hf2.isBelow HM.out HB.out.size)⟩
      case measure => simp [intOf]; omega
    | false =>
      have hO := HL.out.ord
      have H1 := Lib.hid (len_f HL.out (by omega))
      obtain ⟨q1, q2⟩ := HW.out.due 18446744073709551615 (by omega)
      have hdd := fun w2 (h : Wl w2 g sb (k + 1) n bm lw) => due_z 200 HSS.out (by omega) 18446744073709551615 18446744073709551615 rfl h (by rw [q1]; omega) (by omega)
      rw [q1, q2] at hdd
      have HDF := Lib.hid hdd
      have HUP := Lib.hid (HW.out.up hO)
      have hid : (lw.map (·.id)).length = lw.length := List.length_map ..
      have hdl200 : lw.length ≤ 100 := by omega
      clear hO hbq hdd q1 q2 HA HW HL hlen
      generalize lw.map (·.id) = is at *
      generalize lw.length = dl at *
      go_wp2_with (first
        | (go_at_call 19; (with_reducible (refine (HDF.out _ H3.out.1).mono ?_)); rintro e w4 ⟨A4, c4, rfl, hn4, hl4, hf4⟩; have HNs := Lib.hid hn4; have H4 := Lib.hid (And.intro hl4 (H3.out.2.trans (hf4.isBelow HM.out H3.out.2.size))); clear hn4 hl4 hf4)
        | (go_at_call 10; (with_reducible (refine H1.out.mono ?_)); rintro e w2 ⟨rfl, hl2, hf2⟩; have H3 := Lib.hid (And.intro hl2 (HB.out.trans (hf2.isBelow HM.out HB.out.size))); clear hl2 hf2))
      clear H1 H3 HDF
      go_loopw [17] (fun x wr => ∃ i : Nat, x = .int .i64 i ∧ 1 ≤ i ∧ (i ≤ dl ∨ i = 1) ∧ NsI wr A4 is ∧ Wl wr g sb (k + 1) n bm [] ∧ Below w.heap.size w wr) (fun x _ => dl - (intOf x).toNat)
      case atStart => exact ⟨1, rfl, Nat.le_refl _, .inr rfl, HNs.out, H4.out.1, H4.out.2⟩
      case round =>
        clear HNs H4
        obtain ⟨i, rfl, hi1, hi, hns, hl5, hb5⟩ := hrel
        have HNs := Lib.hid hns
        have HL5 := Lib.hid hl5
        have HB5 := Lib.hid hb5
        clear hns hl5 hb5
        by_cases hlt : i < dl
        · have d1 : decide ((i : Int) < (dl : Nat)) = true := by simp; omega
          obtain ⟨p, hp⟩ : ∃ z, i - 1 = z := ⟨_, rfl⟩
          obtain ⟨b, off, rfl, hbb, c0⟩ := HNs.out i (by omega)
          obtain ⟨b', off', e', hbb', c1⟩ := HNs.out p (by omega)
          cases e'
          have hup := HUP.out p i (by omega) (by omega)
          have S2 := Lib.hid (And.intro (show NsI wr.drew (some ⟨b, off, none⟩) is from HNs.out) (And.intro (show Wl wr.drew g sb (k + 1) n bm [] from HL5.out.drewN 1) HB5.out.drew))
          clear hbb hbb' HNs HL5 HB5 HUP
          have s0 : (0 : Int) ≤ (i : Nat) := by omega
          have s1 : (i : Int) < (dl : Nat) := by omega
          have s2 : (0 : Int) ≤ (p : Nat) := by omega
          have s3 : (p : Int) < (dl : Nat) := by omega
          have ep : ((i : Nat) : Int) - 1 = (p : Nat) := by omega
          have ewp : IntKind.i64.wrap (p : Nat) = (p : Nat) := by rw [IntKind.wrap_i64]; omega
          have ewp2 : IntKind.i64.wrap (((i : Nat) : Int) - 1) = (p : Nat) := by rw [ep]; exact ewp
          generalize is[i] = qi at hup c0
          generalize is[p] = qp at hup c1
          have d2 : decide (qi ≤ qp) = false := by simp; omega
          have d3 : ¬ qi ≤ qp := by omega
          go_wp2_with fail
          first | (go_region) | fail
          generalize wr.drew = w6 at *
          go_wp2_with fail
          go_roundw
          case rel => exact ⟨i + 1, by go_num, by omega, by omega, S2.out⟩
          case measure => simp [intOf]; omega
        · have d1 : decide ((i : Int) < (dl : Nat)) = false := by simp; omega
          have HX1 := Lib.hid (set_nilz 1 2 2 rfl)
          have HX2 := Lib.hid (del_nil 1 (by decide))
          have HX3 := Lib.hid (due_nilz 9 9 rfl)
          have HX4 := Lib.hid len_nilz
          have HX5 := Lib.hid (fun w2 (h : Wl w2 g sb (k + 1) n bm []) => len_f h (by simp))
          clear HNs HUP
          go_wp2_with (first
            | (go_at_call 16; (with_reducible (refine (HX1.out _).mono ?_)); rintro e w6 ⟨rfl, rfl⟩)
            | (go_at_call 17; (with_reducible (refine (HX2.out _).mono ?_)); rintro e w7 ⟨rfl, rfl⟩)
            | (go_at_call 19; (with_reducible (refine (HX3.out _).mono ?_)); rintro e w8 ⟨rfl, hb8⟩; have H8 := Lib.hid (And.intro (HL5.out.low HL5.out.isLow hb8) (HB5.out.trans (hb8.mono HB5.out.size))); clear hb8)
            | (go_at_call 10; (with_reducible (refine (HX4.out _).mono ?_)); rintro e w9 ⟨rfl, hb9⟩; have H9 := Lib.hid (And.intro (H8.out.1.low H8.out.1.isLow hb9) (H8.out.2.trans (hb9.mono H8.out.2.size))); clear hb9)
            | (go_at_call 10; (with_reducible (refine (HX5.out _ H9.out.1).mono ?_)); rintro e w10 ⟨rfl, hl10, hf10⟩; have HB10 := Lib.hid (H9.out.2.trans (hf10.isBelow HM.out H9.out.2.size)); clear hl10 hf10))
          go_ret
          exact ⟨by first | rfl | simp, HB10.out⟩
end Go.Proofs.Ytdhahienhlknoaa
