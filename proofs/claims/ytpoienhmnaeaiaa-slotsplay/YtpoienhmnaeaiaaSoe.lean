/- The contracts of the program's slots: Put and Victim. -/
import Derived.Test.YtpoienhmnaeaiaaSod
namespace Go.Proofs.Ytpoienhmnaeaiaa
open Go.RowKit
set_option linter.unusedVariables false

theorem us_get {c : List Ce} {j : Nat} (hj : j < c.length) : us c j = c[j].u := by unfold us; simp [hj]
theorem first_some {c : List Ce} {j : Nat} (hj : j < c.length) (h0 : us c j = false) (h : ∀ i, i < j → us c i = true) : firstC c = some j := by
  unfold firstC
  rw [List.findIdx?_eq_some_iff_getElem]
  refine ⟨hj, by rw [← us_get hj, h0]; rfl, fun i hi => ?_⟩
  have := h i hi
  rw [us_get (by omega)] at this
  simp [this]
theorem first_none {c : List Ce} (h : ∀ i, i < c.length → us c i = true) : firstC c = none := by
  unfold firstC
  rw [List.findIdx?_eq_none_iff]
  intro x hx
  obtain ⟨i, hi, rfl⟩ := List.getElem_of_mem hx
  have := h i hi
  rw [us_get hi] at this
  simp [this]

set_option maxHeartbeats 1000000 in
theorem put_nil (x : ByteArray) (w : World) : Calls Try.prog 21 #[.pointer none, .string x] w fun e w' => e = .returned (.tuple #[.int .i64 0, .int .i64 5]) ∧ w' = w := by
  have HC := Lib.hid (cap_nil w)
  go_enter Try.func21, Try.ntmps21
  go_wp2_with (go_at_call 17; with_reducible (refine HC.out.mono ?_); rintro e w1 ⟨rfl, rfl⟩)
  go_loopw [9] (fun x wr => x = .int .i64 0 ∧ wr = w1) (fun _ _ => 0)
  case atStart => exact ⟨rfl, rfl⟩
  case round =>
    obtain ⟨rfl, rfl⟩ := hrel
    go_wp2_with fail
    go_ret2
    exact ⟨rfl, rfl⟩
set_option maxHeartbeats 1000000 in
theorem put_any (x : ByteArray) {w : World} {g b : Nat} {M : Ms} (h : Sp w g b M) : Calls Try.prog 21 #[.pointer (some ⟨g, 0, none⟩), .string x] w fun e w' => e = .returned (.tuple #[.int .i64 (putM M x).2.1, .int .i64 (putM M x).2.2]) ∧ Sp w' g b (putM M x).1 ∧ Fp g b w w' := by
  have HC := Lib.hid (cap_any h)
  have HS := Lib.hid h
  have h64 := h.ok.n64
  have c0 := h.c0
  clear h
  generalize hn : M.c.length = n at *
  have HN := Lib.hid hn
  clear hn
  go_enter Try.func21, Try.ntmps21
  go_wp2_with (go_at_call 17; with_reducible (refine HC.out.mono ?_); rintro e w1 ⟨rfl, rfl⟩)
  go_loopw [6, 9] (fun _ x wr => ∃ j : Nat, j ≤ n ∧ x = .int .i64 j ∧ wr = w1 ∧ ∀ i, i < j → us M.c i = true) (fun _ x _ => n - (intOf x).toNat)
  case atStart => exact ⟨0, Nat.zero_le _, rfl, rfl, fun i hi => absurd hi (by omega)⟩
  case round =>
    obtain ⟨j, hj, rfl, rfl, hall⟩ := hrel
    by_cases hlt : j < n
    · have d1 : decide ((j : Int) < n) = true := by simp; omega
      have hjn : j < M.c.length := by rw [HN.out]; exact hlt
      have e1 := HS.out.e1 hjn
      have s0 : (0 : Int) ≤ (j : Nat) := by omega
      have s1 : (j : Int) < (n : Nat) := by omega
      cases hu : us M.c j with
      | true =>
        rw [hu] at e1
        have HA := Lib.hid (And.intro hall hu)
        clear hall hu
        go_wp2_with fail
        go_roundw
        case rel =>
          refine ⟨j + 1, hlt, by go_num, by trivial, fun i hi => ?_⟩
          rcases Nat.lt_or_ge i j with h1 | h1
          · exact HA.out.1 i h1
          · obtain rfl : i = j := by omega
            exact HA.out.2
        case measure => simp [intOf]; omega
      | false =>
        have e0 := HS.out.e0 hjn
        have e2 := HS.out.e2 hjn
        have f0 := HS.out.bb.frozen (j * 3)
        have f1 := HS.out.bb.frozen (j * 3 + 1)
        have f2 := HS.out.bb.frozen (j * 3 + 2)
        have hok := putM_ok HS.out.ok x
        have hp : putM M x = (⟨M.c.set j ⟨x, true, false⟩, M.h⟩, (j : Int), 0) := by unfold putM; rw [first_some hjn hu hall]
        have hlen := putM_len M x
        have hc := cA_set M.c j hjn ⟨x, true, false⟩
        rw [hp] at hok hlen
        have HP := Lib.hid hp
        have HF := Lib.hid (And.intro (HS.out.set3 (M' := ⟨M.c.set j ⟨x, true, false⟩, M.h⟩) (j * 3) (j * 3 + 1) (j * 3 + 2) (.string x) (.bool true) (.bool false) hc hlen rfl hok) (Fp.set3 (w := wr) (j * 3) (j * 3 + 1) (j * 3 + 2) (.string x) (.bool true) (.bool false) HS.out.gb))
        rw [hu] at e1
        clear hok hp hlen hc hu hall
        generalize (M.c.getD j Z0).x = y0 at *
        generalize ts M.c j = y2 at *
        generalize (⟨M.c.set j ⟨x, true, false⟩, M.h⟩ : Ms) = M' at *
        go_wp2_with fail
        go_ret2
        rw [HP.out]
        exact ⟨rfl, HF.out⟩
    · obtain rfl : j = n := by omega
      have d1 : decide ((j : Int) < j) = false := by simp
      have hp : putM M x = (M, 0, 5) := by unfold putM; rw [first_none (by rw [HN.out]; exact hall)]
      have HP := Lib.hid hp
      clear hall hp
      have HF := Lib.hid (And.intro HS.out (Fp.refl g b wr))
      go_wp2_with fail
      go_ret2
      rw [HP.out]
      exact ⟨rfl, HF.out⟩

set_option maxHeartbeats 1000000 in
theorem vic_nil (w : World) : Calls Try.prog 19 #[.pointer none] w fun e w' => e = .returned (.tuple #[.int .i64 0, .bool false]) ∧ w' = w := by
  have HC := Lib.hid (len_nil w)
  go_enter Try.func19, Try.ntmps19
  go_wp2_with fail
  go_step3
  go_wp2_with (go_at_call 11; with_reducible (refine HC.out.mono ?_); rintro e w1 ⟨rfl, rfl⟩)
  try rw [Exit.noGoto_ret]
  go_ret2
  exact ⟨rfl, rfl⟩
/-- The hand goes on. -/
theorem Sp.hand {w : World} {g b : Nat} {M : Ms} (h : Sp w g b M) : Sp (w.setCell ⟨g, 1, none⟩ (.int .i64 (nx M : Nat))) g b ⟨M.c, nx M⟩ :=
  ⟨h.gb, h.bg.set_ 1 _, h.bb.far _ _ (by have := h.gb; simp; omega), ⟨h.ok.n1, h.ok.n64, Nat.mod_lt _ (by have := h.ok.n1; show 0 < M.c.length; omega)⟩⟩
theorem stepM_free {M : Ms} (h : us M.c M.h = false) : stepM M = ⟨M.c, nx M⟩ := by
  unfold stepM clrC
  rw [if_neg (by rw [show (M.c.getD M.h Z0).u = us M.c M.h from rfl, h]; decide), set_self]
theorem stepM_used {M : Ms} (h : us M.c M.h = true) : stepM M = ⟨M.c.set M.h ⟨(M.c.getD M.h Z0).x, us M.c M.h, false⟩, nx M⟩ := by
  unfold stepM clrC
  rw [if_pos (by exact h), h]
set_option maxHeartbeats 1000000 in
theorem vic_any {w : World} {g b : Nat} {M : Ms} (h : Sp w g b M) : Calls Try.prog 19 #[.pointer (some ⟨g, 0, none⟩)] w fun e w' => e = .returned (.tuple #[.int .i64 (vicI M), .bool (vicB M)]) ∧ Sp w' g b (vicM M).1 ∧ Fp g b w w' := by
  have HC := Lib.hid (len_any h)
  by_cases h0 : allM M = []
  · rw [h0] at HC
    have hv := vicM_none h.ok h0
    have ei : vicI M = 0 := by unfold vicI; rw [hv]
    have eb : vicB M = false := by unfold vicB; rw [hv]; rfl
    rw [ei, eb, hv]
    have HS := Lib.hid h
    clear h h0 hv ei eb
    go_enter Try.func19, Try.ntmps19
    go_wp2_with fail
    go_step3
    go_wp2_with (go_at_call 11; with_reducible (refine HC.out.mono ?_); rintro e w1 ⟨rfl, hb⟩; have HF := Lib.hid (And.intro (HS.out.keep hb) (Fp.of (g := g) hb (Nat.le_of_lt HS.out.bb.lt))); clear hb)
    try rw [Exit.noGoto_ret]
    go_ret2
    exact ⟨rfl, HF.out⟩
  · obtain ⟨v, hv⟩ := vicM_some h.ok h0
    have ei : vicI M = v := by unfold vicI; rw [hv]
    have eb : vicB M = true := by unfold vicB; rw [hv]; rfl
    rw [ei, eb]
    have hl : (allM M).length ≠ 0 := fun e => h0 (List.eq_nil_of_length_eq_zero e)
    generalize (allM M).length = l at *
    have n0 : ((l : Int) == 0) = false := by simp; omega
    have hv2 : vicM M = ((vicM M).1, some v) := by rw [← hv]
    have hfu : vicF (2 * M.c.length) M = ((vicM M).1, some v) := hv2
    generalize (vicM M).1 = N at *
    have HS := Lib.hid h
    have HV := Lib.hid hfu
    clear h h0 hv ei eb hl hv2 hfu
    go_enter Try.func19, Try.ntmps19
    go_wp2_with fail
    go_step3
    go_wp2_with (go_at_call 11; with_reducible (refine HC.out.mono ?_); rintro e w1 ⟨rfl, hb⟩; have HF := Lib.hid (And.intro (HS.out.keep hb) (Fp.of (g := g) hb (Nat.le_of_lt HS.out.bb.lt))); clear hb)
    go_step3
    go_wp2_with fail
    go_loopg [4] (2 * M.c.length) (fun k _ wr => ∃ M' : Ms, Sp wr g b M' ∧ Fp g b w wr ∧ vicF k M' = (N, some v))
    case atStart => exact ⟨M, HF.out.1, HF.out.2, HV.out⟩
    case round =>
      clear HF HC HS HV
      obtain ⟨M', hS, hF, hk⟩ := hrel
      cases gk with
      | zero => simp [vicF] at hk
      | succ f =>
        unfold vicF at hk
        have HC := Lib.hid (step_any hS)
        have hS2 := hS.hand
        have hF2 := hF.trans (Fp.set wr 1 (.int .i64 (nx M' : Nat)) g (.inl rfl) hS.gb)
        have hkn := hS.ok.hn
        have h64 := hS.ok.n64
        have hok2 := stepM_ok hS.ok
        have hst2 := fun (e : us M'.c M'.h = true) => stepM_used e
        have hst1 := fun (e : us M'.c M'.h = false) => stepM_free e
        generalize wr.setCell ⟨g, 1, none⟩ (.int .i64 (nx M' : Nat)) = w2 at *
        generalize nx M' = nn at *
        have c0 := hS2.c0
        have e1 := hS2.e1 hkn
        have e2 := hS2.e2 hkn
        have f2 := hS2.bb.frozen (M'.h * 3 + 2)
        have s0 : (0 : Int) ≤ (M'.h : Nat) := by omega
        have s1 : (M'.h : Int) < (M'.c.length : Nat) := by omega
        have hst := cA_set2 M'.c M'.h hkn false
        simp only at c0 e1 e2
        cases hu : us M'.c M'.h with
        | false =>
          rw [hu] at e1
          rw [hu] at hk
          have hk2 : vicF f ⟨M'.c, nn⟩ = (N, some v) := by rw [← hst1 hu]; simpa using hk
          have HF := Lib.hid (show ∃ M'' : Ms, Sp w2 g b M'' ∧ Fp g b w w2 ∧ vicF f M'' = (N, some v) from ⟨_, hS2, hF2, hk2⟩)
          clear hk hk2 hS2 hF2 hS hF hst hst1 hst2 hok2 hu e2 hkn
          generalize M'.h = hh at *
          generalize M'.c.length = n at *
          go_wp2_with (go_at_call 31; with_reducible (refine HC.out.mono ?_); rintro e w3 ⟨rfl, rfl⟩)
          go_roundg f
          case measure => omega
          case rel => exact HF.out
        | true =>
          rw [hu] at e1
          cases ht : ts M'.c M'.h with
          | true =>
            rw [ht] at e2
            rw [hu, ht] at hk
            have hk2 : vicF f (stepM M') = (N, some v) := by simpa using hk
            rw [hst2 hu] at hk2 hok2
            have hS3 := hS2.set (M' := ⟨M'.c.set M'.h ⟨(M'.c.getD M'.h Z0).x, us M'.c M'.h, false⟩, nn⟩) (M'.h * 3 + 2) (.bool false) hst (by simp) rfl hok2
            have hF3 := hF2.trans (Fp.set w2 (M'.h * 3 + 2) (.bool false) b (.inr rfl) hS.gb)
            have HF := Lib.hid (show ∃ M'' : Ms, Sp (w2.setCell ⟨b, M'.h * 3 + 2, none⟩ (.bool false)) g b M'' ∧ Fp g b w (w2.setCell ⟨b, M'.h * 3 + 2, none⟩ (.bool false)) ∧ vicF f M'' = (N, some v) from ⟨_, hS3, hF3, hk2⟩)
            clear hk hk2 hS2 hF2 hS hF hst hst1 hst2 hok2 hu ht hkn hS3 hF3
            generalize M'.h = hh at *
            generalize M'.c.length = n at *
            go_wp2_with (go_at_call 31; with_reducible (refine HC.out.mono ?_); rintro e w3 ⟨rfl, rfl⟩)
            go_roundg f
            case measure => omega
            case rel => exact HF.out
          | false =>
            rw [ht] at e2
            rw [hu, ht] at hk
            simp only [Bool.not_false, Bool.and_self, if_true, Prod.mk.injEq, Option.some.injEq] at hk
            obtain ⟨hk1, hk2⟩ := hk
            have HF := Lib.hid (And.intro (show Sp w2 g b N by rw [← hk1]; exact hS2) (And.intro hF2 hk2))
            clear hk1 hk2 hS2 hF2 hS hF hst hst1 hst2 hok2 hu ht hkn
            generalize M'.h = hh at *
            generalize M'.c.length = n at *
            go_wp2_with (go_at_call 31; with_reducible (refine HC.out.mono ?_); rintro e w3 ⟨rfl, rfl⟩)
            try rw [Exit.noGoto_ret]
            go_ret2
            exact ⟨by rw [HF.out.2.2]; rfl, HF.out.1, HF.out.2.1⟩
end Go.Proofs.Ytpoienhmnaeaiaa
