/- The contracts of the program's slots of entries: Put and Victim. -/
import Derived.Test.YtjjanogfcfapcaaVsd
namespace Go.Proofs.Ytjjanogfcfapcaa
open Go.RowKit
set_option linter.unusedVariables false

section
variable {α : Type} [Inhabited α]
theorem us_get {c : List (Ce α)} {j : Nat} (hj : j < c.length) : us c j = c[j].u := by unfold us; simp [hj]
theorem first_some {c : List (Ce α)} {j : Nat} (hj : j < c.length) (h0 : us c j = false) (h : ∀ i, i < j → us c i = true) : firstC c = some j := by
  unfold firstC
  rw [List.findIdx?_eq_some_iff_getElem]
  refine ⟨hj, by rw [← us_get hj, h0]; rfl, fun i hi => ?_⟩
  have := h i hi
  rw [us_get (by omega)] at this
  simp [this]
theorem first_none {c : List (Ce α)} (h : ∀ i, i < c.length → us c i = true) : firstC c = none := by
  unfold firstC
  rw [List.findIdx?_eq_none_iff]
  intro x hx
  obtain ⟨i, hi, rfl⟩ := List.getElem_of_mem hx
  have := h i hi
  rw [us_get hi] at this
  simp [this]
end

theorem first_of {α : Type} [Inhabited α] {c : List (Ce α)} {k : Nat} (h : firstC c = some k) : k < c.length ∧ us c k = false ∧ ∀ j, j < k → us c j = true := by
  unfold firstC at h
  rw [List.findIdx?_eq_some_iff_getElem] at h
  obtain ⟨hk, h1, h2⟩ := h
  refine ⟨hk, by rw [us_get hk]; simpa using h1, fun j hj => ?_⟩
  rw [us_get (by omega)]
  simpa using h2 j hj
set_option maxRecDepth 100000 in
set_option maxHeartbeats 2000000 in
theorem put_k (x : Ev) {k : Nat} {w : World} {g b : Nat} {M : Ms Ev} (h : Sp w g b M) (hf : firstC M.c = some k) :
    Calls Try.prog 54 #[.pointer (some ⟨g, 0, none⟩), evV x] w fun e w' => e = .returned (.tuple #[.int .i64 (k : Nat), .int .i64 0]) ∧ Sp w' g b ⟨M.c.set k ⟨x, true, false⟩, M.h⟩ ∧ Fp g b w w' := by
  rw [evV_eq]
  obtain ⟨hk, hk0, hk1⟩ := first_of hf
  have hb := (Below.refl w.heap.size w).alloc (Nat.le_refl _) (Obj.cells (evL x).toArray 39)
  have hx := Blk.new w 39 (evL x).toArray
  have h1 := h.keep hb
  have HC := Lib.hid (cap_any h1)
  have HB := Lib.hid (Fp.of (g := g) hb (Nat.le_of_lt h.bb.lt))
  have HS := Lib.hid h1
  have HX := Lib.hid hx
  have h64 := h.ok.n64
  have HK := Lib.hid (And.intro hk (And.intro hk0 hk1))
  clear h h1 hx hb hf
  generalize hn : M.c.length = n at *
  have HN := Lib.hid hn
  clear hn hk0 hk1
  go_enter Try.func54, Try.ntmps54
  go_upto_region 1 with (fail)
  unfold evL at HC HB HS HX
  generalize w.alloc (Obj.cells #[.string x.e.q.n, .int .u16 (x.e.q.k : Nat), .int .u16 (x.e.q.c : Nat), .slice x.A x.e.l.length x.cap, .int .i64 x.e.rc, .int .i64 x.e.rk, .int .u64 (x.e.ex : Nat)] 39) = w1 at *
  go_wp2_with (go_at_call 34; (with_reducible (refine HC.out.mono ?_)); rintro e w2 ⟨rfl, rfl⟩)
  go_loopw [6, 9] (fun _ x wr => ∃ j : Nat, j ≤ k ∧ x = .int .i64 j ∧ wr = w2) (fun _ x _ => k + 1 - (intOf x).toNat)
  case atStart => exact ⟨0, Nat.zero_le _, rfl, rfl⟩
  case round =>
    obtain ⟨j, hj, rfl, rfl⟩ := hrel
    have d1 : decide ((j : Int) < n) = true := by simp; omega
    have hjn : j < M.c.length := by rw [HN.out]; omega
    have c0 := HS.out.c0
    rw [HN.out] at c0
    have e1 := HS.out.e1 hjn
    have s0 : (0 : Int) ≤ (j : Nat) := by omega
    have s1 : (j : Int) < (n : Nat) := by omega
    by_cases hjk : j = k
    · subst hjk
      rw [HK.out.2.1] at e1
      have b0 := HX.out.cell 0
      have b1 := HX.out.cell 1
      have b2 := HX.out.cell 2
      have b3 := HX.out.cell 3
      have b4 := HX.out.cell 4
      have b5 := HX.out.cell 5
      have b6 := HX.out.cell 6
      simp only [List.getElem?_toArray, List.getElem?_cons_zero, List.getElem?_cons_succ] at b0 b1 b2 b3 b4 b5 b6
      have hb1 : wr.heap.size ≥ b := Nat.le_of_lt HS.out.bb.lt
      have HD := Lib.hid (HS.out.keep (Below.refl _ wr).drew)
      have HB2 := Lib.hid (HB.out.trans (Fp.of (Below.refl _ wr).drew hb1))
      clear hb1
      go_upto_region 5 with (fail)
      go_still_tail 8, (by kernel_rfl)
      change wpList _ _ _ _ _ wr.drew
      generalize wr.drew = w3 at *
      clear c0 e1 b0 b1 b2 b3 b4 b5 b6
      go_wp2_with (refine wpList_store_mid rfl 108 _ _ rfl b (j * 9) (cf ⟨x, true, false⟩).toArray rfl rfl (HD.out.th hjn 0 9 (by omega)) infoS (cf_one _) ?_)
      have hf := HD.out.part hjn ⟨x, true, false⟩ 0 (cf ⟨x, true, false⟩) (by rw [cf_len1]; omega) (cf_all _ _)
      have HF := Lib.hid (And.intro hf.1 (HB2.out.trans hf.2))
      clear hf
      go_ret2
      exact ⟨rfl, HF.out⟩
    · rw [HK.out.2.2 j (by omega)] at e1
      go_wp2_with fail
      go_roundw
      case rel => exact ⟨j + 1, by omega, by go_num, by trivial⟩
      case measure => simp [intOf]; omega

/-- The hand goes on. -/
theorem Sp.hand {w : World} {g b : Nat} {M : Ms Ev} (h : Sp w g b M) : Sp (w.setCell ⟨g, 1, none⟩ (.int .i64 (nx M : Nat))) g b ⟨M.c, nx M⟩ :=
  ⟨h.gb, h.bg.set_ 1 _, h.bb.far _ _ (by have := h.gb; simp; omega), ⟨h.ok.n1, h.ok.n64, Nat.mod_lt _ (by have := h.ok.n1; show 0 < M.c.length; omega)⟩⟩
theorem stepM_free {α : Type} [Inhabited α] {M : Ms α} (h : us M.c M.h = false) : stepM M = ⟨M.c, nx M⟩ := by
  unfold stepM clrC
  rw [if_neg (by rw [show (M.c.getD M.h Z0).u = us M.c M.h from rfl, h]; decide), set_self]
theorem stepM_used {α : Type} [Inhabited α] {M : Ms α} (h : us M.c M.h = true) : stepM M = ⟨M.c.set M.h ⟨(M.c.getD M.h Z0).x, us M.c M.h, false⟩, nx M⟩ := by
  unfold stepM clrC
  rw [if_pos (by exact h), h]
set_option maxHeartbeats 1000000 in
theorem vic_any {w : World} {g b : Nat} {M : Ms Ev} (h : Sp w g b M) : Calls Try.prog 53 #[.pointer (some ⟨g, 0, none⟩)] w fun e w' => e = .returned (.tuple #[.int .i64 (vicI M), .bool (vicB M)]) ∧ Sp w' g b (vicM M).1 ∧ Fp g b w w' := by
  have HC := Lib.hid (len_any h)
  by_cases h0 : allM M = []
  · rw [h0] at HC
    have hv := vicM_none h.ok h0
    have ei : vicI M = 0 := by unfold vicI; rw [hv]
    have eb : vicB M = false := by unfold vicB; rw [hv]; rfl
    rw [ei, eb, hv]
    have HS := Lib.hid h
    clear h h0 hv ei eb
    go_enter Try.func53, Try.ntmps53
    go_wp2_with fail
    go_step3
    go_wp2_with (go_at_call 61; with_reducible (refine HC.out.mono ?_); rintro e w1 ⟨rfl, hb⟩; have HF := Lib.hid (And.intro (HS.out.keep hb) (Fp.of (g := g) hb (Nat.le_of_lt HS.out.bb.lt))); clear hb)
    try rw [Exit.noGoto_ret]
    go_ret2
    exact ⟨rfl, HF.out⟩
  · obtain ⟨v, hv⟩ := vicM_some h.ok h0
    have ei : vicI M = v := by unfold vicI; rw [hv]
    have eb : vicB M = true := by unfold vicB; rw [hv]; rfl
    rw [ei, eb]
    have hl : (allM M).length ≠ 0 := fun e => h0 (List.eq_nil_of_length_eq_zero e)
    generalize (allM M).length = l at *
    have n0 : ((l : Int) == 0) = false := by simp; omega
    have hv2 : vicM M = ((vicM M).1, some v) := by rw [← hv]
    have hfu : vicF (2 * M.c.length) M = ((vicM M).1, some v) := hv2
    generalize (vicM M).1 = N at *
    have HS := Lib.hid h
    have HV := Lib.hid hfu
    clear h h0 hv ei eb hl hv2 hfu
    go_enter Try.func53, Try.ntmps53
    go_wp2_with fail
    go_step3
    go_wp2_with (go_at_call 61; with_reducible (refine HC.out.mono ?_); rintro e w1 ⟨rfl, hb⟩; have HF := Lib.hid (And.intro (HS.out.keep hb) (Fp.of (g := g) hb (Nat.le_of_lt HS.out.bb.lt))); clear hb)
    go_step3
    go_wp2_with fail
    go_loopg [4] (2 * M.c.length) (fun k _ wr => ∃ M' : Ms Ev, Sp wr g b M' ∧ Fp g b w wr ∧ vicF k M' = (N, some v))
    case atStart => exact ⟨M, HF.out.1, HF.out.2, HV.out⟩
    case round =>
      clear HF HC HS HV
      obtain ⟨M', hS, hF, hk⟩ := hrel
      cases gk with
      | zero => simp [vicF] at hk
      | succ f =>
        unfold vicF at hk
        have HC := Lib.hid (step_any hS)
        have hS2 := hS.hand
        have hF2 := hF.trans (Fp.set wr 1 (.int .i64 (nx M' : Nat)) g (.inl rfl) hS.gb)
        have hkn := hS.ok.hn
        have h64 := hS.ok.n64
        have hok2 := stepM_ok hS.ok
        have hst2 := fun (e : us M'.c M'.h = true) => stepM_used e
        have hst1 := fun (e : us M'.c M'.h = false) => stepM_free e
        generalize wr.setCell ⟨g, 1, none⟩ (.int .i64 (nx M' : Nat)) = w2 at *
        generalize nx M' = nn at *
        have c0 := hS2.c0
        have e1 := hS2.e1 hkn
        have e2 := hS2.e2 hkn
        have f2 := hS2.bb.frozen (M'.h * 9 + 8)
        have s0 : (0 : Int) ≤ (M'.h : Nat) := by omega
        have s1 : (M'.h : Int) < (M'.c.length : Nat) := by omega
        have hst := cf_tou (M'.c.getD M'.h Z0) false
        simp only at c0 e1 e2
        cases hu : us M'.c M'.h with
        | false =>
          rw [hu] at e1
          rw [hu] at hk
          have hk2 : vicF f ⟨M'.c, nn⟩ = (N, some v) := by rw [← hst1 hu]; simpa using hk
          have HF := Lib.hid (show ∃ M'' : Ms Ev, Sp w2 g b M'' ∧ Fp g b w w2 ∧ vicF f M'' = (N, some v) from ⟨_, hS2, hF2, hk2⟩)
          clear hk hk2 hS2 hF2 hS hF hst hst1 hst2 hok2 hu e2 hkn
          generalize M'.h = hh at *
          generalize M'.c.length = n at *
          go_wp2_with (go_at_call 62; with_reducible (refine HC.out.mono ?_); rintro e w3 ⟨rfl, rfl⟩)
          go_roundg f
          case measure => omega
          case rel => exact HF.out
        | true =>
          rw [hu] at e1
          cases ht : ts M'.c M'.h with
          | true =>
            rw [ht] at e2
            rw [hu, ht] at hk
            have hk2 : vicF f (stepM M') = (N, some v) := by simpa using hk
            rw [hst2 hu] at hk2 hok2
            obtain ⟨hS3, hF3⟩ := hS2.one hkn ⟨(M'.c.getD M'.h Z0).x, us M'.c M'.h, false⟩ 8 (.bool false) (by omega) hst
            replace hF3 := hF2.trans hF3
            have HF := Lib.hid (show ∃ M'' : Ms Ev, Sp (w2.setCell ⟨b, M'.h * 9 + 8, none⟩ (.bool false)) g b M'' ∧ Fp g b w (w2.setCell ⟨b, M'.h * 9 + 8, none⟩ (.bool false)) ∧ vicF f M'' = (N, some v) from ⟨_, hS3, hF3, hk2⟩)
            clear hk hk2 hS2 hF2 hS hF hst hst1 hst2 hok2 hu ht hkn hS3 hF3
            generalize M'.h = hh at *
            generalize M'.c.length = n at *
            go_wp2_with (go_at_call 62; with_reducible (refine HC.out.mono ?_); rintro e w3 ⟨rfl, rfl⟩)
            go_roundg f
            case measure => omega
            case rel => exact HF.out
          | false =>
            rw [ht] at e2
            rw [hu, ht] at hk
            simp only [Bool.not_false, Bool.and_self, if_true, Prod.mk.injEq, Option.some.injEq] at hk
            obtain ⟨hk1, hk2⟩ := hk
            have HF := Lib.hid (And.intro (show Sp w2 g b N by rw [← hk1]; exact hS2) (And.intro hF2 hk2))
            clear hk1 hk2 hS2 hF2 hS hF hst hst1 hst2 hok2 hu ht hkn
            generalize M'.h = hh at *
            generalize M'.c.length = n at *
            go_wp2_with (go_at_call 62; with_reducible (refine HC.out.mono ?_); rintro e w3 ⟨rfl, rfl⟩)
            try rw [Exit.noGoto_ret]
            go_ret2
            exact ⟨by rw [HF.out.2.2]; rfl, HF.out.1, HF.out.2.1⟩
end Go.Proofs.Ytjjanogfcfapcaa
