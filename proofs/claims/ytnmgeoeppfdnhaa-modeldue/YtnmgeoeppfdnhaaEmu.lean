/- A model behind deeds (written by tools/gen_emu.py). -/
import Derived.Test.YtnmgeoeppfdnhaaEmt
namespace Go.Proofs.Ytnmgeoeppfdnhaa.D
open Go.RowKit
set_option linter.unusedVariables false
set_option linter.unusedSimpArgs false

theorem Sl_df {w : World} {A : Option Addr} {cap : Nat} {l : List Dd} (h : Sl df w A cap l) (j : Nat) (hj : j < l.length) : ∃ b off, A = some ⟨b, off, Option.none⟩ ∧ b < w.heap.size ∧ w.rangeAt b (off + j * 9) (df l[j]) := by
  obtain ⟨b, off, h1, h2, h3⟩ := h.at df_len j hj
  exact ⟨b, off, h1, h2, fun i u hi => h3 i u hi⟩
theorem infoD9 (D : Dd) : (Try.prog.info? 37).map (·.size) = some (df D).length := by rw [df_len]; kernel_rfl
theorem argd_low {w w' : World} {D : Dd} (h : ArgD w D) (hb : Below w.heap.size w w') : ArgD w' D := ⟨h.x.low hb, h.now⟩
theorem doL_room {l : List Ev} {r : Nat} (D : Dd) (h : l.length ≤ r) : (doL l (r : Nat) D).length ≤ r := by
  unfold doL
  split
  · unfold insV
    split
    · exact h
    · split
      · split
        · exact h
        · rw [List.length_append, List.length_singleton]; omega
      · split
        · rw [List.length_set]; exact h
        · exact h
  · split
    · exact h
    · split
      · unfold dropV; exact Nat.le_trans (List.length_filter_le _ _) h
      · unfold leftV; exact Nat.le_trans (List.length_filter_le _ _) h
/-- No entries: both models. -/
theorem bo_new {w : World} {h p : Nat} {room : Int} (v : Mh w h p room [] (fun _ => none)) : Bo w h p room (fun _ => none) [] none 0 := ⟨v, Sl.nil evL w, fun x hx => by cases hx⟩
set_option maxRecDepth 100000 in
set_option maxHeartbeats 4000000 in
theorem ran_any (A : Option Addr) (cap : Nat) (zs : List Dd) (w : World) (hS : Sl df w A cap zs) (hD : ∀ D ∈ zs, ArgD w D) :
    Calls Try.prog 16 #[.slice A zs.length cap] w fun e w' => ∃ h p m f, e = .returned (.pointer (some ⟨h, 0, none⟩)) ∧ Mh w' h p 5 m f ∧ m.length ≤ 5 ∧ Below w.heap.size w w' ∧ w.heap.size ≤ h ∧ w.heap.size ≤ p := by
  have HN := Lib.hid (new_any 5 (by omega) w)
  have HS := Lib.hid (And.intro hS hD)
  clear hS hD
  go_enter Try.func16, Try.ntmps16
  go_wp2_with (go_at_call 10; (with_reducible (refine (HN.out).mono ?_)); rintro e w1 ⟨h, p, rfl, v1, b1, hh, hp⟩; have HV1 := Lib.hid (And.intro v1 (And.intro b1 (And.intro hh hp))); clear v1 b1 hh hp)
  go_loopw [4, 5] (fun sv x wr => ∃ (j : Nat) (l : List Ev) (A' : Option Addr) (cap' : Nat) (f : Qu → Option Ev), j ≤ zs.length ∧ j ≤ 200 ∧ x = .int .i64 j ∧ sv = .slice A' l.length cap' ∧ Bo wr h p 5 f l A' cap' ∧ l.length ≤ 5 ∧ Ch (fun i => i = p) w wr) (fun _ x _ => zs.length - (intOf x).toNat)
  case atStart => exact ⟨0, [], none, 0, _, Nat.zero_le _, Nat.zero_le _, rfl, rfl, bo_new HV1.out.1, by simp, Ch.bel HV1.out.2.1⟩
  case round =>
    obtain ⟨j, l, A', cap', f, hj, hj2, rfl, rfl, hb, hl5, hc⟩ := hrel
    have HB := Lib.hid (And.intro hb (And.intro hl5 hc))
    clear hb hl5 hc
    by_cases hlt : j < zs.length
    · have d1 : decide ((j : Int) < (zs.length : Nat)) = true := by simp; omega
      have s0 : (0 : Int) ≤ (j : Nat) := by omega
      have s1 : (j : Int) < (zs.length : Nat) := by omega
      by_cases hlt2 : j < 200
      · have d2 : decide ((j : Int) < 200) = true := by simp; omega
        obtain ⟨b, off, hAz, hbl, hr⟩ := Sl_df HS.out.1 j hlt
        subst hAz
        have HBw := Lib.hid (HB.out.2.2.isBelow (n := w.heap.size) (fun i e => by have := HV1.out.2.2.2; omega) (Nat.le_refl _))
        have HR := Lib.hid (show wr.rangeAt b (off + j * 9) (df zs[j]) from fun i u hi => (HBw.out.cell (p := ⟨b, off + j * 9 + i, none⟩) hbl).trans (hr i u hi))
        have hA := HS.out.2 zs[j] (List.getElem_mem hlt)
        have HX := Lib.hid (arg_re (X := fun i => i = p) hA.x HBw.out (fun i e => by have := HV1.out.2.2.2; omega))
        clear hr hA hbl HBw
        generalize zs[j] = D at *
        have hd := do_any HB.out.1 (Nat.le_trans HB.out.2.1 (by omega)) D HX.out
        unfold DoR at hd
        have HD := Lib.hid hd
        have HRo := Lib.hid (doL_room (r := 5) D HB.out.2.1)
        clear hd
        change Hid ((doL l 5 D).length ≤ 5) at HRo
        generalize doL l 5 D = l2 at *
        go_wp2_with (first | (refine wpList_load_mid rfl 37 _ rfl b (off + j * 9) rfl _ _ HR.out Try.underlying37 rfl (infoD9 _) ?_) | (go_at_call 12; (with_reducible (refine (HD.out).mono ?_)); rintro e w2 ⟨f2, A2, c2, rfl, b2, k2⟩; have HB2 := Lib.hid (And.intro b2 k2); clear b2 k2))
        go_roundw
        case rel => exact ⟨j + 1, l2, A2, c2, f2, hlt, hlt2, by go_num, rfl, HB2.out.1, HRo.out, HB.out.2.2.trans HB2.out.2⟩
        case measure => simp [intOf]; omega
      · have hj200 : j = 200 := by omega
        subst hj200
        have d2 : decide (((200 : Nat) : Int) < 200) = false := by decide
        go_wp2_with fail
        go_ret
        exact ⟨h, p, _, _, rfl, HB.out.1.mh, by rw [pm_len]; exact HB.out.2.1, HB.out.2.2.isBelow (n := w.heap.size) (fun i e => by have := HV1.out.2.2.2; omega) (Nat.le_refl _), HV1.out.2.2⟩
    · have d1 : decide ((j : Int) < (zs.length : Nat)) = false := by simp; omega
      go_wp2_with fail
      go_ret
      exact ⟨h, p, _, _, rfl, HB.out.1.mh, by rw [pm_len]; exact HB.out.2.1, HB.out.2.2.isBelow (n := w.heap.size) (fun i e => by have := HV1.out.2.2.2; omega) (Nat.le_refl _), HV1.out.2.2⟩
end Go.Proofs.Ytnmgeoeppfdnhaa.D
