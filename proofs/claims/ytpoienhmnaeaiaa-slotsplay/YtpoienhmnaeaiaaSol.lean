/- The contracts of derricklaw10.shown and do (written by tools/gen_sol.py). -/
import Derived.Test.YtpoienhmnaeaiaaSok
namespace Go.Proofs.Ytpoienhmnaeaiaa
open Go.RowKit
set_option linter.unusedVariables false

theorem new_z (z : Int) (n : Nat) (hz : z = n) (h1 : 1 ≤ n) (h2 : n ≤ 64) (w : World) : Calls Try.prog 10 #[.int .i64 z] w fun e w' => e = .returned (.pointer (some ⟨w.heap.size + 1, 0, none⟩)) ∧ Sp w' (w.heap.size + 1) w.heap.size (newM n) ∧ Below w.heap.size w w' ∧ w'.heap.size = w.heap.size + 2 := by
  subst hz
  exact new_any n h1 h2 w
theorem rnew_z (z : Int) (n : Nat) (hz : z = n) (h1 : 1 ≤ n) (h2 : n ≤ 64) (w : World) : Calls Try.prog 12 #[.int .i64 z] w fun e w' => ∃ d, e = .returned (dV d (newM n)) ∧ Dw w.heap.size w' d (newM n).c ∧ Below w.heap.size w w' := by
  subst hz
  exact rnew_any n h1 h2 w
set_option maxRecDepth 100000 in
set_option maxHeartbeats 1000000 in
theorem shown_any (w : World) : Calls Try.prog 9 #[] w fun e w' => e = .returned (.bool true) ∧ Below w.heap.size w w' := by
  have hp1 : putM (newM 2) ⟨#[97]⟩ = (⟨[⟨⟨#[97]⟩, true, false⟩, Z0], 0⟩, (0 : Int), (0 : Int)) := rfl
  have hp2 : putM ⟨[⟨⟨#[97]⟩, true, false⟩, Z0], 0⟩ ⟨#[98]⟩ = (⟨[⟨⟨#[97]⟩, true, false⟩, ⟨⟨#[98]⟩, true, false⟩], 0⟩, (1 : Int), (0 : Int)) := rfl
  have ht1 : hasM ⟨[⟨⟨#[97]⟩, true, false⟩, ⟨⟨#[98]⟩, true, false⟩], 0⟩ 0 = true := rfl
  have ht2 : touM ⟨[⟨⟨#[97]⟩, true, false⟩, ⟨⟨#[98]⟩, true, false⟩], 0⟩ 0 = ⟨[⟨⟨#[97]⟩, true, true⟩, ⟨⟨#[98]⟩, true, false⟩], 0⟩ := rfl
  have hv1 : vicI ⟨[⟨⟨#[97]⟩, true, true⟩, ⟨⟨#[98]⟩, true, false⟩], 0⟩ = 1 := rfl
  have hv2 : vicB ⟨[⟨⟨#[97]⟩, true, true⟩, ⟨⟨#[98]⟩, true, false⟩], 0⟩ = true := rfl
  have hv3 : (vicM ⟨[⟨⟨#[97]⟩, true, true⟩, ⟨⟨#[98]⟩, true, false⟩], 0⟩).1 = ⟨[⟨⟨#[97]⟩, true, false⟩, ⟨⟨#[98]⟩, true, false⟩], 0⟩ := rfl
  have hl1 : (allM ⟨[⟨⟨#[97]⟩, true, false⟩, ⟨⟨#[98]⟩, true, false⟩], 0⟩).length = 2 := rfl
  have hl2 : (⟨[⟨⟨#[97]⟩, true, false⟩, ⟨⟨#[98]⟩, true, false⟩], 0⟩ : Ms).c.length = 2 := rfl
  have HC1 := Lib.hid (new_z 2 2 rfl (by omega) (by omega) w)
  have HP := Lib.hid (And.intro hp1 (And.intro hp2 (And.intro ht1 (And.intro ht2 (And.intro hv1 (And.intro hv2 (And.intro hv3 (And.intro hl1 hl2))))))))
  clear hp1 hp2 ht1 ht2 hv1 hv2 hv3 hl1 hl2
  go_enter Try.func9, Try.ntmps9
  go_wp2_with (first
    | (go_at_call 17; with_reducible (refine HC7.out.mono ?_); rintro e w7 ⟨rfl, rfl⟩)
    | (go_at_call 11; with_reducible (refine HC6.out.mono ?_); rintro e w6 ⟨rfl, hb6⟩; have HC7 := Lib.hid (cap_any (HS5.out.keep hb6)); rw [HP.out.2.2.2.2.2.2.2.2] at HC7; have HB6 := Lib.hid (HB5.out.trans (hb6.mono HB5.out.size)); clear hb6)
    | (go_at_call 19; with_reducible (refine HC5.out.mono ?_); rintro e w5 ⟨rfl, hs5, hf5⟩; have HS5 := Lib.hid hs5; have HC6 := Lib.hid (len_any hs5); rw [HP.out.2.2.2.2.2.2.2.1] at HC6; have HB5 := Lib.hid (HB4.out.trans hf5.below); clear hs5 hf5)
    | (go_at_call 20; with_reducible (refine HC4.out.mono ?_); rintro e w4 ⟨rfl, hs4, hf4⟩; have HC5 := Lib.hid (vic_any hs4); rw [HP.out.2.2.2.2.1, HP.out.2.2.2.2.2.1, HP.out.2.2.2.2.2.2.1] at HC5; have HB4 := Lib.hid (HB3.out.trans hf4.below); clear hs4 hf4)
    | (go_at_call 21; with_reducible (refine HC3.out.mono ?_); rintro e w3 ⟨rfl, hs3, hf3⟩; have HC4 := Lib.hid (touch_any 0 hs3); rw [HP.out.2.2.1, HP.out.2.2.2.1] at HC4; have HB3 := Lib.hid (HB2.out.trans hf3.below); clear hs3 hf3)
    | (go_at_call 21; with_reducible (refine HC2.out.mono ?_); rintro e w2 ⟨rfl, hs2, hf2⟩; have HC3 := Lib.hid (put_any ⟨#[98]⟩ hs2); rw [HP.out.2.1] at HC3; have HB2 := Lib.hid (HB1.out.trans hf2.below); clear hs2 hf2)
    | (go_at_call 10; with_reducible (refine HC1.out.mono ?_); rintro e w1 ⟨rfl, hs1, hb1, _⟩; have HC2 := Lib.hid (put_any ⟨#[97]⟩ hs1); rw [HP.out.1] at HC2; have HB1 := Lib.hid hb1; clear hs1 hb1))
  go_ret
  exact ⟨rfl, HB6.out⟩
end Go.Proofs.Ytpoienhmnaeaiaa
