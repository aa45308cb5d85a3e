/- The contract of the document's answer for record data: derrickref04.Take. -/
import Derived.Test.YtnakljbginbenaaGreatDoorRfd
import Derived.Test.YtnakljbginbenaaGreatDoorRfe
import Derived.Test.YtnakljbginbenaaGreatDoorRff
namespace Go.Proofs.YtnakljbginbenaaGreatDoor
open Go.RowKit
set_option linter.unusedVariables false

set_option maxHeartbeats 1000000 in
theorem reftake_any (s : ByteArray) (p m : Int) (k : Nat) (hk : k < 65536) (hs : s.size ≤ 1500) (w : World) :
    Calls Tryz.prog 100 #[.string s, .int .i64 p, .int .i64 m, .int .u16 (k : Nat)] w fun e w' => e = .returned (.tuple #[.string (tdS s p m k), .int .i64 (tdE s p m k)]) ∧ Below w.heap.size w w' := by
  by_cases hok : Oc.okS s p m
  · obtain ⟨P, rfl⟩ : ∃ P : Nat, p = P := ⟨p.toNat, by have := hok.1; omega⟩
    obtain ⟨M, rfl⟩ : ∃ M : Nat, m = M := ⟨m.toNat, by have := hok.2.1; omega⟩
    have hpm : P + M ≤ s.size := by have := hok.2.2; omega
    by_cases hN : k = 2 ∨ k = 5 ∨ k = 12
    · exact reftake_N s P M k hN hs hpm w
    · by_cases h15 : k = 15
      · subst h15; exact reftake_M s P M hs hpm w
      · by_cases h6 : k = 6
        · subst h6; exact reftake_S s P M hs hpm w
        · exact reftake_O s P M k hN h15 h6 hk hs hpm w
  · have e1 : Oc.se s p m = 2 := by unfold Oc.se; rw [if_neg hok]
    have HR := Lib.hid (td_none (s := s) (p := p) (m := m) (k := k) (by unfold tdO; rw [if_neg (by rw [Oc.okB_no hok]; decide)]))
    have HE := Lib.hid e1
    clear e1 hok
    go_enter Tryz.func100, Tryz.ntmps100
    go_wp2_with fail
    refine (Oc.rsome_any s p m _ (by omega)).mono ?_
    rintro e w1 ⟨rfl, hb1⟩
    rw [HE.out]
    generalize Oc.sx s p m = Sx
    generalize Oc.so s p m = So
    go_wp2_with fail
    go_ret2
    exact ⟨by rw [HR.out.1, HR.out.2]; rfl, hb1⟩
end Go.Proofs.YtnakljbginbenaaGreatDoor
