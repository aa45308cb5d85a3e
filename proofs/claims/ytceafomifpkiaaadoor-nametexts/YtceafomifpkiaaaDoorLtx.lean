/- The walk of derricklaw02.NameTexts: it returns true, whatever the arguments. -/
import Derived.Test.YtceafomifpkiaaaDoorRtk
namespace Go.Proofs.YtceafomifpkiaaaDoor
open Go.RowKit
set_option linter.unusedVariables false

set_option maxRecDepth 100000 in
set_option maxHeartbeats 4000000 in
theorem texts_walk (n s : ByteArray) (hn : n.size ≤ 140737488355328) (hs : s.size ≤ 140737488355328) (w : World) (hg : Glob w) :
    Calls Tryd.prog 4 #[.string n, .string s] w fun e w' => e = .returned (.bool true) ∧ Below w.heap.size w w' := by
  go_enter Tryd.func4, Tryd.ntmps4
  go_wp2_with fail
  refine (shown_any _ hg.tab).mono ?_; rintro e w1 ⟨rfl, hB1⟩
  by_cases c1 : 1000 < n.size
  · go_wp2_with fail
    go_ret
    exact ⟨rfl, hB1⟩
  by_cases c2 : 1000 < s.size
  · go_wp2_with fail
    go_ret
    exact ⟨rfl, hB1⟩
  have ht1 := take_any s (by omega) w1 (hg.below hB1)
  have ht2 := ref_take s (by omega)
  obtain ⟨N, hN⟩ : ∃ N, (takeR s.data.toList).1 = N := ⟨_, rfl⟩
  obtain ⟨E, hE⟩ : ∃ E, (takeR s.data.toList).2 = E := ⟨_, rfl⟩
  rw [hN, hE] at ht1 ht2
  clear hN hE
  go_wp2_with fail
  refine ht1.mono ?_; rintro e w2 ⟨rfl, hb2⟩
  have hB2 := bthen hB1 hb2
  clear ht1 hB1 hb2
  go_wp2_with fail
  refine (ht2 _).mono ?_; rintro e w3 ⟨rfl, hb3⟩
  have hB3 := bthen hB2 hb3
  clear ht2 hB2 hb3
  have ht3 := text_any n hn w3 (hg.below hB3).tab
  have ht4 := ref_text n (by omega)
  generalize textB n = T at *
  go_wp2_with fail
  refine ht3.mono ?_; rintro e w4 ⟨rfl, hb4⟩
  have hB4 := bthen hB3 hb4
  clear ht3 hB3 hb4
  go_wp2_with fail
  refine (ht4 _).mono ?_; rintro e w5 ⟨rfl, hb5⟩
  have hB5 := bthen hB4 hb5
  clear ht4 hB4 hb5
  go_wp2_with fail
  go_ret
  exact ⟨by simp, hB5⟩
end Go.Proofs.YtceafomifpkiaaaDoor
