/- The law SlotsNobody: its walk. -/
import Derived.Test.YtpoienhmnaeaiaaSom
namespace Go.Proofs.Ytpoienhmnaeaiaa
open Go.RowKit
set_option linter.unusedVariables false

set_option maxRecDepth 100000 in
set_option maxHeartbeats 2000000 in
theorem nobody_walk (i : Int) (x : ByteArray) (wf : (Lit.int .i64 i).wf = true) (hx : x.size ≤ 140737488355328) (w : World) : Calls Try.prog 7 #[.int .i64 i, .string x] w fun e w' => e = .returned (.bool true) ∧ Below w.heap.size w w' := by
  clear wf hx
  have hz : hasM (newM 3) i = false := by
    cases h : hasM (newM 3) i with
    | false => rfl
    | true =>
      obtain ⟨k, rfl, hk, hu⟩ := has_of h
      simp only [newM, List.length_replicate] at hk
      have h3 : k = 0 ∨ k = 1 ∨ k = 2 := by omega
      have : us (newM 3).c k = false := by rcases h3 with rfl | rfl | rfl <;> rfl
      rw [this] at hu
      cases hu
  have hg : getM (newM 3) i = (⟨#[]⟩, false) := by unfold getM; rw [hz]; rfl
  have ht : touM (newM 3) i = newM 3 := by unfold touM; rw [hz]; rfl
  have hf : freM (newM 3) i = newM 3 := by unfold freM; rw [hz]; rfl
  have hv1 : vicI (newM 3) = 0 := rfl
  have hv2 : vicB (newM 3) = false := rfl
  have hv3 : (vicM (newM 3)).1 = newM 3 := rfl
  have HP := Lib.hid (And.intro hz (And.intro hg (And.intro ht (And.intro hf (And.intro hv1 (And.intro hv2 hv3))))))
  clear hz hg ht hf hv1 hv2 hv3
  have HC0 := Lib.hid (shown_any w)
  have HN1 := Lib.hid (fun W => put_nil x W)
  have HN2 := Lib.hid (fun W => get_nil i W)
  have HN3 := Lib.hid (fun W => vic_nil W)
  have HN4 := Lib.hid (fun W => touch_nil i W)
  have HN5 := Lib.hid (fun W => set_nil i x W)
  have HN6 := Lib.hid (fun W => free_nil i W)
  have HN7 := Lib.hid (fun W => all_nil W)
  have HN8 := Lib.hid (fun W => cap_nil W)
  go_enter Try.func7, Try.ntmps7
  go_wp2_with (first
    | (go_at_call 23; with_reducible (refine HC8.out.mono ?_); rintro e w8 ⟨rfl, hs8, hf8⟩; have HB8 := Lib.hid (HB7.out.trans (hf8.below.mono HQ.out)); clear hs8 hf8)
    | (go_at_call 20; with_reducible (refine HC7.out.mono ?_); rintro e w7 ⟨rfl, hs7, hf7⟩; rw [HP.out.2.2.1] at hs7; have HC8 := Lib.hid (free_any i hs7); rw [HP.out.1, HP.out.2.2.2.1] at HC8; have HB7 := Lib.hid (HB6.out.trans (hf7.below.mono HQ.out)); clear hs7 hf7)
    | (go_at_call 19; with_reducible (refine HC6.out.mono ?_); rintro e w6 ⟨rfl, hs6, hf6⟩; have HC7 := Lib.hid (touch_any i hs6); rw [HP.out.1] at HC7; have HB6 := Lib.hid (HB5.out.trans (hf6.below.mono HQ.out)); clear hs6 hf6)
    | (go_at_call 22; with_reducible (refine HC5.out.mono ?_); rintro e w5 ⟨rfl, hb5⟩; have HC6 := Lib.hid (vic_any (HS4.out.keep hb5)); rw [HP.out.2.2.2.2.1, HP.out.2.2.2.2.2.1, HP.out.2.2.2.2.2.2] at HC6; have HB5 := Lib.hid (HB4.out.trans (hb5.mono HB4.out.size)); clear hb5)
    | (go_at_call 10; with_reducible (refine HC4.out.mono ?_); rintro e w4 ⟨rfl, hs4, hb4, _⟩; have HS4 := Lib.hid hs4; have HC5 := Lib.hid (get_any i hs4); rw [HP.out.2.1] at HC5; have HB4 := Lib.hid (HB3.out.trans (hb4.mono HB3.out.size)); have HQ := Lib.hid HB3.out.size; clear hs4 hb4)
    | (go_at_call 19; with_reducible (refine (HN3.out _).mono ?_); rintro e w3 ⟨rfl, rfl⟩)
    | (go_at_call 22; with_reducible (refine (HN2.out _).mono ?_); rintro e w3 ⟨rfl, hb3⟩; have HB3 := Lib.hid (HB0.out.trans (hb3.mono HB0.out.size)); have HC4 := Lib.hid (new_z 3 3 rfl (by omega) (by omega) w3); clear hb3)
    | (go_at_call 21; with_reducible (refine (HN1.out _).mono ?_); rintro e w2 ⟨rfl, rfl⟩)
    | (go_at_call 20; with_reducible (refine (HN4.out _).mono ?_); rintro e w2 ⟨rfl, rfl⟩)
    | (go_at_call 24; with_reducible (refine (HN5.out _).mono ?_); rintro e w2 ⟨rfl, rfl⟩)
    | (go_at_call 23; with_reducible (refine (HN6.out _).mono ?_); rintro e w2 ⟨rfl, rfl⟩)
    | (go_at_call 15; with_reducible (refine (HN7.out _).mono ?_); rintro e w2 ⟨rfl, rfl⟩)
    | (go_at_call 17; with_reducible (refine (HN8.out _).mono ?_); rintro e w2 ⟨rfl, rfl⟩)
    | (go_at_call 9; with_reducible (refine HC0.out.mono ?_); rintro e w0 ⟨rfl, hb0⟩; have HB0 := Lib.hid hb0; clear hb0))
  go_ret
  exact ⟨rfl, HB8.out⟩
end Go.Proofs.Ytpoienhmnaeaiaa
