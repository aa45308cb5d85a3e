/- The walk of derricklaw02.NameUnder: it returns true, whatever the arguments. -/
import Derived.Test.YtceafomifpkiaaaDoorNmo
namespace Go.Proofs.YtceafomifpkiaaaDoor
open Go.RowKit
set_option linter.unusedVariables false

theorem under_trans {a b c : ByteArray} (h1 : underB a b = true) (h2 : underB b c = true) : underB a c = true := by
  rw [under_iff] at *
  exact ⟨h1.1, h2.2.1, h2.2.2.trans h1.2.2⟩
theorem under_anti {a b : ByteArray} (h1 : underB a b = true) (h2 : underB b a = true) : (a.toList == b.toList) = true := by
  rw [under_iff] at *
  have : labs a = labs b := by
    obtain ⟨t, ht⟩ := h1.2.2
    obtain ⟨u, hu⟩ := h2.2.2
    have hl := congrArg List.length ht
    have hl2 := congrArg List.length hu
    simp at hl hl2
    have : t = [] := List.eq_nil_of_length_eq_zero (by omega)
    subst this
    simpa using ht.symm
  rw [ByteArray.toList_eq, ByteArray.toList_eq, (may_name h1.1).eq, (may_name h2.1).eq, this]
  simp
theorem under_depth {a b : ByteArray} (h : underB a b = true) : depthB b ≤ depthB a := by
  rw [under_iff] at h
  rw [depth_name h.1, depth_name h.2.1]
  have := h.2.2.length_le
  omega

set_option maxRecDepth 100000 in
set_option maxHeartbeats 2000000 in
theorem under_walk (a b c : ByteArray) (ha : a.size ≤ 140737488355328) (hb : b.size ≤ 140737488355328) (hc : c.size ≤ 140737488355328) (w : World) (ht : Tab w) :
    Calls Tryd.prog 8 #[.string a, .string b, .string c] w fun e w' => e = .returned (.bool true) ∧ Below w.heap.size w w' := by
  by_cases hbig : 1000 < a.size
  · go_enter Tryd.func8, Tryd.ntmps8
    go_wp2_with fail
    refine (shown_any _ ht).mono ?_; rintro e w1 ⟨rfl, hb1⟩
    go_wp2_with fail
    go_ret
    exact ⟨rfl, hb1⟩
  by_cases hbig2 : 1000 < b.size
  · go_enter Tryd.func8, Tryd.ntmps8
    go_wp2_with fail
    refine (shown_any _ ht).mono ?_; rintro e w1 ⟨rfl, hb1⟩
    go_wp2_with fail
    go_ret
    exact ⟨rfl, hb1⟩
  by_cases hbig3 : 1000 < c.size
  · go_enter Tryd.func8, Tryd.ntmps8
    go_wp2_with fail
    refine (shown_any _ ht).mono ?_; rintro e w1 ⟨rfl, hb1⟩
    go_wp2_with fail
    go_ret
    exact ⟨rfl, hb1⟩
  have g1 := under_trans (a := a) (b := b) (c := c)
  have g2 := under_anti (a := a) (b := b)
  have g3 := under_depth (a := a) (b := b)
  have g4 : underB a b = true → mayB a = true ∧ mayB b = true := fun h => by rw [under_iff] at h; exact ⟨h.1, h.2.1⟩
  have G1 := Lib.hid g1
  have G2 := Lib.hid g2
  have G3 := Lib.hid g3
  have G4 := Lib.hid g4
  clear g1 g2 g3 g4
  go_enter Tryd.func8, Tryd.ntmps8
  go_wp2_with fail
  refine (shown_any _ ht).mono ?_; rintro e w1 ⟨rfl, hb1⟩
  go_wp2_with fail
  refine (under_any a b ha hb _).mono ?_; rintro e w2 ⟨rfl, hb2⟩
  go_wp2_with fail
  refine (under_any b c hb hc _).mono ?_; rintro e w3 ⟨rfl, hb3⟩
  have hB : Below w.heap.size w w3 := bthen (bthen hb1 hb2) hb3
  clear hb1 hb2 hb3 hbig hbig2 hbig3 ht
  cases hx : underB a b with
  | false =>
    clear hx
    go_wp2_with fail
    go_ret
    exact ⟨rfl, hB⟩
  | true =>
    obtain ⟨m1, m2⟩ := G4.out hx
    have d := G3.out hx
    have M1 := Lib.hid m1
    have M2 := Lib.hid m2
    have D := Lib.hid d
    clear m1 m2 d
    have X := Lib.hid hx
    clear hx
    cases hy : underB b c with
    | false =>
      clear hy
      have hB' := hB
      go_wp2_with fail
      refine (under_any b a hb ha _).mono ?_; rintro e w5 ⟨rfl, hb5'⟩
      have hB2 := bthen hB' hb5'
      cases hz : underB b a with
      | false =>
        clear hz
        go_wp2_with fail
        refine (may_any a ha _).mono ?_; rintro e w5 ⟨rfl, hb5⟩
        rw [M1.out]
        go_wp2_with fail
        refine (may_any b hb _).mono ?_; rintro e w6 ⟨rfl, hb6⟩
        rw [M2.out]
        go_wp2_with fail
        refine (depth_any a ha _).mono ?_; rintro e w7 ⟨rfl, hb7⟩
        go_wp2_with fail
        refine (depth_any b hb _).mono ?_; rintro e w8 ⟨rfl, hb8⟩
        have D' : decide (depthB b ≤ depthB a) = true := by simpa using D.out
        go_wp2_with fail
        go_ret
        exact ⟨rfl, bthen (bthen (bthen (bthen hB2 hb5) hb6) hb7) hb8⟩
      | true =>
        have hq := G2.out X.out hz
        clear hz
        go_wp2_with fail
        refine (may_any a ha _).mono ?_; rintro e w5 ⟨rfl, hb5⟩
        rw [M1.out]
        go_wp2_with fail
        refine (may_any b hb _).mono ?_; rintro e w6 ⟨rfl, hb6⟩
        rw [M2.out]
        go_wp2_with fail
        refine (depth_any a ha _).mono ?_; rintro e w7 ⟨rfl, hb7⟩
        go_wp2_with fail
        refine (depth_any b hb _).mono ?_; rintro e w8 ⟨rfl, hb8⟩
        have D' : decide (depthB b ≤ depthB a) = true := by simpa using D.out
        go_wp2_with fail
        go_ret
        exact ⟨rfl, bthen (bthen (bthen (bthen hB2 hb5) hb6) hb7) hb8⟩
    | true =>
      have hac := G1.out X.out hy
      have AC := Lib.hid hac
      clear hac hy
      go_wp2_with fail
      refine (under_any a c ha hc _).mono ?_; rintro e w4 ⟨rfl, hb4⟩
      rw [AC.out]
      have hB' := bthen hB hb4
      go_wp2_with fail
      refine (under_any b a hb ha _).mono ?_; rintro e w5 ⟨rfl, hb5'⟩
      have hB2 := bthen hB' hb5'
      cases hz : underB b a with
      | false =>
        clear hz
        go_wp2_with fail
        refine (may_any a ha _).mono ?_; rintro e w5 ⟨rfl, hb5⟩
        rw [M1.out]
        go_wp2_with fail
        refine (may_any b hb _).mono ?_; rintro e w6 ⟨rfl, hb6⟩
        rw [M2.out]
        go_wp2_with fail
        refine (depth_any a ha _).mono ?_; rintro e w7 ⟨rfl, hb7⟩
        go_wp2_with fail
        refine (depth_any b hb _).mono ?_; rintro e w8 ⟨rfl, hb8⟩
        have D' : decide (depthB b ≤ depthB a) = true := by simpa using D.out
        go_wp2_with fail
        go_ret
        exact ⟨rfl, bthen (bthen (bthen (bthen hB2 hb5) hb6) hb7) hb8⟩
      | true =>
        have hq := G2.out X.out hz
        clear hz
        go_wp2_with fail
        refine (may_any a ha _).mono ?_; rintro e w5 ⟨rfl, hb5⟩
        rw [M1.out]
        go_wp2_with fail
        refine (may_any b hb _).mono ?_; rintro e w6 ⟨rfl, hb6⟩
        rw [M2.out]
        go_wp2_with fail
        refine (depth_any a ha _).mono ?_; rintro e w7 ⟨rfl, hb7⟩
        go_wp2_with fail
        refine (depth_any b hb _).mono ?_; rintro e w8 ⟨rfl, hb8⟩
        have D' : decide (depthB b ≤ depthB a) = true := by simpa using D.out
        go_wp2_with fail
        go_ret
        exact ⟨rfl, bthen (bthen (bthen (bthen hB2 hb5) hb6) hb7) hb8⟩
end Go.Proofs.YtceafomifpkiaaaDoor
