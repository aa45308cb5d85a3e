/- The contracts of the document's answer for record data (derrickref04): names. -/
import Derived.Test.YtnakljbginbenaaGreatDoorRfa
import Derived.Test.YtnakljbginbenaaGreatDoorWru
import Derived.Test.YtnakljbginbenaaGreatDoorOck
namespace Go.Proofs.YtnakljbginbenaaGreatDoor
open Go.RowKit
set_option linter.unusedVariables false

theorem nm1_tk (s : ByteArray) (p : Nat) : (nm1 s p = none ∧ tkS s p = ⟨#[]⟩ ∧ tkX s p = 0 ∧ tkE s p = 2) ∨ ∃ r, nm1 s p = some r ∧ tkS s p = ⟨r.1.toArray⟩ ∧ tkX s p = r.2 ∧ tkE s p = 0 := by
  have hN : tkN s p = (tkB s p p).filter fun r => decide (r.1.length ≤ 255) := by unfold tkN; rw [if_pos (by omega)]; rfl
  unfold nm1 tkE tkS tkX
  rw [hN]
  cases (tkB s p p).filter fun r => decide (r.1.length ≤ 255) with
  | none => exact .inl ⟨rfl, rfl, rfl, rfl⟩
  | some r => exact .inr ⟨_, rfl, rfl, rfl, rfl⟩
/-- A name that ends ahead of a place. -/
def ns1 (s : ByteArray) (p e : Nat) : Option (List UInt8 × Nat) := (nm1 s p).bind fun r => if r.2 ≤ e then some r else none
/-- Two names that end ahead of a place. -/
def ns2 (s : ByteArray) (p e : Nat) : Option (List UInt8 × Nat) := (ns1 s p e).bind fun r => (ns1 s r.2 e).map fun q => (r.1 ++ q.1, q.2)
def nsS (o : Option (List UInt8 × Nat)) : ByteArray := match o with | some r => ⟨r.1.toArray⟩ | none => ⟨#[]⟩
def nsX (o : Option (List UInt8 × Nat)) : Nat := match o with | some r => r.2 | none => 0
theorem ba_nil_append (X : ByteArray) : (⟨#[]⟩ : ByteArray) ++ X = X := by apply ba_ext; simp
theorem ba_mk_append (a b : List UInt8) : (⟨a.toArray⟩ : ByteArray) ++ ⟨b.toArray⟩ = ⟨(a ++ b).toArray⟩ := by apply ba_ext; simp

set_option maxRecDepth 100000 in
set_option maxHeartbeats 1000000 in
theorem rnames1_any (s : ByteArray) (p e : Nat) (hs : s.size ≤ 1500) (hp : p ≤ 1502) (he : e ≤ 1500) (w : World) :
    Calls Tryz.prog 123 #[.string s, .int .i64 (p : Nat), .int .i64 (e : Nat), .int .i64 1] w fun en w' => en = .returned (.tuple #[.string (nsS (ns1 s p e)), .int .i64 (nsX (ns1 s p e) : Nat)]) ∧ Below w.heap.size w w' := by
  go_enter Tryz.func123, Tryz.ntmps123
  go_wp2_with fail
  refine wp_loop_rounds 2 ?_
  rw [rounds_succ]
  go_wp2_with fail
  refine (rtake_nat s p hs (by unfold maxLen; omega) _).mono ?_
  rintro en w1 ⟨rfl, hb1⟩
  rcases nm1_tk s p with ⟨h0, h1, h2, h3⟩ | ⟨r, h0, h1, h2, h3⟩
  · have HR := Lib.hid (show ns1 s p e = none by unfold ns1; rw [h0]; rfl)
    rw [h1, h2, h3]
    clear h0 h1 h2 h3
    go_wp2_with fail
    go_ret2
    exact ⟨by rw [HR.out]; rfl, hb1⟩
  · obtain ⟨_, _, hr2, hr1, _⟩ := nm1_is h0
    rw [h1, h2, h3]
    by_cases hle : r.2 ≤ e
    · have HR := Lib.hid (show ns1 s p e = some r by unfold ns1; rw [h0, Option.bind_some, if_pos hle])
      have d1 : decide (e < r.2) = false := by simp; omega
      have d2 : ¬ e < r.2 := by omega
      have hz : (⟨r.1.toArray⟩ : ByteArray).size ≤ 255 := by rw [mk_size]; exact hr1
      obtain ⟨R, hR⟩ : ∃ R : ByteArray, (⟨r.1.toArray⟩ : ByteArray) = R := ⟨_, rfl⟩
      obtain ⟨X, hX⟩ : ∃ X : Nat, r.2 = X := ⟨_, rfl⟩
      have HRX := Lib.hid (And.intro hR hX)
      rw [hR] at hz ⊢
      rw [hX] at d1 d2 hr2 ⊢
      have hcat : ¬ 9223372036854775807 < (⟨#[]⟩ : ByteArray).size + R.size := by show ¬ 9223372036854775807 < 0 + R.size; omega
      have hap := ba_nil_append R
      clear h0 h1 h2 h3 hle hR hX
      go_wp2_with fail
      rw [rounds_succ]
      go_wp2_with fail
      go_ret2
      exact ⟨by rw [HR.out, show nsS (some r) = R from HRX.out.1, show nsX (some r) = X from HRX.out.2]; rfl, hb1⟩
    · have HR := Lib.hid (show ns1 s p e = none by unfold ns1; rw [h0, Option.bind_some, if_neg hle])
      have d1 : decide (e < r.2) = true := by simp; omega
      have d2 : e < r.2 := by omega
      generalize (⟨r.1.toArray⟩ : ByteArray) = R
      generalize r.2 = X at *
      clear h0 h1 h2 h3 hle
      go_wp2_with fail
      go_ret2
      exact ⟨by rw [HR.out]; rfl, hb1⟩

set_option maxRecDepth 100000 in
set_option maxHeartbeats 1000000 in
theorem rnames2_any (s : ByteArray) (p e : Nat) (hs : s.size ≤ 1500) (hp : p ≤ 1502) (he : e ≤ 1500) (w : World) :
    Calls Tryz.prog 123 #[.string s, .int .i64 (p : Nat), .int .i64 (e : Nat), .int .i64 2] w fun en w' => en = .returned (.tuple #[.string (nsS (ns2 s p e)), .int .i64 (nsX (ns2 s p e) : Nat)]) ∧ Below w.heap.size w w' := by
  go_enter Tryz.func123, Tryz.ntmps123
  go_wp2_with fail
  refine wp_loop_rounds 3 ?_
  rw [rounds_succ]
  go_wp2_with fail
  refine (rtake_nat s p hs (by unfold maxLen; omega) _).mono ?_
  rintro en w1 ⟨rfl, hb1⟩
  rcases nm1_tk s p with ⟨h0, h1, h2, h3⟩ | ⟨r, h0, h1, h2, h3⟩
  · have HR := Lib.hid (show ns2 s p e = none by unfold ns2 ns1; rw [h0]; rfl)
    rw [h1, h2, h3]
    clear h0 h1 h2 h3
    go_wp2_with fail
    go_ret2
    exact ⟨by rw [HR.out]; rfl, hb1⟩
  · obtain ⟨_, _, hr2, hr1, _⟩ := nm1_is h0
    rw [h1, h2, h3]
    by_cases hle : r.2 ≤ e
    · have hn2 : ns2 s p e = (ns1 s r.2 e).map fun q => (r.1 ++ q.1, q.2) := by
        have : ns1 s p e = some r := by unfold ns1; rw [h0, Option.bind_some, if_pos hle]
        unfold ns2
        rw [this, Option.bind_some]
      have HN := Lib.hid hn2
      have d1 : decide (e < r.2) = false := by simp; omega
      have d2 : ¬ e < r.2 := by omega
      have hz : (⟨r.1.toArray⟩ : ByteArray).size ≤ 255 := by rw [mk_size]; exact hr1
      obtain ⟨R, hR⟩ : ∃ R : ByteArray, (⟨r.1.toArray⟩ : ByteArray) = R := ⟨_, rfl⟩
      obtain ⟨X, hX⟩ : ∃ X : Nat, r.2 = X := ⟨_, rfl⟩
      have HRX := Lib.hid hR
      rw [hR] at hz ⊢
      rw [hX] at d1 d2 hr2 HN ⊢
      have hcat : ¬ 9223372036854775807 < (⟨#[]⟩ : ByteArray).size + R.size := by show ¬ 9223372036854775807 < 0 + R.size; omega
      have hap := ba_nil_append R
      clear h0 h1 h2 h3 hle hR hX hn2
      go_wp2_with fail
      rw [rounds_succ]
      go_wp2_with fail
      refine (rtake_nat s X hs (by unfold maxLen; omega) _).mono ?_
      rintro en w2 ⟨rfl, hb2⟩
      have HB := Lib.hid (bthen hb1 hb2)
      clear hb1 hb2 hcat hap d1 d2
      rcases nm1_tk s X with ⟨h0, h1, h2, h3⟩ | ⟨q, h0, h1, h2, h3⟩
      · have HR := Lib.hid (show ns2 s p e = none by rw [HN.out]; unfold ns1; rw [h0]; rfl)
        rw [h1, h2, h3]
        clear h0 h1 h2 h3
        go_wp2_with fail
        go_ret2
        exact ⟨by rw [HR.out]; rfl, HB.out⟩
      · obtain ⟨_, _, hq2, hq1, _⟩ := nm1_is h0
        rw [h1, h2, h3]
        by_cases hle2 : q.2 ≤ e
        · have HR := Lib.hid (show ns2 s p e = some (r.1 ++ q.1, q.2) by rw [HN.out]; unfold ns1; rw [h0, Option.bind_some, if_pos hle2]; rfl)
          have d1 : decide (e < q.2) = false := by simp; omega
          have d2 : ¬ e < q.2 := by omega
          have hz2 : (⟨q.1.toArray⟩ : ByteArray).size ≤ 255 := by rw [mk_size]; exact hq1
          have hQ0 : R ++ ⟨q.1.toArray⟩ = nsS (some (r.1 ++ q.1, q.2)) := by rw [← HRX.out, ba_mk_append]; rfl
          have HQ0 := Lib.hid hQ0
          obtain ⟨Q, hQ⟩ : ∃ Q : ByteArray, (⟨q.1.toArray⟩ : ByteArray) = Q := ⟨_, rfl⟩
          obtain ⟨Y, hY⟩ : ∃ Y : Nat, q.2 = Y := ⟨_, rfl⟩
          have HY := Lib.hid hY
          rw [hQ] at hz2 HQ0 ⊢
          rw [hY] at d1 d2 hq2 ⊢
          have hcat : ¬ 9223372036854775807 < R.size + Q.size := by omega
          clear h0 h1 h2 h3 hle2 hQ hY hQ0
          go_wp2_with fail
          rw [rounds_succ]
          go_wp2_with fail
          go_ret2
          exact ⟨by rw [HR.out, ← HQ0.out, show nsX (some (r.1 ++ q.1, q.2)) = Y from HY.out]; rfl, HB.out⟩
        · have HR := Lib.hid (show ns2 s p e = none by rw [HN.out]; unfold ns1; rw [h0, Option.bind_some, if_neg hle2]; rfl)
          have d1 : decide (e < q.2) = true := by simp; omega
          have d2 : e < q.2 := by omega
          generalize (⟨q.1.toArray⟩ : ByteArray) = Q
          generalize q.2 = Y at *
          clear h0 h1 h2 h3 hle2
          go_wp2_with fail
          go_ret2
          exact ⟨by rw [HR.out]; rfl, HB.out⟩
    · have HR := Lib.hid (show ns2 s p e = none by unfold ns2 ns1; rw [h0, Option.bind_some, if_neg hle]; rfl)
      have d1 : decide (e < r.2) = true := by simp; omega
      have d2 : e < r.2 := by omega
      generalize (⟨r.1.toArray⟩ : ByteArray) = R
      generalize r.2 = X at *
      clear h0 h1 h2 h3 hle
      go_wp2_with fail
      go_ret2
      exact ⟨by rw [HR.out]; rfl, hb1⟩

end Go.Proofs.YtnakljbginbenaaGreatDoor
