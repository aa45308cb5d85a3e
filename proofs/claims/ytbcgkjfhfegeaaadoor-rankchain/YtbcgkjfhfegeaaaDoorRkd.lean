/- The walk of RankOrder. -/
import Derived.Test.YtbcgkjfhfegeaaaDoorRkb
namespace Go.Proofs.YtbcgkjfhfegeaaaDoor
open Go.RowKit
set_option linter.unusedVariables false

theorem nm_ne (x y : Nat) (h1 : 1 ≤ x ∧ x ≤ 5) (h2 : y < 7) (h : x ≠ y) : ((nmN (x : Int)).toList == (nmN (y : Int)).toList) = false := by
  rw [ByteArray.toList_eq, ByteArray.toList_eq]
  rcases (by omega : x = 1 ∨ x = 2 ∨ x = 3 ∨ x = 4 ∨ x = 5) with rfl | rfl | rfl | rfl | rfl <;>
    rcases (by omega : y = 0 ∨ y = 1 ∨ y = 2 ∨ y = 3 ∨ y = 4 ∨ y = 5 ∨ y = 6) with rfl | rfl | rfl | rfl | rfl | rfl | rfl <;> first | exact absurd rfl h | decide
theorem nm_some (x : Nat) (h1 : 1 ≤ x ∧ x ≤ 5) : (nmN (x : Int)).toList.isEmpty = false ∧ (nmN (x : Int) == ⟨#[]⟩) = false := by
  rcases (by omega : x = 1 ∨ x = 2 ∨ x = 3 ∨ x = 4 ∨ x = 5) with rfl | rfl | rfl | rfl | rfl <;> exact ⟨by simp [nmN, nmB], by decide⟩

theorem of_1_false (w : World) : Calls Tryd.prog 8 #[.int .i64 1, .bool false] w fun x w' => x = .returned (.int .i64 3) ∧ w' = w := of_any 1 false w
theorem of_1_true (w : World) : Calls Tryd.prog 8 #[.int .i64 1, .bool true] w fun x w' => x = .returned (.int .i64 5) ∧ w' = w := of_any 1 true w
theorem of_2_false (w : World) : Calls Tryd.prog 8 #[.int .i64 2, .bool false] w fun x w' => x = .returned (.int .i64 2) ∧ w' = w := of_any 2 false w
theorem of_2_true (w : World) : Calls Tryd.prog 8 #[.int .i64 2, .bool true] w fun x w' => x = .returned (.int .i64 4) ∧ w' = w := of_any 2 true w
theorem of_3_false (w : World) : Calls Tryd.prog 8 #[.int .i64 3, .bool false] w fun x w' => x = .returned (.int .i64 1) ∧ w' = w := of_any 3 false w
theorem of_3_true (w : World) : Calls Tryd.prog 8 #[.int .i64 3, .bool true] w fun x w' => x = .returned (.int .i64 1) ∧ w' = w := of_any 3 true w
set_option maxRecDepth 100000 in
set_option maxHeartbeats 4000000 in
theorem order_walk (aa : Bool) (a b : Nat) (ha : a < 256) (hb : b < 256) (w : World) (hL : Lay w) :
    Calls Tryd.prog 4 #[.bool aa, .int .u8 (a : Nat), .int .u8 (b : Nat)] w fun x w' => x = .returned (.bool true) ∧ Below w.heap.size w w' := by
  have HL := Lib.hid hL
  have HP := Lib.hid (lay_lt hL)
  clear hL
  go_enter Tryd.func4, Tryd.ntmps4
  go_wp2_with fail
  refine (shown_any w HL.out).mono ?_
  rintro _ w1 ⟨rfl, hb⟩
  have HW := Lib.hid hb
  have HL1 := Lib.hid (HL.out.below HP.out hb)
  clear hb
  obtain ⟨x, hx⟩ : ∃ x, a % 7 = x := ⟨_, rfl⟩
  obtain ⟨y, hy⟩ : ∃ y, b % 7 = y := ⟨_, rfl⟩
  have hx7 : x < 7 := by omega
  have hy7 : y < 7 := by omega
  have ex : (a : Int).tmod 7 = (x : Int) := by rw [← hx]; exact (Int.ofNat_tmod a 7).symm
  have ey : (b : Int).tmod 7 = (y : Int) := by rw [← hy]; exact (Int.ofNat_tmod b 7).symm
  have e1 : ofN 1 aa = if aa then 5 else 3 := rfl
  have e2 : ofN 2 aa = if aa then 4 else 2 := rfl
  have e3 : ofN 3 aa = 1 := rfl
  have HN := Lib.hid (fun w1 h => name_any (x : Int) w1 h)
  have HM := Lib.hid (fun w1 h => name_any (y : Int) w1 h)
  have H0 := Lib.hid (fun (h : ¬ (1 ≤ x ∧ x ≤ 5)) => show nmN (x : Int) = ⟨#[]⟩ by
    rcases (by omega : x = 0 ∨ x = 6) with rfl | rfl <;> rfl)
  have H1 := Lib.hid (fun h => nm_some x h)
  have H2 := Lib.hid (fun h => nm_ne x y h hy7)
  clear e1 e2 e3 ha hb hx hy
  cases aa
  case' false =>
    go_wp2_with fail
    refine (of_1_false _).mono ?_
    rintro _ _ ⟨rfl, rfl⟩
    go_wp2_with fail
    refine (of_2_false _).mono ?_
    rintro _ _ ⟨rfl, rfl⟩
    go_wp2_with fail
    refine (of_2_false _).mono ?_
    rintro _ _ ⟨rfl, rfl⟩
    go_wp2_with fail
    refine (of_3_false _).mono ?_
    rintro _ _ ⟨rfl, rfl⟩
    go_wp2_with fail
    refine (of_1_true _).mono ?_
    rintro _ _ ⟨rfl, rfl⟩
    go_wp2_with fail
    refine (of_1_false _).mono ?_
    rintro _ _ ⟨rfl, rfl⟩
    go_wp2_with fail
    refine (of_2_true _).mono ?_
    rintro _ _ ⟨rfl, rfl⟩
    go_wp2_with fail
    refine (of_1_false _).mono ?_
    rintro _ _ ⟨rfl, rfl⟩
    go_wp2_with fail
    refine (of_3_true _).mono ?_
    rintro _ _ ⟨rfl, rfl⟩
    go_wp2_with fail
    refine (of_3_false _).mono ?_
    rintro _ _ ⟨rfl, rfl⟩
    go_upto_region 5 with fail
  case' true =>
    go_wp2_with fail
    refine (of_1_true _).mono ?_
    rintro _ _ ⟨rfl, rfl⟩
    go_wp2_with fail
    refine (of_2_true _).mono ?_
    rintro _ _ ⟨rfl, rfl⟩
    go_wp2_with fail
    refine (of_2_true _).mono ?_
    rintro _ _ ⟨rfl, rfl⟩
    go_wp2_with fail
    refine (of_3_true _).mono ?_
    rintro _ _ ⟨rfl, rfl⟩
    go_wp2_with fail
    refine (of_1_true _).mono ?_
    rintro _ _ ⟨rfl, rfl⟩
    go_wp2_with fail
    refine (of_1_false _).mono ?_
    rintro _ _ ⟨rfl, rfl⟩
    go_wp2_with fail
    refine (of_2_true _).mono ?_
    rintro _ _ ⟨rfl, rfl⟩
    go_wp2_with fail
    refine (of_1_false _).mono ?_
    rintro _ _ ⟨rfl, rfl⟩
    go_wp2_with fail
    refine (of_3_true _).mono ?_
    rintro _ _ ⟨rfl, rfl⟩
    go_wp2_with fail
    refine (of_3_false _).mono ?_
    rintro _ _ ⟨rfl, rfl⟩
    go_upto_region 5 with fail
  all_goals
    by_cases h : 1 ≤ x ∧ x ≤ 5
    · have d1 : decide (1 ≤ (x : Int)) = true := by simp; omega
      have d2 : decide ((x : Int) ≤ 5) = true := by simp; omega
      have d1' : decide (1 ≤ x) = true := by simp; omega
      have d2' : decide (x ≤ 5) = true := by simp; omega
      obtain ⟨hs1, hs2⟩ := H1.out h
      have hs3 := H2.out h
      by_cases hxy : x = y
      · have d3 : (x == y) = true := by simpa using hxy
        have d3' : ((x : Int) == (y : Int)) = true := by rw [hxy]; simp
        clear h hxy hs3 hx7 hy7
        generalize nmN (x : Int) = bx at *
        clear H0 H1 H2
        go_wp2_with fail
        refine (HN.out _ HL1.out).mono ?_
        rintro _ _ ⟨rfl, rfl⟩
        go_wp2_with fail
        go_ret
        exact ⟨rfl, HW.out⟩
      · have d3 : (x == y) = false := by simpa using hxy
        have d3' : ((x : Int) == (y : Int)) = false := by simp; omega
        have hs4 := hs3 hxy
        clear h hxy hs3 hx7 hy7
        generalize nmN (x : Int) = bx at *
        generalize nmN (y : Int) = bY at *
        clear H0 H1 H2
        go_wp2_with fail
        refine (HN.out _ HL1.out).mono ?_
        rintro _ _ ⟨rfl, rfl⟩
        go_wp2_with fail
        refine (HN.out _ HL1.out).mono ?_
        rintro _ _ ⟨rfl, rfl⟩
        go_wp2_with fail
        refine (HM.out _ HL1.out).mono ?_
        rintro _ _ ⟨rfl, rfl⟩
        go_wp2_with fail
        go_ret
        exact ⟨rfl, HW.out⟩
    · have hs := H0.out h
      rw [hs] at HN
      have hx06 : x = 0 ∨ x = 6 := by omega
      clear hx7 hy7 H0 H1 H2 hs
      rcases hx06 with rfl | rfl
      · go_wp2_with fail
        refine (HN.out _ HL1.out).mono ?_
        rintro _ _ ⟨rfl, rfl⟩
        go_wp2_with fail
        go_ret
        exact ⟨rfl, HW.out⟩
      · go_wp2_with fail
        refine (HN.out _ HL1.out).mono ?_
        rintro _ _ ⟨rfl, rfl⟩
        go_wp2_with fail
        go_ret
        exact ⟨rfl, HW.out⟩
end Go.Proofs.YtbcgkjfhfegeaaaDoor
