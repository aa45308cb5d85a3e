/- Ranks: the contracts of rank's Of, Name and Beats, of the document's, and of the example. -/
import Derived.Test.YtbcgkjfhfegeaaaDoorRows
import Derived.WalkKit
import Derived.WalkSpells
import Derived.WalkLawsBesides
import Derived.Lib.Hide
import Derived.Deep.QuietTactic
import Derived.BigQuiet
import Derived.RegionTactic
import Derived.Deep.DeepCutAuto
import Derived.Deep.MidRow
import Derived.Below
import Derived.RangeFuncRecord
import Derived.Laws.Rows
namespace Go.Proofs.YtbcgkjfhfegeaaaDoor
open Go.RowKit
set_option linter.unusedVariables false

/-- An entry's value. -/
def entV (n : ByteArray) (t c : Nat) (sl : Value) (rc rk : Int) (ex : Nat) : Value := .agg #[.string n, .int .u16 (t : Nat), .int .u16 (c : Nat), sl, .int .i64 rc, .int .i64 rk, .int .u64 (ex : Nat)]
/-- May the second take the first one's place? -/
def btN (r : Int) (ex : Nat) (r' : Int) (now : Nat) : Bool := !decide (now < ex) || decide (r ≤ r')

theorem live_any (e n : Nat) (w : World) : Calls Tryd.prog 14 #[.int .u64 (e : Nat), .int .u64 (n : Nat)] w fun x w' => x = .returned (.bool (decide (n < e))) ∧ w' = w := by
  go_enter Tryd.func14, Tryd.ntmps14
  go_wp2_with fail
  go_ret
  exact ⟨rfl, rfl⟩

set_option maxHeartbeats 1000000 in
theorem beats_any (n n' : ByteArray) (t c t' c' : Nat) (sl sl' : Value) (rc rc' rk rk' : Int) (ex ex' now : Nat) (w : World) :
    Calls Tryd.prog 12 #[entV n t c sl rc rk ex, entV n' t' c' sl' rc' rk' ex', .int .u64 (now : Nat)] w fun x w' => x = .returned (.bool (btN rk ex rk' now)) ∧ Below w.heap.size w w' := by
  unfold entV
  have HB := Lib.hid (fun o o' => ((Below.refl w.heap.size w).alloc (Nat.le_refl _) o).alloc (by simp) o')
  go_enter Tryd.func12, Tryd.ntmps12
  go_wp2_with fail
  refine (live_any _ _ _).mono ?_
  rintro _ _ ⟨rfl, rfl⟩
  by_cases h : now < ex
  · have HR := Lib.hid (show btN rk ex rk' now = decide (rk ≤ rk') by unfold btN; simp [h])
    have hd : decide (now < ex) = true := by simpa using h
    go_wp2_with fail
    go_ret
    exact ⟨by rw [HR.out]; rfl, HB.out _ _⟩
  · have HR := Lib.hid (show btN rk ex rk' now = true by unfold btN; simp [h])
    have hd : decide (now < ex) = false := by simpa using h
    go_wp2_with fail
    go_ret
    exact ⟨by rw [HR.out]; rfl, HB.out _ _⟩

set_option maxHeartbeats 1000000 in
theorem fbeats_any (n n' : ByteArray) (t c t' c' : Nat) (sl sl' : Value) (rc rc' rk rk' : Int) (ex ex' now : Nat) (w : World) :
    Calls Tryd.prog 13 #[entV n t c sl rc rk ex, entV n' t' c' sl' rc' rk' ex', .int .u64 (now : Nat)] w fun x w' => x = .returned (.bool (btN rk ex rk' now)) ∧ Below w.heap.size w w' := by
  unfold entV
  have HB := Lib.hid (fun o o' => ((Below.refl w.heap.size w).alloc (Nat.le_refl _) o).alloc (by simp) o')
  by_cases h : now < ex
  · have HR := Lib.hid (show btN rk ex rk' now = decide (rk ≤ rk') by unfold btN; simp [h])
    have hd : ¬ ex ≤ now := by omega
    go_enter Tryd.func13, Tryd.ntmps13
    go_wp2_with fail
    go_ret
    exact ⟨by rw [HR.out]; rfl, HB.out _ _⟩
  · have HR := Lib.hid (show btN rk ex rk' now = true by unfold btN; simp [h])
    have hd : ex ≤ now := by omega
    go_enter Tryd.func13, Tryd.ntmps13
    go_wp2_with fail
    go_ret
    exact ⟨by rw [HR.out]; rfl, HB.out _ _⟩

/-- The rank of a section. -/
def ofN (s : Int) (aa : Bool) : Nat := if s = 1 then (if aa then 5 else 3) else if s = 2 then (if aa then 4 else 2) else if s = 3 then 1 else 0
theorem of_any (s : Int) (aa : Bool) (w : World) :
    Calls Tryd.prog 8 #[.int .i64 s, .bool aa] w fun x w' => x = .returned (.int .i64 (ofN s aa : Nat)) ∧ w' = w := by
  by_cases h1 : s = 1
  · subst h1
    cases aa <;> (go_enter Tryd.func8, Tryd.ntmps8; go_wp2_with fail; go_ret; exact ⟨rfl, rfl⟩)
  by_cases h2 : s = 2
  · subst h2
    cases aa <;> (go_enter Tryd.func8, Tryd.ntmps8; go_wp2_with fail; go_ret; exact ⟨rfl, rfl⟩)
  by_cases h3 : s = 3
  · subst h3
    cases aa <;> (go_enter Tryd.func8, Tryd.ntmps8; go_wp2_with fail; go_ret; exact ⟨rfl, rfl⟩)
  have HE := Lib.hid (show ofN s aa = 0 by unfold ofN; simp [h1, h2, h3])
  have e1 : (s == 1) = false := by simpa using h1
  have e2 : (s == 2) = false := by simpa using h2
  have e3 : (s == 3) = false := by simpa using h3
  go_enter Tryd.func8, Tryd.ntmps8
  go_wp2_with fail
  go_ret
  exact ⟨by rw [HE.out]; rfl, rfl⟩
theorem fof_any (s : Int) (aa : Bool) (w : World) :
    Calls Tryd.prog 9 #[.int .i64 s, .bool aa] w fun x w' => x = .returned (.int .i64 (ofN s aa : Nat)) ∧ w' = w := by
  by_cases h1 : s = 1
  · subst h1
    cases aa <;> (go_enter Tryd.func9, Tryd.ntmps9; go_wp2_with fail; go_ret; exact ⟨rfl, rfl⟩)
  by_cases h2 : s = 2
  · subst h2
    cases aa <;> (go_enter Tryd.func9, Tryd.ntmps9; go_wp2_with fail; go_ret; exact ⟨rfl, rfl⟩)
  by_cases h3 : s = 3
  · subst h3
    cases aa <;> (go_enter Tryd.func9, Tryd.ntmps9; go_wp2_with fail; go_ret; exact ⟨rfl, rfl⟩)
  have HE := Lib.hid (show ofN s aa = 0 by unfold ofN; simp [h1, h2, h3])
  have e1 : (s == 1) = false := by simpa using h1
  have e2 : (s == 2) = false := by simpa using h2
  have e3 : (s == 3) = false := by simpa using h3
  go_enter Tryd.func9, Tryd.ntmps9
  go_wp2_with fail
  go_ret
  exact ⟨by rw [HE.out]; rfl, rfl⟩

/-- The names of ranks. -/
def nmB : Nat → ByteArray
  | 1 => ⟨#[97, 100, 100, 105, 116, 105, 111, 110, 97, 108]⟩
  | 2 => ⟨#[97, 117, 116, 104, 111, 114, 105, 116, 121]⟩
  | 3 => ⟨#[97, 110, 115, 119, 101, 114]⟩
  | 4 => ⟨#[97, 117, 116, 104, 111, 114, 105, 116, 121, 32, 97, 97]⟩
  | 5 => ⟨#[97, 110, 115, 119, 101, 114, 32, 97, 97]⟩
  | _ => ⟨#[]⟩
def nmN (r : Int) : ByteArray := if 0 ≤ r ∧ r ≤ 5 then nmB r.toNat else ⟨#[]⟩
def layC : List Value := (List.range 6).map fun i => .string (nmB i)
/-- The table lies in memory. -/
def Lay (w : World) : Prop := ∃ t f, w.heap[0]? = some (.cells layC.toArray t f)
theorem lay_lt {w : World} (h : Lay w) : 0 < w.heap.size := by
  obtain ⟨t, f, h⟩ := h
  exact (Array.getElem?_eq_some_iff.1 h).1
theorem Lay.below {w w' : World} {B : Nat} (h : Lay w) (hB : 0 < B) (hb : Below B w w') : Lay w' := by
  obtain ⟨t, f, h⟩ := h
  exact ⟨t, f, (hb.block 0 hB).trans h⟩
theorem Lay.cell {w : World} (h : Lay w) (i : Nat) (hi : i < 6) : w.cell? ⟨0, i, none⟩ = some (.string (nmB i)) := by
  obtain ⟨t, f, h⟩ := h
  rw [cell_of_row w 0 i _ t f h]
  simp [layC, hi]
theorem name_any (r : Int) (w : World) (hL : Lay w) :
    Calls Tryd.prog 10 #[.int .i64 r] w fun x w' => x = .returned (.string (nmN r)) ∧ w' = w := by
  by_cases h0 : r < 0
  · have HE := Lib.hid (show nmN r = ⟨#[]⟩ by unfold nmN; rw [if_neg (by omega)])
    go_enter Tryd.func10, Tryd.ntmps10
    go_wp2_with fail
    go_ret
    exact ⟨by rw [HE.out]; rfl, rfl⟩
  by_cases h6 : 6 ≤ r
  · have HE := Lib.hid (show nmN r = ⟨#[]⟩ by unfold nmN; rw [if_neg (by omega)])
    go_enter Tryd.func10, Tryd.ntmps10
    go_wp2_with fail
    go_ret
    exact ⟨by rw [HE.out]; rfl, rfl⟩
  obtain ⟨k, rfl⟩ : ∃ k : Nat, r = k := ⟨r.toNat, by omega⟩
  have hk : k < 6 := by omega
  have HE := Lib.hid (show nmN (k : Int) = nmB k by unfold nmN; rw [if_pos (by omega)]; rfl)
  have hc := hL.cell k hk
  clear hL h0 h6
  generalize nmB k = b at *
  go_enter Tryd.func10, Tryd.ntmps10
  go_wp2_with fail
  go_ret
  exact ⟨by rw [HE.out]; rfl, rfl⟩
theorem fname_any (r : Int) (w : World) :
    Calls Tryd.prog 11 #[.int .i64 r] w fun x w' => x = .returned (.string (nmN r)) ∧ w' = w := by
  by_cases h1 : r = 1
  · subst h1; go_enter Tryd.func11, Tryd.ntmps11; go_wp2_with fail; go_ret; exact ⟨rfl, rfl⟩
  by_cases h2 : r = 2
  · subst h2; go_enter Tryd.func11, Tryd.ntmps11; go_wp2_with fail; go_ret; exact ⟨rfl, rfl⟩
  by_cases h3 : r = 3
  · subst h3; go_enter Tryd.func11, Tryd.ntmps11; go_wp2_with fail; go_ret; exact ⟨rfl, rfl⟩
  by_cases h4 : r = 4
  · subst h4; go_enter Tryd.func11, Tryd.ntmps11; go_wp2_with fail; go_ret; exact ⟨rfl, rfl⟩
  by_cases h5 : r = 5
  · subst h5; go_enter Tryd.func11, Tryd.ntmps11; go_wp2_with fail; go_ret; exact ⟨rfl, rfl⟩
  have HE := Lib.hid (show nmN r = ⟨#[]⟩ by
    unfold nmN
    split
    · obtain rfl : r = 0 := by omega
      rfl
    · rfl)
  have e1 : (r == 1) = false := by simpa using h1
  have e2 : (r == 2) = false := by simpa using h2
  have e3 : (r == 3) = false := by simpa using h3
  have e4 : (r == 4) = false := by simpa using h4
  have e5 : (r == 5) = false := by simpa using h5
  go_enter Tryd.func11, Tryd.ntmps11
  go_wp2_with fail
  go_ret
  exact ⟨by rw [HE.out]; rfl, rfl⟩
end Go.Proofs.YtbcgkjfhfegeaaaDoor
