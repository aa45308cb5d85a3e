/- Times to live: their mathematics, and the contracts of ttl's Until, Live, Left, Clamp and minimum, and of the document's. -/
import Derived.Test.YtomhfjpjdgecpaaRows
import Derived.WalkKit
import Derived.WalkSpells
import Derived.WalkLawsBesides
import Derived.Lib.Hide
import Derived.Deep.QuietTactic
import Derived.BigQuiet
import Derived.RegionTactic
import Derived.Deep.DeepCutAuto
import Derived.Below
import Derived.RangeFuncRecord
import Derived.Laws.Rows
namespace Go.Proofs.Ytomhfjpjdgecpaa
open Go.RowKit
set_option linter.unusedVariables false

/-- When something ends, and how much is left of it. -/
def untN (now a : Nat) : Nat := if now + a < 18446744073709551616 then now + a else 18446744073709551615
def lefN (e n : Nat) : Nat := if e ≤ n then 0 else if 4294967295 < e - n then 4294967295 else e - n
def clpN (a m : Nat) : Nat := if 2147483648 ≤ a then 0 else if m < a then m else a
/-- The least number of a list. -/
def lst : List Nat → Nat
  | [] => 0
  | a :: l => l.foldl min a
theorem untN_lt {now a : Nat} (h : now < 18446744073709551616) : untN now a < 18446744073709551616 := by unfold untN; split <;> omega
theorem lefN_lt (e n : Nat) : lefN e n < 4294967296 := by unfold lefN; split; omega; split <;> omega
theorem clpN_lt {a m : Nat} (h : a < 4294967296) : clpN a m < 4294967296 := by unfold clpN; split; omega; split <;> omega
theorem clpN_min {a m : Nat} (h : a < 2147483648) : clpN a m = min a m := by unfold clpN; rw [if_neg (by omega)]; split <;> omega
theorem lefN_min {e n : Nat} (h : n < e) : lefN e n = min (e - n) 4294967295 := by unfold lefN; rw [if_neg (by omega)]; split <;> omega

set_option maxHeartbeats 400000 in
theorem until_any (now a : Nat) (h1 : now < 18446744073709551616) (h2 : a < 4294967296) (w : World) :
    Calls Try.prog 10 #[.int .u64 (now : Nat), .int .u32 (a : Nat)] w fun e w' => e = .returned (.int .u64 (untN now a : Nat)) ∧ w' = w := by
  by_cases hc : now + a < 18446744073709551616
  · have e : untN now a = now + a := if_pos hc
    rw [e]
    clear e
    have g : decide ((now : Int) + (a : Int) < (now : Int)) = false := by simp; omega
    go_enter Try.func10, Try.ntmps10
    go_wp2_with fail
    go_ret
    exact ⟨by first | rfl | simp, rfl⟩
  · have e : untN now a = 18446744073709551615 := if_neg hc
    rw [e]
    clear e
    obtain ⟨s, hs⟩ : ∃ s : Nat, s = now + a - 18446744073709551616 := ⟨_, rfl⟩
    have hw : IntKind.u64.wrap ((now : Int) + (a : Int)) = (s : Int) := by
      simp [IntKind.wrap, IntKind.bits, IntKind.signed]
      omega
    have g : s < now := by omega
    clear hs hc
    go_enter Try.func10, Try.ntmps10
    go_wp2_with fail
    go_ret
    exact ⟨rfl, rfl⟩

theorem live_any (e n : Nat) (w : World) : Calls Try.prog 14 #[.int .u64 (e : Nat), .int .u64 (n : Nat)] w fun x w' => x = .returned (.bool (decide (n < e))) ∧ w' = w := by
  go_enter Try.func14, Try.ntmps14
  go_wp2_with fail
  go_ret
  exact ⟨rfl, rfl⟩

/-- The numbers of a slice. -/
def Ns (k : IntKind) (w : World) (A : Option Addr) (l : List Nat) : Prop := ∀ j (h : j < l.length), ∃ b off : Nat, A = some ⟨b, off, none⟩ ∧ w.cell? ⟨b, off + j, none⟩ = some (.int k (l[j] : Nat))
theorem foldl_step (a : Nat) (t : List Nat) (j : Nat) (h : j < t.length) : (t.take (j + 1)).foldl min a = min ((t.take j).foldl min a) t[j] := by
  rw [List.take_add_one, List.foldl_append, List.getElem?_eq_getElem h]
  rfl

set_option maxRecDepth 100000 in
set_option maxHeartbeats 1000000 in
theorem min64_any (A : Option Addr) (cap : Nat) (l : List Nat) (hc : l.length ≤ cap) (hcap : cap ≤ 9223372036854775807) (w : World) (hI : Ns .u64 w A l) :
    Calls Try.prog 22 #[.slice A l.length cap] w fun e w' => e = .returned (.int .u64 (lst l : Nat)) ∧ Below w.heap.size w w' := by
  cases l with
  | nil =>
    have e : ([] : List Nat).length = 0 := rfl
    go_enter Try.func22, Try.ntmps22
    go_wp2_with fail
    go_ret
    exact ⟨rfl, Below.refl _ _⟩
  | cons a t =>
    obtain ⟨b, off, rfl, c0⟩ := hI 0 (by simp)
    have c0' : w.cell? ⟨b, off, none⟩ = some (.int .u64 (a : Nat)) := c0
    have ht : ∀ j (h : j < t.length), w.cell? ⟨b, off + 1 + j, none⟩ = some (.int .u64 (t[j] : Nat)) := fun j h => by
      obtain ⟨b', off', e, c⟩ := hI (j + 1) (by simp; omega)
      cases e
      rw [show off + 1 + j = off + (j + 1) by omega]
      simpa using c
    have HT := Lib.hid ht
    have hn : (a :: t).length = t.length + 1 := rfl
    rw [hn]
    rw [hn] at hc
    have n0 : decide (((t.length + 1 : Nat) : Int) = 0) = false := by simp; omega
    have HL := Lib.hid (show lst (a :: t) = t.foldl min a from rfl)
    generalize lst (a :: t) = L at *
    clear ht hI hn c0
    by_cases hcp : cap = 1
    · subst hcp
      obtain rfl : t = [] := List.eq_nil_of_length_eq_zero (by omega)
      have hL := HL.out
      obtain rfl : L = a := hL
      clear HL HT
      go_enter Try.func22, Try.ntmps22
      go_wp2_with fail
      go_loopw [3, 15] (fun x i wr => x = .int .u64 (L : Nat) ∧ i = .int .i64 0 ∧ wr = w) (fun _ _ _ => 0)
      case atStart => exact ⟨rfl, rfl, rfl⟩
      case round =>
        obtain ⟨rfl, rfl, rfl⟩ := hrel
        go_wp2_with fail
        go_ret
        exact ⟨rfl, Below.refl _ _⟩
    go_enter Try.func22, Try.ntmps22
    go_wp2_with fail
    go_loopw [3, 15] (fun x i wr => ∃ j : Nat, j ≤ t.length ∧ x = .int .u64 (((t.take j).foldl min a : Nat) : Int) ∧ i = .int .i64 j ∧ wr = w) (fun _ i _ => t.length - (intOf i).toNat)
    case atStart => exact ⟨0, Nat.zero_le _, rfl, rfl, rfl⟩
    case round =>
      obtain ⟨j, hj, rfl, rfl, rfl⟩ := hrel
      by_cases hlt : j < t.length
      · have c1 := HT.out j hlt
        have HS := Lib.hid (foldl_step a t j hlt)
        generalize (t.take j).foldl min a = x at *
        generalize t[j] = z at *
        by_cases hz : z < x
        · have HE := Lib.hid (show (t.take (j + 1)).foldl min a = z by rw [HS.out]; omega)
          clear HS
          go_wp2_with fail
          go_roundw
          case rel => exact ⟨j + 1, hlt, by rw [HE.out], by go_num, by first | rfl | trivial⟩
          case measure => simp [intOf]; omega
        · have HE := Lib.hid (show (t.take (j + 1)).foldl min a = x by rw [HS.out]; omega)
          clear HS
          go_wp2_with fail
          go_roundw
          case rel => exact ⟨j + 1, hlt, by rw [HE.out], by go_num, by first | rfl | trivial⟩
          case measure => simp [intOf]; omega
      · obtain rfl : j = t.length := by omega
        have HE := Lib.hid (show L = (t.take t.length).foldl min a by rw [HL.out, List.take_length])
        generalize (t.take t.length).foldl min a = x at *
        go_wp2_with fail
        go_ret
        exact ⟨by rw [HE.out]; rfl, Below.refl _ _⟩
set_option maxRecDepth 100000 in
set_option maxHeartbeats 1000000 in
theorem min32_any (A : Option Addr) (cap : Nat) (l : List Nat) (hc : l.length ≤ cap) (hcap : cap ≤ 9223372036854775807) (w : World) (hI : Ns .u32 w A l) :
    Calls Try.prog 23 #[.slice A l.length cap] w fun e w' => e = .returned (.int .u32 (lst l : Nat)) ∧ Below w.heap.size w w' := by
  cases l with
  | nil =>
    have e : ([] : List Nat).length = 0 := rfl
    go_enter Try.func23, Try.ntmps23
    go_wp2_with fail
    go_ret
    exact ⟨rfl, Below.refl _ _⟩
  | cons a t =>
    obtain ⟨b, off, rfl, c0⟩ := hI 0 (by simp)
    have c0' : w.cell? ⟨b, off, none⟩ = some (.int .u32 (a : Nat)) := c0
    have ht : ∀ j (h : j < t.length), w.cell? ⟨b, off + 1 + j, none⟩ = some (.int .u32 (t[j] : Nat)) := fun j h => by
      obtain ⟨b', off', e, c⟩ := hI (j + 1) (by simp; omega)
      cases e
      rw [show off + 1 + j = off + (j + 1) by omega]
      simpa using c
    have HT := Lib.hid ht
    have hn : (a :: t).length = t.length + 1 := rfl
    rw [hn]
    rw [hn] at hc
    have n0 : decide (((t.length + 1 : Nat) : Int) = 0) = false := by simp; omega
    have HL := Lib.hid (show lst (a :: t) = t.foldl min a from rfl)
    generalize lst (a :: t) = L at *
    clear ht hI hn c0
    by_cases hcp : cap = 1
    · subst hcp
      obtain rfl : t = [] := List.eq_nil_of_length_eq_zero (by omega)
      have hL := HL.out
      obtain rfl : L = a := hL
      clear HL HT
      go_enter Try.func23, Try.ntmps23
      go_wp2_with fail
      go_loopw [3, 15] (fun x i wr => x = .int .u32 (L : Nat) ∧ i = .int .i64 0 ∧ wr = w) (fun _ _ _ => 0)
      case atStart => exact ⟨rfl, rfl, rfl⟩
      case round =>
        obtain ⟨rfl, rfl, rfl⟩ := hrel
        go_wp2_with fail
        go_ret
        exact ⟨rfl, Below.refl _ _⟩
    go_enter Try.func23, Try.ntmps23
    go_wp2_with fail
    go_loopw [3, 15] (fun x i wr => ∃ j : Nat, j ≤ t.length ∧ x = .int .u32 (((t.take j).foldl min a : Nat) : Int) ∧ i = .int .i64 j ∧ wr = w) (fun _ i _ => t.length - (intOf i).toNat)
    case atStart => exact ⟨0, Nat.zero_le _, rfl, rfl, rfl⟩
    case round =>
      obtain ⟨j, hj, rfl, rfl, rfl⟩ := hrel
      by_cases hlt : j < t.length
      · have c1 := HT.out j hlt
        have HS := Lib.hid (foldl_step a t j hlt)
        generalize (t.take j).foldl min a = x at *
        generalize t[j] = z at *
        by_cases hz : z < x
        · have HE := Lib.hid (show (t.take (j + 1)).foldl min a = z by rw [HS.out]; omega)
          clear HS
          go_wp2_with fail
          go_roundw
          case rel => exact ⟨j + 1, hlt, by rw [HE.out], by go_num, by first | rfl | trivial⟩
          case measure => simp [intOf]; omega
        · have HE := Lib.hid (show (t.take (j + 1)).foldl min a = x by rw [HS.out]; omega)
          clear HS
          go_wp2_with fail
          go_roundw
          case rel => exact ⟨j + 1, hlt, by rw [HE.out], by go_num, by first | rfl | trivial⟩
          case measure => simp [intOf]; omega
      · obtain rfl : j = t.length := by omega
        have HE := Lib.hid (show L = (t.take t.length).foldl min a by rw [HL.out, List.take_length])
        generalize (t.take t.length).foldl min a = x at *
        go_wp2_with fail
        go_ret
        exact ⟨by rw [HE.out]; rfl, Below.refl _ _⟩

theorem Ns.two {k : IntKind} (w : World) (x y : Nat) (t : TypeId) : Ns k (w.alloc (.cells #[.int k (x : Nat), .int k (y : Nat)] t)) (some ⟨w.heap.size, 0, none⟩) [x, y] := fun j h => by
  have hx := World.alloc_heap_new w (Obj.cells #[.int k (x : Nat), .int k (y : Nat)] t)
  refine ⟨_, _, rfl, ?_⟩
  rw [cell_of_row _ _ (0 + j) _ _ (0, 0) hx]
  have : j = 0 ∨ j = 1 := by simp at h; omega
  rcases this with rfl | rfl <;> rfl
theorem lst_two (x y : Nat) : lst [x, y] = min x y := rfl

set_option maxHeartbeats 1000000 in
theorem left_any (e n : Nat) (h1 : e < 18446744073709551616) (h2 : n < 18446744073709551616) (w : World) :
    Calls Try.prog 12 #[.int .u64 (e : Nat), .int .u64 (n : Nat)] w fun x w' => x = .returned (.int .u32 (lefN e n : Nat)) ∧ Below w.heap.size w w' := by
  by_cases hc : e ≤ n
  · have hE : lefN e n = 0 := if_pos hc
    rw [hE]
    have g : decide (n < e) = false := by simp; omega
    have HL := Lib.hid (live_any e n)
    rw [g] at HL
    clear hE g
    go_enter Try.func12, Try.ntmps12
    go_wp2_with fail
    refine (HL.out _).mono ?_
    rintro _ _ ⟨rfl, rfl⟩
    go_wp2_with fail
    go_ret
    exact ⟨rfl, Below.refl _ _⟩
  · have HE := Lib.hid (lefN_min (e := e) (n := n) (by omega))
    have hlt := lefN_lt e n
    have g : decide (n < e) = true := by simp; omega
    have HL := Lib.hid (live_any e n)
    rw [g] at HL
    have hsub : (e : Int) - (n : Int) = ((e - n : Nat) : Int) := by omega
    have hd : e - n < 18446744073709551616 := by omega
    generalize lefN e n = y at *
    generalize e - n = d at *
    have hb1 := (Below.refl w.heap.size w).alloc (Nat.le_refl _) (Obj.cells #[.int .u64 (d : Nat), .int .u64 ((4294967295 : Nat) : Int)] 22)
    have hM := min64_any (some ⟨w.heap.size, 0, none⟩) 2 [d, 4294967295] (Nat.le_refl _) (by decide) _ (Ns.two (k := .u64) w d 4294967295 22)
    rw [lst_two, ← HE.out] at hM
    have HM := Lib.hid hM
    have HB := Lib.hid hb1
    clear g hM hb1
    go_enter Try.func12, Try.ntmps12
    go_wp2_with fail
    refine (HL.out _).mono ?_
    rintro _ _ ⟨rfl, rfl⟩
    go_wp2_with fail
    refine (HM.out).mono ?_
    rintro _ w2 ⟨rfl, hb⟩
    have HB2 := Lib.hid (HB.out.trans (hb.mono HB.out.size))
    clear hb
    go_wp2_with fail
    go_ret
    exact ⟨rfl, HB2.out⟩

set_option maxHeartbeats 1000000 in
theorem clamp_any (a m : Nat) (h1 : a < 4294967296) (h2 : m < 4294967296) (w : World) :
    Calls Try.prog 15 #[.int .u32 (a : Nat), .int .u32 (m : Nat)] w fun x w' => x = .returned (.int .u32 (clpN a m : Nat)) ∧ Below w.heap.size w w' := by
  by_cases hc : 2147483648 ≤ a
  · have hE : clpN a m = 0 := if_pos hc
    rw [hE]
    have g : 2147483647 < a := by omega
    clear hE
    go_enter Try.func15, Try.ntmps15
    go_wp2_with fail
    go_ret
    exact ⟨rfl, Below.refl _ _⟩
  · have HE := Lib.hid (clpN_min (a := a) (m := m) (by omega))
    have g : ¬ 2147483647 < a := by omega
    generalize clpN a m = y at *
    have hb1 := (Below.refl w.heap.size w).alloc (Nat.le_refl _) (Obj.cells #[.int .u32 (a : Nat), .int .u32 (m : Nat)] 23)
    have hM := min32_any (some ⟨w.heap.size, 0, none⟩) 2 [a, m] (Nat.le_refl _) (by decide) _ (Ns.two (k := .u32) w a m 23)
    rw [lst_two, ← HE.out] at hM
    have HM := Lib.hid hM
    have HB := Lib.hid hb1
    clear hM hb1
    go_enter Try.func15, Try.ntmps15
    go_wp2_with fail
    refine (HM.out).mono ?_
    rintro _ w2 ⟨rfl, hb⟩
    have HB2 := Lib.hid (HB.out.trans (hb.mono HB.out.size))
    clear hb
    go_wp2_with fail
    go_ret
    exact ⟨rfl, HB2.out⟩

set_option maxHeartbeats 400000 in
theorem funtil_any (now a : Nat) (h1 : now < 18446744073709551616) (h2 : a < 4294967296) (w : World) :
    Calls Try.prog 11 #[.int .u64 (now : Nat), .int .u32 (a : Nat)] w fun e w' => e = .returned (.int .u64 (untN now a : Nat)) ∧ w' = w := by
  by_cases hc : now + a < 18446744073709551616
  · have e : untN now a = now + a := if_pos hc
    rw [e]
    clear e
    have g : decide ((now : Int) + (a : Int) < (now : Int)) = false := by simp; omega
    go_enter Try.func11, Try.ntmps11
    go_wp2_with fail
    go_ret
    exact ⟨by first | rfl | simp, rfl⟩
  · have e : untN now a = 18446744073709551615 := if_neg hc
    rw [e]
    clear e
    obtain ⟨s, hs⟩ : ∃ s : Nat, s = now + a - 18446744073709551616 := ⟨_, rfl⟩
    have hw : IntKind.u64.wrap ((now : Int) + (a : Int)) = (s : Int) := by
      simp [IntKind.wrap, IntKind.bits, IntKind.signed]
      omega
    have g : s < now := by omega
    clear hs hc
    go_enter Try.func11, Try.ntmps11
    go_wp2_with fail
    go_ret
    exact ⟨rfl, rfl⟩

set_option maxHeartbeats 1000000 in
theorem fleft_any (e n : Nat) (h1 : e < 18446744073709551616) (h2 : n < 18446744073709551616) (w : World) :
    Calls Try.prog 13 #[.int .u64 (e : Nat), .int .u64 (n : Nat)] w fun x w' => x = .returned (.int .u32 (lefN e n : Nat)) ∧ w' = w := by
  by_cases hc : e ≤ n
  · have hE : lefN e n = 0 := if_pos hc
    rw [hE]
    clear hE
    go_enter Try.func13, Try.ntmps13
    go_wp2_with fail
    go_ret
    exact ⟨rfl, rfl⟩
  · have hsub : (e : Int) - (n : Int) = ((e - n : Nat) : Int) := by omega
    have hd : e - n < 18446744073709551616 := by omega
    have hE : lefN e n = if 4294967295 < e - n then 4294967295 else e - n := if_neg hc
    have HE := Lib.hid hE
    generalize lefN e n = y at *
    generalize e - n = d at *
    by_cases hk : 4294967295 < d
    · have hy : y = 4294967295 := by rw [hE, if_pos hk]
      have HY := Lib.hid hy
      clear hy hE HE
      go_enter Try.func13, Try.ntmps13
      go_wp2_with fail
      go_ret
      exact ⟨by rw [HY.out]; rfl, rfl⟩
    · have hy : y = d := by rw [hE, if_neg hk]
      have HY := Lib.hid hy
      clear hy hE HE
      go_enter Try.func13, Try.ntmps13
      go_wp2_with fail
      go_ret
      exact ⟨by rw [HY.out]; rfl, rfl⟩

set_option maxHeartbeats 1000000 in
theorem fclamp_any (a m : Nat) (h1 : a < 4294967296) (h2 : m < 4294967296) (w : World) :
    Calls Try.prog 16 #[.int .u32 (a : Nat), .int .u32 (m : Nat)] w fun x w' => x = .returned (.int .u32 (clpN a m : Nat)) ∧ w' = w := by
  by_cases hc : 2147483648 ≤ a
  · have hE : clpN a m = 0 := if_pos hc
    rw [hE]
    have g : a / 2147483648 = 1 := by omega
    clear hE
    go_enter Try.func16, Try.ntmps16
    go_wp2_with fail
    go_ret
    exact ⟨rfl, rfl⟩
  · have hE : clpN a m = if m < a then m else a := if_neg hc
    have g : a / 2147483648 = 0 := by omega
    generalize clpN a m = y at *
    by_cases hk : m < a
    · have hy : y = m := by rw [hE, if_pos hk]
      have HY := Lib.hid hy
      clear hy hE
      go_enter Try.func16, Try.ntmps16
      go_wp2_with fail
      go_ret
      exact ⟨by rw [HY.out]; rfl, rfl⟩
    · have hy : y = a := by rw [hE, if_neg hk]
      have HY := Lib.hid hy
      clear hy hE
      go_enter Try.func16, Try.ntmps16
      go_wp2_with fail
      go_ret
      exact ⟨by rw [HY.out]; rfl, rfl⟩

set_option maxHeartbeats 1000000 in
theorem shown_any (w : World) : Calls Try.prog 9 #[] w fun x w' => x = .returned (.bool true) ∧ Below w.heap.size w w' := by
  have c1 := fun w => until_any 18446744073709551614 5 (by decide) (by decide) w
  have c2 := fun w => until_any 7 5 (by decide) (by decide) w
  have c3 := fun w => left_any 12 7 (by decide) (by decide) w
  have c4 := fun w => live_any 12 7 w
  rw [show untN 18446744073709551614 5 = 18446744073709551615 by decide] at c1
  rw [show untN 7 5 = 12 by decide] at c2
  rw [show lefN 12 7 = 5 by decide] at c3
  rw [show decide (7 < 12) = true by decide] at c4
  have H1 := Lib.hid c1
  have H2 := Lib.hid c2
  have H3 := Lib.hid c3
  have H4 := Lib.hid c4
  clear c1 c2 c3 c4
  go_enter Try.func9, Try.ntmps9
  go_wp2_with fail
  refine (H1.out _).mono ?_
  rintro _ _ ⟨rfl, rfl⟩
  go_wp2_with fail
  refine (H2.out _).mono ?_
  rintro _ _ ⟨rfl, rfl⟩
  go_wp2_with fail
  refine (H3.out _).mono ?_
  rintro _ w2 ⟨rfl, hb⟩
  have HB := Lib.hid hb
  clear hb
  go_wp2_with fail
  refine (H4.out _).mono ?_
  rintro _ _ ⟨rfl, rfl⟩
  go_wp2_with fail
  go_ret
  exact ⟨rfl, HB.out⟩

theorem nat_u32 {n : Int} (h : (Lit.int .u32 n).wf = true) : ∃ k : Nat, n = k ∧ k < 4294967296 := by
  simp [Lit.wf, IntKind.min, IntKind.max, IntKind.signed, IntKind.bits] at h
  exact ⟨n.toNat, by omega, by omega⟩
theorem nat_u64 {n : Int} (h : (Lit.int .u64 n).wf = true) : ∃ k : Nat, n = k ∧ k < 18446744073709551616 := by
  simp [Lit.wf, IntKind.min, IntKind.max, IntKind.signed, IntKind.bits] at h
  exact ⟨n.toNat, by omega, by omega⟩
end Go.Proofs.Ytomhfjpjdgecpaa
