/- The document's example; the laws of ranks. -/
import Derived.Test.YtbcgkjfhfegeaaaDoorRka
namespace Go.Proofs.YtbcgkjfhfegeaaaDoor
open Go.RowKit
set_option linter.unusedVariables false

theorem blk_cell {w : World} {b : Nat} {cs : Array Value} {t : TypeId} (h : w.heap[b]? = some (.cells cs t (0, 0))) (i : Nat) : w.cell? ⟨b, i, none⟩ = cs[i]? := cell_of_row w b i cs t (0, 0) h
/-- An entry lies in a block. -/
def Eb (w : World) (b : Nat) (n : ByteArray) (t c : Nat) (sl : Value) (rc rk : Int) (ex : Nat) : Prop := w.heap[b]? = some (.cells #[.string n, .int .u16 (t : Nat), .int .u16 (c : Nat), sl, .int .i64 rc, .int .i64 rk, .int .u64 (ex : Nat)] 30 (0, 0))
theorem Eb.lt {w : World} {b : Nat} {n : ByteArray} {t c : Nat} {sl : Value} {rc rk : Int} {ex : Nat} (h : Eb w b n t c sl rc rk ex) : b < w.heap.size := (Array.getElem?_eq_some_iff.1 h).1
theorem Eb.below {w w' : World} {B b : Nat} {n : ByteArray} {t c : Nat} {sl : Value} {rc rk : Int} {ex : Nat} (h : Eb w b n t c sl rc rk ex) (hB : b < B) (hb : Below B w w') : Eb w' b n t c sl rc rk ex := (hb.block b hB).trans h
theorem Eb.cells {w : World} {b : Nat} {n : ByteArray} {t c : Nat} {sl : Value} {rc rk : Int} {ex : Nat} (h : Eb w b n t c sl rc rk ex) :
    w.cell? ⟨b, 0, none⟩ = some (.string n) ∧ w.cell? ⟨b, 1, none⟩ = some (.int .u16 (t : Nat)) ∧ w.cell? ⟨b, 2, none⟩ = some (.int .u16 (c : Nat)) ∧ w.cell? ⟨b, 3, none⟩ = some sl ∧ w.cell? ⟨b, 4, none⟩ = some (.int .i64 rc) ∧ w.cell? ⟨b, 5, none⟩ = some (.int .i64 rk) ∧ w.cell? ⟨b, 6, none⟩ = some (.int .u64 (ex : Nat)) :=
  ⟨blk_cell h 0, blk_cell h 1, blk_cell h 2, blk_cell h 3, blk_cell h 4, blk_cell h 5, blk_cell h 6⟩
theorem Eb.new (w : World) (n : ByteArray) (t c : Nat) (sl : Value) (rc rk : Int) (ex : Nat) :
    Eb (w.alloc (.cells #[.string n, .int .u16 (t : Nat), .int .u16 (c : Nat), sl, .int .i64 rc, .int .i64 rk, .int .u64 (ex : Nat)] 30)) w.heap.size n t c sl rc rk ex := World.alloc_heap_new _ _

set_option maxHeartbeats 1000000 in
theorem shown_any (w : World) (hL : Lay w) :
    Calls Tryd.prog 7 #[] w fun x w' => x = .returned (.bool true) ∧ Below w.heap.size w w' := by
  have HL := Lib.hid hL
  have HP := Lib.hid (lay_lt hL)
  clear hL
  have HE := Lib.hid (Eb.new w ⟨#[]⟩ 0 0 (.slice none 0 0) 0 3 9)
  have HW := Lib.hid ((Below.refl w.heap.size w).alloc (Nat.le_refl _) (.cells #[.string ⟨#[]⟩, .int .u16 0, .int .u16 0, .slice none 0 0, .int .i64 0, .int .i64 3, .int .u64 9] 30))
  go_enter Tryd.func7, Tryd.ntmps7
  go_wp2_with fail
  generalize hw1 : w.alloc (.cells #[.string ⟨#[]⟩, .int .u16 0, .int .u16 0, .slice none 0 0, .int .i64 0, .int .i64 3, .int .u64 9] 30) = w1
  have HE1 : Hid (Eb w1 w.heap.size ⟨#[]⟩ 0 0 (.slice none 0 0) 0 3 9) := Lib.hid (hw1 ▸ HE.out)
  have HW1 : Hid (Below w.heap.size w w1) := Lib.hid (hw1 ▸ HW.out)
  clear hw1 HE HW
  refine (beats_any ⟨#[]⟩ ⟨#[]⟩ 0 0 0 0 (.slice none 0 0) (.slice none 0 0) 0 0 3 5 9 0 5 w1).mono ?_
  rintro _ w2 ⟨rfl, hb⟩
  have HW2 := Lib.hid (HW1.out.trans (hb.mono HW1.out.size))
  have HE2 := Lib.hid (HE1.out.below HE1.out.lt hb)
  clear hb HE1 HW1
  obtain ⟨c0, c1, c2, c3, c4, c5, c6⟩ := HE2.out.cells
  rw [show btN 3 9 5 5 = true by rfl]
  go_wp2_with fail
  refine (beats_any ⟨#[]⟩ ⟨#[]⟩ 0 0 0 0 (.slice none 0 0) (.slice none 0 0) 0 0 3 1 9 0 5 w2).mono ?_
  rintro _ w3 ⟨rfl, hb⟩
  have HW3 := Lib.hid (HW2.out.trans (hb.mono HW2.out.size))
  have HL3 := Lib.hid (HL.out.below HP.out HW3.out)
  clear hb HW2 c0 c1 c2 c3 c4 c5 c6
  rw [show btN 3 9 1 5 = false by rfl]
  go_wp2_with fail
  refine (name_any 3 w3 HL3.out).mono ?_
  rintro _ _ ⟨rfl, rfl⟩
  rw [show nmN 3 = ⟨#[97, 110, 115, 119, 101, 114]⟩ by rfl]
  go_wp2_with fail
  go_ret
  exact ⟨rfl, HW3.out⟩

set_option maxHeartbeats 2000000 in
/-- Two entries in memory. -/
theorem two_blocks (w : World) (n n' : ByteArray) (t c t' c' : Nat) (sl sl' : Value) (rc rc' rk rk' : Int) (ex ex' : Nat) :
    Eb ((w.alloc (.cells #[.string n, .int .u16 (t : Nat), .int .u16 (c : Nat), sl, .int .i64 rc, .int .i64 rk, .int .u64 (ex : Nat)] 30)).alloc (.cells #[.string n', .int .u16 (t' : Nat), .int .u16 (c' : Nat), sl', .int .i64 rc', .int .i64 rk', .int .u64 (ex' : Nat)] 30)) w.heap.size n t c sl rc rk ex ∧ Eb ((w.alloc (.cells #[.string n, .int .u16 (t : Nat), .int .u16 (c : Nat), sl, .int .i64 rc, .int .i64 rk, .int .u64 (ex : Nat)] 30)).alloc (.cells #[.string n', .int .u16 (t' : Nat), .int .u16 (c' : Nat), sl', .int .i64 rc', .int .i64 rk', .int .u64 (ex' : Nat)] 30)) (w.heap.size + 1) n' t' c' sl' rc' rk' ex' ∧ Below w.heap.size w ((w.alloc (.cells #[.string n, .int .u16 (t : Nat), .int .u16 (c : Nat), sl, .int .i64 rc, .int .i64 rk, .int .u64 (ex : Nat)] 30)).alloc (.cells #[.string n', .int .u16 (t' : Nat), .int .u16 (c' : Nat), sl', .int .i64 rc', .int .i64 rk', .int .u64 (ex' : Nat)] 30)) := by
  refine ⟨(Eb.new w n t c sl rc rk ex).below (Eb.new w n t c sl rc rk ex).lt ((Below.refl _ _).alloc (Nat.le_refl _) _), ?_, ((Below.refl w.heap.size w).alloc (Nat.le_refl _) _).alloc (by simp) _⟩
  have h := Eb.new (w.alloc (.cells #[.string n, .int .u16 (t : Nat), .int .u16 (c : Nat), sl, .int .i64 rc, .int .i64 rk, .int .u64 (ex : Nat)] 30)) n' t' c' sl' rc' rk' ex'
  have e : ∀ o, (w.alloc o).heap.size = w.heap.size + 1 := fun o => by simp
  rwa [e] at h

set_option maxRecDepth 100000 in
set_option maxHeartbeats 4000000 in
theorem never_walk (n n' : ByteArray) (t c t' c' : Nat) (sl sl' : Value) (rc rc' rk rk' : Int) (ex ex' now : Nat) (w : World) (hL : Lay w) :
    Calls Tryd.prog 5 #[entV n t c sl rc rk ex, entV n' t' c' sl' rc' rk' ex', .int .u64 (now : Nat)] w fun x w' => x = .returned (.bool true) ∧ Below w.heap.size w w' := by
  have HL := Lib.hid hL
  have HP := Lib.hid (lay_lt hL)
  clear hL
  have HT := Lib.hid (two_blocks w n n' t c t' c' sl sl' rc rc' rk rk' ex ex')
  unfold entV
  go_enter Tryd.func5, Tryd.ntmps5
  go_wp2_with fail
  generalize hw0 : (w.alloc (.cells #[.string n, .int .u16 (t : Nat), .int .u16 (c : Nat), sl, .int .i64 rc, .int .i64 rk, .int .u64 (ex : Nat)] 30)).alloc (.cells #[.string n', .int .u16 (t' : Nat), .int .u16 (c' : Nat), sl', .int .i64 rc', .int .i64 rk', .int .u64 (ex' : Nat)] 30) = w0
  rw [hw0] at HT
  clear hw0
  have HL0 := Lib.hid (HL.out.below HP.out HT.out.2.2)
  refine (shown_any w0 HL0.out).mono ?_
  rintro _ w1 ⟨rfl, hb⟩
  have HA1 := Lib.hid (HT.out.1.below HT.out.1.lt hb)
  have HB1 := Lib.hid (HT.out.2.1.below HT.out.2.1.lt hb)
  have HW1 := Lib.hid (HT.out.2.2.trans (hb.mono HT.out.2.2.size))
  clear hb HT HL0
  have a1 := HA1.out.cells
  have b1 := HB1.out.cells
  obtain ⟨_, _, _, _, _, _, _⟩ := a1
  obtain ⟨_, _, _, _, _, _, _⟩ := b1
  go_wp2_with fail
  refine (beats_any n n' t c t' c' sl sl' rc rc' rk rk' ex ex' now w1).mono ?_
  rintro _ w2 ⟨rfl, hb⟩
  have HA2 := Lib.hid (HA1.out.below HA1.out.lt hb)
  have HB2 := Lib.hid (HB1.out.below HB1.out.lt hb)
  have HW2 := Lib.hid (HW1.out.trans (hb.mono HW1.out.size))
  clear hb HA1 HB1 HW1
  have a2 := HA2.out.cells
  have b2 := HB2.out.cells
  obtain ⟨_, _, _, _, _, _, _⟩ := a2
  obtain ⟨_, _, _, _, _, _, _⟩ := b2
  obtain ⟨x, hx⟩ : ∃ x, btN rk ex rk' now = x := ⟨_, rfl⟩
  rw [hx]
  have HX := Lib.hid hx
  clear hx
  go_wp2_with fail
  refine (beats_any n' n t' c' t c sl' sl rc' rc rk' rk ex' ex now w2).mono ?_
  rintro _ w3 ⟨rfl, hb⟩
  have HA3 := Lib.hid (HA2.out.below HA2.out.lt hb)
  have HB3 := Lib.hid (HB2.out.below HB2.out.lt hb)
  have HW3 := Lib.hid (HW2.out.trans (hb.mono HW2.out.size))
  clear hb HA2 HB2 HW2
  have a3 := HA3.out.cells
  have b3 := HB3.out.cells
  obtain ⟨_, _, _, _, _, _, _⟩ := a3
  obtain ⟨_, _, _, _, _, _, _⟩ := b3
  obtain ⟨y, hy⟩ : ∃ y, btN rk' ex' rk now = y := ⟨_, rfl⟩
  rw [hy]
  have HY := Lib.hid hy
  clear hy
  by_cases h1 : now < ex
  · have d1 : decide (now < ex) = true := by simpa using h1
    have d2 : decide (ex ≤ now) = false := by simpa using h1
    by_cases h2 : now < ex'
    · have d3 : decide (now < ex') = true := by simpa using h2
      by_cases h3 : rk ≤ rk'
      · have d4 : decide (rk ≤ rk') = true := by simpa using h3
        obtain rfl : x = true := by rw [← HX.out]; simp [btN, h3]
        by_cases h4 : rk' ≤ rk
        · obtain rfl : rk = rk' := by omega
          obtain rfl : y = true := by rw [← HY.out]; simp [btN]
          clear h1 h2 h3 h4
          go_wp2_with fail
          go_ret
          exact ⟨rfl, HW3.out⟩
        · have d5 : (rk == rk') = false := by simp; omega
          obtain rfl : y = false := by rw [← HY.out]; simp [btN, h2]; omega
          clear h1 h2 h3 h4
          go_wp2_with fail
          go_ret
          exact ⟨rfl, HW3.out⟩
      · have d4 : decide (rk ≤ rk') = false := by simpa using h3
        have d5 : (rk == rk') = false := by simp; omega
        obtain rfl : x = false := by rw [← HX.out]; simp [btN, h1]; omega
        obtain rfl : y = true := by rw [← HY.out]; simp [btN]; omega
        clear h1 h2 h3
        go_wp2_with fail
        go_ret
        exact ⟨rfl, HW3.out⟩
    · have d3 : decide (now < ex') = false := by simpa using h2
      by_cases h3 : rk ≤ rk'
      · have d4 : decide (rk ≤ rk') = true := by simpa using h3
        obtain rfl : x = true := by rw [← HX.out]; simp [btN, h3]
        clear h1 h2 h3
        go_wp2_with fail
        go_ret
        exact ⟨rfl, HW3.out⟩
      · have d4 : decide (rk ≤ rk') = false := by simpa using h3
        obtain rfl : x = false := by rw [← HX.out]; simp [btN, h1]; omega
        clear h1 h2 h3
        go_wp2_with fail
        go_ret
        exact ⟨rfl, HW3.out⟩
  · have d1 : decide (now < ex) = false := by simpa using h1
    have d2 : decide (ex ≤ now) = true := by simpa using h1
    obtain rfl : x = true := by rw [← HX.out]; simp [btN, h1]
    clear h1
    go_wp2_with fail
    go_ret
    exact ⟨rfl, HW3.out⟩
end Go.Proofs.YtbcgkjfhfegeaaaDoor
