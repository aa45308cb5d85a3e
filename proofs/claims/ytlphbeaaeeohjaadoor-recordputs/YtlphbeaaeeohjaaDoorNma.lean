/- Plain mathematics of domain names: the labels at the front of a string, and where they end. -/
import Derived.Attr
namespace Go.Proofs.YtlphbeaaeeohjaaDoor

/-- The length byte at an offset. -/
def lsz (s : ByteArray) (p : Nat) : Nat := if h : p < s.size then s[p].toNat else 0
def nxt (s : ByteArray) (p : Nat) : Nat := p + 1 + lsz s p
/-- Does a label begin at an offset? -/
def isL (s : ByteArray) (p : Nat) : Bool := decide (p < s.size ∧ lsz s p ≠ 0 ∧ lsz s p ≤ 63 ∧ nxt s p ≤ s.size)
theorem isL_iff {s : ByteArray} {p : Nat} : isL s p = true ↔ p < s.size ∧ lsz s p ≠ 0 ∧ lsz s p ≤ 63 ∧ nxt s p ≤ s.size := by simp [isL]
theorem lsz_eq {s : ByteArray} {p : Nat} (h : p < s.size) : lsz s p = s[p].toNat := dif_pos h

/-- An offset at which a label begins. -/
abbrev At (s : ByteArray) := { p : Nat // isL s p = true }
theorem At.lt {s : ByteArray} (x : At s) : x.1 + 1 < nxt s x.1 ∧ nxt s x.1 ≤ s.size ∧ nxt s x.1 ≤ x.1 + 64 := by
  have h := isL_iff.1 x.2
  unfold nxt at *
  omega

/-- The labels from an offset on. -/
def labsFrom (s : ByteArray) (p : Nat) : List (At s) := if h : isL s p = true then ⟨p, h⟩ :: labsFrom s (nxt s p) else []
termination_by s.size - p
decreasing_by
  have h' := isL_iff.1 h
  unfold nxt at *
  omega
/-- The first offset at which no label begins. -/
def endFrom (s : ByteArray) (p : Nat) : Nat := if isL s p = true then endFrom s (nxt s p) else p
termination_by s.size - p
decreasing_by
  rename_i h
  have h' := isL_iff.1 h
  unfold nxt at *
  omega
theorem labsFrom_cons {s : ByteArray} {p : Nat} (h : isL s p = true) : labsFrom s p = ⟨p, h⟩ :: labsFrom s (nxt s p) := by rw [labsFrom, dif_pos h]
theorem labsFrom_nil {s : ByteArray} {p : Nat} (h : ¬ isL s p = true) : labsFrom s p = [] := by rw [labsFrom, dif_neg h]
theorem endFrom_cons {s : ByteArray} {p : Nat} (h : isL s p = true) : endFrom s p = endFrom s (nxt s p) := by rw [endFrom, if_pos h]
theorem endFrom_nil {s : ByteArray} {p : Nat} (h : ¬ isL s p = true) : endFrom s p = p := by rw [endFrom, if_neg h]

theorem labsFrom_len (s : ByteArray) : ∀ (m p : Nat), s.size - p ≤ m → (labsFrom s p).length ≤ m := by
  intro m
  induction m with
  | zero =>
    intro p h
    have : ¬ isL s p = true := fun h' => by have := isL_iff.1 h'; omega
    rw [labsFrom_nil this]; simp
  | succ m ih =>
    intro p h
    by_cases hl : isL s p = true
    · have h' := isL_iff.1 hl
      rw [labsFrom_cons hl]
      have := ih (nxt s p) (by unfold nxt at *; omega)
      simp; omega
    · rw [labsFrom_nil hl]; simp
/-- The offset behind the last one of some labels. -/
def endOf {s : ByteArray} (q : Nat) (l : List (At s)) : Nat := match l.getLast? with | none => q | some x => nxt s x.1
theorem endOf_nil {s : ByteArray} (q : Nat) : endOf q ([] : List (At s)) = q := rfl
theorem endOf_snoc {s : ByteArray} (q : Nat) (l : List (At s)) (x : At s) : endOf q (l ++ [x]) = nxt s x.1 := by simp [endOf]
theorem endOf_cons {s : ByteArray} (q : Nat) (l : List (At s)) (x : At s) : endOf q (x :: l) = endOf (nxt s x.1) l := by
  cases l with
  | nil => simp [endOf]
  | cons y l => simp [endOf, List.getLast?_cons]
theorem endOf_le {s : ByteArray} (l : List (At s)) : endOf 0 l ≤ s.size := by
  unfold endOf
  split
  · exact Nat.zero_le _
  · rename_i x _; exact x.lt.2.1
theorem endOf_all (s : ByteArray) : ∀ (m p : Nat), s.size - p ≤ m → endOf p (labsFrom s p) = endFrom s p := by
  intro m
  induction m with
  | zero =>
    intro p h
    have hn : ¬ isL s p = true := fun h' => by have := isL_iff.1 h'; omega
    rw [labsFrom_nil hn, endFrom_nil hn, endOf_nil]
  | succ m ih =>
    intro p h
    by_cases hl : isL s p = true
    · have h' := isL_iff.1 hl
      rw [labsFrom_cons hl, endFrom_cons hl, endOf_cons]
      exact ih (nxt s p) (by unfold nxt at *; omega)
    · rw [labsFrom_nil hl, endFrom_nil hl, endOf_nil]
theorem endOf_labs (s : ByteArray) : endOf 0 (labsFrom s 0) = endFrom s 0 := endOf_all s s.size 0 (by omega)
theorem endFrom_le (s : ByteArray) : endFrom s 0 ≤ s.size := by rw [← endOf_labs]; exact endOf_le _

/-- What is behind the labels is one zero byte. -/
def endZ (s : ByteArray) : Bool := (s.extract (endFrom s 0) s.size).toList == [0]
/-- name.count's results. -/
def cnt (s : ByteArray) : Nat := if endZ s = true ∧ s.size ≤ 255 then (labsFrom s 0).length else 0
def cerr (s : ByteArray) : Nat := if endZ s = true then (if s.size ≤ 255 then 0 else 3) else 2
theorem cnt_yes {s : ByteArray} (h : endZ s = true) (h2 : s.size ≤ 255) : cnt s = (labsFrom s 0).length ∧ cerr s = 0 := by simp [cnt, cerr, h, h2]
theorem cnt_long {s : ByteArray} (h : endZ s = true) (h2 : 255 < s.size) : cnt s = 0 ∧ cerr s = 3 := by simp [cnt, cerr, h, show ¬ s.size ≤ 255 by omega]
theorem cnt_form {s : ByteArray} (h : endZ s = false) : cnt s = 0 ∧ cerr s = 2 := by simp [cnt, cerr, h]
end Go.Proofs.YtlphbeaaeeohjaaDoor
