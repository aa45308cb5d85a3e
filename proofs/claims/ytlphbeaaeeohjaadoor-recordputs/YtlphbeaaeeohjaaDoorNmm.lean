/- Plain mathematics of names: a string has the structure of a name if it is its labels, each behind its length, and a zero byte. -/
import Derived.Test.YtlphbeaaeeohjaaDoorNma
import Derived.Laws.Strings
namespace Go.Proofs.YtlphbeaaeeohjaaDoor
open Go

/-- A label with its length ahead of it. -/
def enc1 (l : List UInt8) : List UInt8 := UInt8.ofNat l.length :: l
/-- The bytes of some labels, and a zero byte. -/
def wire (ls : List (List UInt8)) : List UInt8 := ls.flatMap enc1 ++ [0]
def okLb (l : List UInt8) : Prop := 1 ≤ l.length ∧ l.length ≤ 63
/-- A label's bytes. -/
def lab {s : ByteArray} (x : At s) : List UInt8 := (s.extract (x.1 + 1) (nxt s x.1)).data.toList
/-- The labels at the front of a string. -/
def labs (s : ByteArray) : List (List UInt8) := (labsFrom s 0).map lab

theorem extract_list (s : ByteArray) (a b : Nat) : (s.extract a b).data.toList = (s.data.toList.take b).drop a := by
  rw [ByteArray.data_extract, Array.toList_extract]
  simp only [List.extract]
  rw [List.drop_take]
theorem ba_ext {a b : ByteArray} (h : a.data.toList = b.data.toList) : a = b := by
  apply ByteArray.ext
  exact Array.toList_inj.1 h
theorem ba_len (s : ByteArray) : s.data.toList.length = s.size := by simp
theorem lsz_drop {s : ByteArray} {p : Nat} (h : p < s.size) : s.data.toList.drop p = UInt8.ofNat (lsz s p) :: s.data.toList.drop (p + 1) := by
  have hl : p < s.data.toList.length := by rw [ba_len]; exact h
  rw [List.drop_eq_getElem_cons hl, lsz_eq h]
  congr 1
  have : s[p] = s.data.toList[p] := by rfl
  rw [this]
  simp

theorem lab_len {s : ByteArray} (x : At s) : (lab x).length = lsz s x.1 := by
  have h := isL_iff.1 x.2
  unfold lab
  rw [extract_list, List.length_drop, List.length_take, ba_len]
  unfold nxt at *
  omega
theorem lab_ok {s : ByteArray} (x : At s) : okLb (lab x) := by
  have h := isL_iff.1 x.2
  unfold okLb
  rw [lab_len]
  omega
theorem lab_enc {s : ByteArray} (x : At s) : s.data.toList.drop x.1 = enc1 (lab x) ++ s.data.toList.drop (nxt s x.1) := by
  have h := isL_iff.1 x.2
  rw [lsz_drop h.1]
  unfold enc1
  rw [lab_len]
  unfold lab
  rw [extract_list]
  simp only [List.cons_append, List.cons.injEq, true_and]
  rw [List.drop_take]
  have e : s.data.toList.drop (nxt s x.1) = (s.data.toList.drop (x.1 + 1)).drop (nxt s x.1 - (x.1 + 1)) := by
    rw [List.drop_drop]
    congr 1
    unfold nxt
    omega
  rw [e, List.take_append_drop]

theorem split_from (s : ByteArray) : ∀ (m p : Nat), s.size - p ≤ m → s.data.toList.drop p = ((labsFrom s p).map lab).flatMap enc1 ++ s.data.toList.drop (endFrom s p) := by
  intro m
  induction m with
  | zero =>
    intro p h
    have hn : ¬ isL s p = true := fun h' => by have := isL_iff.1 h'; omega
    rw [labsFrom_nil hn, endFrom_nil hn]; rfl
  | succ m ih =>
    intro p h
    by_cases hl : isL s p = true
    · have h' := isL_iff.1 hl
      rw [labsFrom_cons hl, endFrom_cons hl, lab_enc ⟨p, hl⟩, List.map_cons, List.flatMap_cons, List.append_assoc, ← ih (nxt s p) (by unfold nxt at *; omega)]
    · rw [labsFrom_nil hl, endFrom_nil hl]; rfl

theorem endZ_iff (s : ByteArray) : endZ s = true ↔ s.data.toList.drop (endFrom s 0) = [0] := by
  unfold endZ
  rw [ByteArray.toList_eq, extract_list, ← ba_len, List.take_length]
  simp
theorem endZ_wire {s : ByteArray} (h : endZ s = true) : s.data.toList = wire (labs s) ∧ ∀ l ∈ labs s, okLb l := by
  have h1 := split_from s s.size 0 (by omega)
  rw [(endZ_iff s).1 h] at h1
  refine ⟨by simpa [wire, labs] using h1, ?_⟩
  intro l hl
  obtain ⟨x, _, rfl⟩ := List.mem_map.1 hl
  exact lab_ok x

theorem wire_from (s : ByteArray) : ∀ (ls : List (List UInt8)) (p : Nat), (∀ l ∈ ls, okLb l) → s.data.toList.drop p = ls.flatMap enc1 ++ [0] → (labsFrom s p).map lab = ls ∧ s.data.toList.drop (endFrom s p) = [0] := by
  intro ls
  induction ls with
  | nil =>
    intro p _ h
    simp at h
    have hlt : p < s.size := by
      rcases Nat.lt_or_ge p s.size with h1 | h1
      · exact h1
      · rw [List.drop_of_length_le (by rw [ba_len]; exact h1)] at h; cases h
    have h2 := lsz_drop hlt
    rw [h] at h2
    have h3 : UInt8.ofNat (lsz s p) = 0 := (List.cons.inj h2).1.symm
    have h4 : lsz s p = 0 := by
      rw [lsz_eq hlt] at h3 ⊢
      rw [UInt8.ofNat_toNat] at h3
      rw [h3]; rfl
    have hn : ¬ isL s p = true := fun h' => (isL_iff.1 h').2.1 h4
    rw [labsFrom_nil hn, endFrom_nil hn]
    exact ⟨rfl, h⟩
  | cons l ls ih =>
    intro p hok h
    have hl := hok l (by simp)
    unfold okLb at hl
    rw [List.flatMap_cons] at h
    have hlen := congrArg List.length h
    rw [List.length_drop, ba_len] at hlen
    simp [enc1] at hlen
    have hlt : p < s.size := by omega
    have h2 := lsz_drop hlt
    rw [h] at h2
    unfold enc1 at h2
    simp only [List.cons_append] at h2
    obtain ⟨h3, h5⟩ := List.cons.inj h2
    have h4 : lsz s p = l.length := by
      have h6 := congrArg UInt8.toNat h3
      have h7 : lsz s p ≤ 255 := by rw [lsz_eq hlt]; have := s[p].toNat_lt; omega
      rw [UInt8.toNat_ofNat', UInt8.toNat_ofNat'] at h6
      omega
    have hn : nxt s p = p + 1 + l.length := by unfold nxt; rw [h4]
    have hL : isL s p = true := by
      rw [isL_iff, hn, h4]
      omega
    have hlab : lab ⟨p, hL⟩ = l := by
      unfold lab
      rw [extract_list]
      simp only [hn]
      rw [List.drop_take, ← h5]
      rw [show p + 1 + l.length - (p + 1) = l.length by omega, List.append_assoc, List.take_left']
      rfl
    have hrest : s.data.toList.drop (nxt s p) = ls.flatMap enc1 ++ [0] := by
      rw [hn, ← List.drop_drop, ← h5, List.append_assoc, List.drop_left']
      all_goals rfl
    have := ih (nxt s p) (fun l' hl' => hok l' (List.mem_cons_of_mem _ hl')) hrest
    rw [labsFrom_cons hL, endFrom_cons hL, List.map_cons, hlab, this.1]
    exact ⟨rfl, this.2⟩
theorem wire_endZ {s : ByteArray} {ls : List (List UInt8)} (hok : ∀ l ∈ ls, okLb l) (h : s.data.toList = wire ls) : endZ s = true ∧ labs s = ls := by
  have := wire_from s ls 0 hok (by simpa [wire] using h)
  exact ⟨(endZ_iff s).2 this.2, this.1⟩
theorem wire_inj {a b : List (List UInt8)} (ha : ∀ l ∈ a, okLb l) (hb : ∀ l ∈ b, okLb l) (h : wire a = wire b) : a = b := by
  have h1 : (ByteArray.mk (wire a).toArray).data.toList = wire a := by simp
  rw [← (wire_endZ ha h1).2]
  exact (wire_endZ hb (h1.trans h)).2
end Go.Proofs.YtlphbeaaeeohjaaDoor
