/- Plain mathematics of record data: the pieces of an encoding, type by type; what the program's parts say is what the document's words say. -/
import Derived.Test.YtlphbeaaeeohjaaDoorRpu
import Derived.Test.YtlphbeaaeeohjaaDoorRdb
namespace Go.Proofs.YtlphbeaaeeohjaaDoor
open Go

theorem ext_nil (s : ByteArray) (n : Nat) : s.extract n n = ⟨#[]⟩ := by
  apply ba_ext
  rw [extract_list, List.drop_take]
  simp
/-- No bytes. -/
def Zp : ByteArray × Bool := (⟨#[]⟩, false)
theorem rdP_name (s : ByteArray) (p e : Nat) : rdP s p e (-1) = (nm1 s p).map fun r => ((⟨r.1.toArray⟩, true), r.2) := by
  have e1 : rdE s p e (-1) = (tkE s p : Nat) := rfl
  have e2 : rdB s p e (-1) = tkS s p := rfl
  have e3 : rdX s p e (-1) = (tkX s p : Nat) := rfl
  have e4 : rdN (-1) = true := rfl
  unfold rdP
  rw [e1, e2, e3, e4]
  have hN : tkN s p = (tkB s p p).filter fun r => decide (r.1.length ≤ 255) := by unfold tkN; rw [if_pos (by omega)]; rfl
  unfold nm1 tkE tkS tkX
  rw [hN]
  cases (tkB s p p).filter fun r => decide (r.1.length ≤ 255) with
  | none => rfl
  | some r => rfl
theorem rdP_num (s : ByteArray) (p e n : Nat) : rdP s p e (n : Int) = if p + n ≤ s.size then some ((s.extract p (p + n), false), p + n) else none := by
  have h1 : ¬ (n : Int) = -1 := by omega
  have h2 : ¬ (n : Int) = -2 := by omega
  have h3 : ¬ (n : Int) = -3 := by omega
  have e1 : rdB s p e n = Oc.sx s p n := by unfold rdB rdM; rw [if_neg h1, if_neg h2, if_neg h3]
  have e2 : rdX s p e n = Oc.so s p n := by unfold rdX rdM; rw [if_neg h1, if_neg h2, if_neg h3]
  have e3 : rdE s p e n = Oc.se s p n := by unfold rdE rdM; rw [if_neg h1, if_neg h2, if_neg h3]
  have e4 : rdN n = false := by unfold rdN; simp [h1]
  unfold rdP
  rw [e1, e2, e3, e4]
  unfold Oc.se Oc.sx Oc.so
  by_cases h : p + n ≤ s.size
  · have hok : Oc.okS s p n := ⟨by omega, by omega, by omega⟩
    rw [if_pos h, if_pos hok, if_pos rfl, if_pos hok, if_pos hok]
    rfl
  · have hok : ¬ Oc.okS s p n := fun x => h (by have := x.2.2; omega)
    rw [if_neg h, if_neg hok, if_neg (by decide)]
theorem rdP_all (s : ByteArray) {p e : Nat} (h : p ≤ e) (he : e ≤ s.size) : rdP s p e (-3) = some ((s.extract p e, false), e) := by
  have e0 : rdM p e (-3) = ((e - p : Nat) : Int) := by show (e : Int) - p = _; omega
  have e1 : rdB s p e (-3) = Oc.sx s p (rdM p e (-3)) := rfl
  have e2 : rdX s p e (-3) = Oc.so s p (rdM p e (-3)) := rfl
  have e3 : rdE s p e (-3) = Oc.se s p (rdM p e (-3)) := rfl
  have e4 : rdN (-3) = false := rfl
  unfold rdP
  rw [e1, e2, e3, e4, e0]
  unfold Oc.se Oc.sx Oc.so
  have hok : Oc.okS s p ((e - p : Nat) : Int) := ⟨by omega, by omega, by omega⟩
  rw [if_pos hok, if_pos rfl, if_pos hok, if_pos hok, show ((p : Int) + ((e - p : Nat) : Int)).toNat = e by omega]
  rfl
theorem rdP_txt (s : ByteArray) (p e : Nat) : rdP s p e (-2) = (txG s p e).map fun q => ((s.extract p q, false), q) := by
  have e1 : rdE s p e (-2) = (rsE s p e : Nat) := rfl
  have e2 : rdB s p e (-2) = rsS s p e := rfl
  have e3 : rdX s p e (-2) = (rsX s p e : Nat) := rfl
  have e4 : rdN (-2) = false := rfl
  unfold rdP
  rw [e1, e2, e3, e4]
  unfold rsE rsS rsX
  cases txG s p e with
  | none => rfl
  | some q => rfl
theorem rdP_zero (s : ByteArray) {n : Nat} (e : Nat) (h : n ≤ s.size) : rdP s n e 0 = some (Zp, n) := by
  have := rdP_num s n e 0
  rw [Nat.add_zero, if_pos h, ext_nil] at this
  exact this
theorem spl3_z (s : ByteArray) {n : Nat} (e : Nat) (h : n ≤ s.size) : spl3 s e n [0] = some ([Zp], n) := by rw [spl3, rdP_zero s e h]; rfl
theorem spl3_zz (s : ByteArray) {n : Nat} (e : Nat) (h : n ≤ s.size) : spl3 s e n [0, 0] = some ([Zp, Zp], n) := by rw [spl3, rdP_zero s e h]; simp only; rw [spl3_z s e h]; rfl
theorem spl_of {s : ByteArray} {p e k : Nat} (h : e ≤ p + 65535) : spl s p e k = (spl3 s e p (lays k)).bind fun r => if r.2 = e then some r.1 else none := by
  unfold spl
  rw [if_neg (by omega)]
  cases spl3 s e p (lays k) <;> rfl
theorem spl_N {s : ByteArray} {p e k : Nat} (h : e ≤ p + 65535) (hk : isN k = true) : spl s p e k = (nm1 s p).bind fun r => if r.2 = e then some [(⟨r.1.toArray⟩, true), Zp, Zp] else none := by
  have hl : lays k = [-1, 0, 0] := by
    unfold isN at hk
    rw [decide_eq_true_iff] at hk
    unfold lays lay
    rw [if_neg (by omega), if_pos hk]
  rw [spl_of h, hl, spl3, rdP_name]
  cases hn : nm1 s p with
  | none => rfl
  | some r =>
    simp only [Option.map_some, Option.bind_some]
    rw [spl3_zz s e (nm1_is hn).2.2.1]
    simp
theorem spl_M {s : ByteArray} {p e : Nat} (h : e ≤ p + 65535) : spl s p e 15 = if p + 2 ≤ s.size then (nm1 s (p + 2)).bind fun r => if r.2 = e then some [(s.extract p (p + 2), false), (⟨r.1.toArray⟩, true), Zp] else none else none := by
  have hl : lays 15 = [((2 : Nat) : Int), -1, 0] := rfl
  rw [spl_of h, hl, spl3, rdP_num]
  by_cases h2 : p + 2 ≤ s.size
  · rw [if_pos h2, if_pos h2]
    simp only
    rw [spl3, rdP_name]
    cases hn : nm1 s (p + 2) with
    | none => rfl
    | some r =>
      simp only [Option.map_some, Option.bind_some]
      rw [spl3_z s e (nm1_is hn).2.2.1]
      simp
  · rw [if_neg h2, if_neg h2]
    rfl
theorem spl_S {s : ByteArray} {p e : Nat} (h : e ≤ p + 65535) : spl s p e 6 = (nm1 s p).bind fun r => (nm1 s r.2).bind fun q => if q.2 + 20 ≤ s.size ∧ q.2 + 20 = e then some [(⟨r.1.toArray⟩, true), (⟨q.1.toArray⟩, true), (s.extract q.2 (q.2 + 20), false)] else none := by
  have hl : lays 6 = [-1, -1, ((20 : Nat) : Int)] := rfl
  rw [spl_of h, hl, spl3, rdP_name]
  cases hn : nm1 s p with
  | none => rfl
  | some r =>
    simp only [Option.map_some, Option.bind_some]
    rw [spl3, rdP_name]
    cases hm : nm1 s r.2 with
    | none => rfl
    | some q =>
      simp only [Option.map_some, Option.bind_some]
      rw [spl3, rdP_num]
      by_cases h2 : q.2 + 20 ≤ s.size
      · rw [if_pos h2]
        simp only [spl3, Option.map_some, Option.bind_some, h2, true_and]
      · rw [if_neg h2, if_neg (fun x => h2 x.1)]
        rfl
theorem spl_T {s : ByteArray} {p e : Nat} (h : e ≤ p + 65535) : spl s p e 16 = (txG s p e).bind fun q => if q = e then some [(s.extract p q, false), Zp, Zp] else none := by
  have hl : lays 16 = [-2, 0, 0] := rfl
  rw [spl_of h, hl, spl3, rdP_txt]
  cases hn : txG s p e with
  | none => rfl
  | some q =>
    simp only [Option.map_some, Option.bind_some]
    rw [spl3_zz s e (txG_lt _ p (Nat.le_refl _) q hn).2.1]
    simp
theorem spl_F {s : ByteArray} {p e k n : Nat} (h : e ≤ p + 65535) (hl : lays k = [(n : Int), 0, 0]) : spl s p e k = if p + n ≤ s.size ∧ p + n = e then some [(s.extract p (p + n), false), Zp, Zp] else none := by
  rw [spl_of h, hl, spl3, rdP_num]
  by_cases h2 : p + n ≤ s.size
  · rw [if_pos h2]
    simp only
    rw [spl3_zz s e h2]
    simp [h2]
  · rw [if_neg h2, if_neg (fun x => h2 x.1)]
    rfl
theorem spl_O {s : ByteArray} {p e k : Nat} (h : e ≤ p + 65535) (h1 : p ≤ e) (he : e ≤ s.size) (hl : lays k = [-3, 0, 0]) : spl s p e k = some [(s.extract p e, false), Zp, Zp] := by
  rw [spl_of h, hl, spl3, rdP_all s h1 he]
  simp only
  rw [spl3_zz s e he]
  simp
/-- Which types there are. -/
theorem kinds (k : Nat) : isN k = true ∨ (isN k = false ∧ (k = 15 ∨ k = 6 ∨ k = 16 ∨ k = 1 ∨ k = 28 ∨ (k ≠ 15 ∧ k ≠ 6 ∧ k ≠ 16 ∧ k ≠ 1 ∧ k ≠ 28 ∧ lays k = [-3, 0, 0]))) := by
  cases hN : isN k with
  | true => exact .inl rfl
  | false =>
    right
    refine ⟨rfl, ?_⟩
    unfold isN at hN
    rw [decide_eq_false_iff_not] at hN
    by_cases h15 : k = 15
    · exact .inl h15
    · by_cases h6 : k = 6
      · exact .inr (.inl h6)
      · by_cases h16 : k = 16
        · exact .inr (.inr (.inl h16))
        · by_cases h1 : k = 1
          · exact .inr (.inr (.inr (.inl h1)))
          · by_cases h28 : k = 28
            · exact .inr (.inr (.inr (.inr (.inl h28))))
            · refine .inr (.inr (.inr (.inr (.inr ⟨h15, h6, h16, h1, h28, ?_⟩))))
              unfold lays lay
              rw [if_neg h1, if_neg hN, if_neg h6, if_neg h15, if_neg h16, if_neg h28]

theorem lsz_first {l : List UInt8} {s : ByteArray} {p e : Nat} (hp : p < e) (he : e ≤ s.size) (h : (s.data.toList.take e).drop p = l) : ∃ c r, l = c :: r ∧ c.toNat = lsz s p ∧ r = (s.data.toList.take e).drop (p + 1) ∧ r.length = e - (p + 1) := by
  have hd := lsz_drop (s := s) (p := p) (by omega)
  have hl : l.length = e - p := by rw [← h, List.length_drop, List.length_take, ba_len]; omega
  cases l with
  | nil => simp at hl; omega
  | cons c r =>
    refine ⟨c, r, rfl, ?_, ?_, by simp at hl; omega⟩
    · rw [List.drop_take, hd] at h
      have h2 := congrArg List.head? h
      rw [show e - p = (e - p - 1) + 1 by omega] at h2
      simp at h2
      rw [← h2, UInt8.toNat_ofNat', Nat.mod_eq_of_lt]
      have := lsz_le s p
      omega
    · have h2 := congrArg List.tail h
      rw [List.tail_drop] at h2
      exact h2.symm
/-- Strings up to an end, as the document tells them. -/
theorem txt_iff {s : ByteArray} {e : Nat} (he : e ≤ s.size) : ∀ (m p : Nat), e - p ≤ m → p ≤ e → (txG s p e = some e ↔ txtB ((s.data.toList.take e).drop p) = true) := by
  intro m
  induction m with
  | zero =>
    intro p hm hp
    have hpe : p = e := by omega
    subst hpe
    constructor
    · intro h
      have := (txG_lt _ p (Nat.le_refl _) p h).1
      omega
    · intro h
      rw [List.drop_of_length_le (by rw [List.length_take]; omega)] at h
      rw [txtB] at h
      cases h
  | succ m ih =>
    intro p hm hp
    by_cases hpe : p = e
    · subst hpe
      constructor
      · intro h
        have := (txG_lt _ p (Nat.le_refl _) p h).1
        omega
      · intro h
        rw [List.drop_of_length_le (by rw [List.length_take]; omega)] at h
        rw [txtB] at h
        cases h
    · obtain ⟨c, r, hl, hc, hr, hrl⟩ := lsz_first (s := s) (p := p) (e := e) (by omega) he rfl
      rw [hl, txtB, hc, hrl]
      by_cases h1 : p + 1 + lsz s p < e
      · rw [txG_go ⟨by omega, by omega⟩ h1, if_pos (by omega), if_neg (by omega), ih _ (by omega) (by omega), hr, List.drop_drop]
      · by_cases h2 : p + 1 + lsz s p = e
        · rw [txG_end ⟨by omega, by omega⟩ h1, if_pos (by omega), if_pos (by omega), h2]
          simp
        · rw [if_neg (by omega)]
          constructor
          · intro h
            exfalso
            by_cases h3 : p < s.size ∧ p + 1 + lsz s p ≤ s.size
            · rw [txG_end h3 h1] at h
              cases h
              exact h2 rfl
            · rw [txG_no h3] at h
              cases h
          · intro h; cases h
end Go.Proofs.YtlphbeaaeeohjaaDoor
