/- Plain mathematics of records: a name that is put depends on a pack's length alone; what is taken of a begin of a string is taken of the whole; numbers in two and four bytes. -/
import Derived.Test.YtlphbeaaeeohjaaDoorRdb
namespace Go.Proofs.YtlphbeaaeeohjaaDoor
open Go

/-- What a name adds, and what is known then, depend on how long a pack is, not on its bytes. -/
theorem put_same : ∀ (ls : List (List UInt8)) (S S' : List UInt8) (L : Kn), S.length = S'.length → ∃ W L', put S L ls = (S ++ W, L') ∧ put S' L ls = (S' ++ W, L')
  | [], S, S', L, h => ⟨[0], L, put_nil S L, put_nil S' L⟩
  | l :: ls, S, S', L, h => by
    cases hf : fnd L (wire (l :: ls)) with
    | some a => exact ⟨ptr a, L, put_hit hf, put_hit hf⟩
    | none =>
      have hl : lrn S L (wire (l :: ls)) = lrn S' L (wire (l :: ls)) := by unfold lrn; rw [h]
      obtain ⟨W, L', h1, h2⟩ := put_same ls (S ++ enc1 l) (S' ++ enc1 l) (lrn S L (wire (l :: ls))) (by rw [List.length_append, List.length_append, h])
      refine ⟨enc1 l ++ W, L', ?_, ?_⟩
      · rw [put_miss hf, h1, List.append_assoc]
      · rw [put_miss hf, ← hl, h2, List.append_assoc]
theorem putD_same {S S' : List UInt8} (L : Kn) (k : Nat) (d : ByteArray) (h : S.length = S'.length) : ∃ W L', putD S L k d = (S ++ W, L') ∧ putD S' L k d = (S' ++ W, L') := by
  unfold putD
  by_cases hN : isN k = true
  · simp only [if_pos hN]
    exact put_same _ _ _ _ h
  · simp only [if_neg hN]
    by_cases h15 : k = 15
    · simp only [if_pos h15]
      obtain ⟨W, L', h1, h2⟩ := put_same (labs (d.extract 2 d.size)) (S ++ d.data.toList.take 2) (S' ++ d.data.toList.take 2) L (by rw [List.length_append, List.length_append, h])
      exact ⟨d.data.toList.take 2 ++ W, L', by rw [h1, List.append_assoc], by rw [h2, List.append_assoc]⟩
    · simp only [if_neg h15]
      by_cases h6 : k = 6
      · simp only [if_pos h6]
        obtain ⟨W, L', h1, h2⟩ := put_same (labs (d.extract 0 (szN d))) S S' L h
        rw [h1, h2]
        obtain ⟨V, L'', h3, h4⟩ := put_same (labs ((d.extract (szN d) d.size).extract 0 (szN (d.extract (szN d) d.size)))) (S ++ W) (S' ++ W) L' (by rw [List.length_append, List.length_append, h])
        simp only
        rw [h3, h4]
        exact ⟨W ++ (V ++ d.data.toList.drop (szN d + szN (d.extract (szN d) d.size))), L'', by simp, by simp⟩
      · simp only [if_neg h6]
        exact ⟨d.data.toList, L, rfl, rfl⟩

section
variable {s s' : ByteArray} {X : List UInt8}
theorem pre_size (h : s.data.toList = s'.data.toList ++ X) : s'.size ≤ s.size := by rw [← ba_len, ← ba_len, h, List.length_append]; omega
theorem pre_lsz (h : s.data.toList = s'.data.toList ++ X) {p : Nat} (hp : p < s'.size) : lsz s p = lsz s' p := by
  have h1 := lsz_drop hp
  have h2 : s.data.toList.drop p = UInt8.ofNat (lsz s' p) :: (s'.data.toList.drop (p + 1) ++ X) := by
    rw [h, List.drop_append_of_le_length (by rw [ba_len]; omega), h1]
    rfl
  obtain ⟨_, h3, _⟩ := lsz_at h2
  rw [h3, UInt8.toNat_ofNat', Nat.mod_eq_of_lt]
  have : lsz s' p < 256 := by rw [lsz_eq hp]; exact s'[p].toNat_lt
  omega
theorem pre_nxt (h : s.data.toList = s'.data.toList ++ X) {p : Nat} (hp : p < s'.size) : nxt s p = nxt s' p := by unfold nxt; rw [pre_lsz h hp]
theorem pre_isL (h : s.data.toList = s'.data.toList ++ X) {p : Nat} (hl : isL s' p = true) : isL s p = true := by
  have h1 := isL_iff.1 hl
  have := pre_size h
  exact isL_iff.2 ⟨by omega, by rw [pre_lsz h h1.1]; exact h1.2.1, by rw [pre_lsz h h1.1]; exact h1.2.2.1, by rw [pre_nxt h h1.1]; omega⟩
theorem pre_end (h : s.data.toList = s'.data.toList ++ X) : ∀ (m p : Nat), s'.size - p ≤ m → runOk s' p = true → endFrom s p = endFrom s' p := by
  intro m
  induction m with
  | zero =>
    intro p hm hr
    have h1 := runOk_iff.1 hr
    have h2 := endFrom_ge' s' p
    omega
  | succ m ih =>
    intro p hm hr
    by_cases hl : isL s' p = true
    · have h1 := isL_iff.1 hl
      have e := endFrom_cons hl
      rw [endFrom_cons (pre_isL h hl), e, pre_nxt h h1.1]
      refine ih (nxt s' p) (by unfold nxt; omega) ?_
      unfold runOk at hr ⊢
      rw [e] at hr
      exact hr
    · have e := endFrom_nil hl
      have h1 := runOk_iff.1 hr
      rw [e] at h1
      rw [e]
      refine endFrom_nil (fun hl2 => ?_)
      have h2 := isL_iff.1 hl2
      rw [pre_lsz h h1.1] at h2
      omega
theorem pre_run (h : s.data.toList = s'.data.toList ++ X) {p : Nat} (hr : runOk s' p = true) : endFrom s p = endFrom s' p ∧ runOk s p = true := by
  have e := pre_end h _ p (Nat.le_refl _) hr
  have h1 := runOk_iff.1 hr
  have := pre_size h
  exact ⟨e, runOk_iff.2 (by rw [e, pre_lsz h h1.1]; exact ⟨by omega, h1.2⟩)⟩
theorem pre_piece (h : s.data.toList = s'.data.toList ++ X) {p e : Nat} (he : e ≤ s'.size) : piece s p e = piece s' p e := by
  rw [piece_eq, piece_eq, h, List.take_append_of_le_length (by rw [ba_len]; exact he)]
/-- A name of a begin of a string is that of the whole. -/
theorem tkB_pre (h : s.data.toList = s'.data.toList ++ X) : ∀ (n b p : Nat) (r : List UInt8 × Nat), b ≤ n → tkB s' b p = some r → tkB s b p = some r := by
  intro n
  induction n with
  | zero =>
    intro b p r hb hr
    cases h1 : runOk s' p with
    | false => rw [tkB_bad h1] at hr; cases hr
    | true =>
      obtain ⟨e, hr2⟩ := pre_run h h1
      have hi := runOk_iff.1 h1
      by_cases h0 : lsz s' (endFrom s' p) = 0
      · rw [tkB_zero h1 h0] at hr
        rw [tkB_zero hr2 (by rw [e, pre_lsz h hi.1]; exact h0), e, pre_piece h (by omega)]
        exact hr
      · cases hp : ptB s' b (endFrom s' p) with
        | false => rw [tkB_no h1 h0 hp] at hr; cases hr
        | true => have := (ptB_iff.1 hp).2.2; omega
  | succ n ih =>
    intro b p r hb hr
    cases h1 : runOk s' p with
    | false => rw [tkB_bad h1] at hr; cases hr
    | true =>
      obtain ⟨e, hr2⟩ := pre_run h h1
      have hi := runOk_iff.1 h1
      by_cases h0 : lsz s' (endFrom s' p) = 0
      · rw [tkB_zero h1 h0] at hr
        rw [tkB_zero hr2 (by rw [e, pre_lsz h hi.1]; exact h0), e, pre_piece h (by omega)]
        exact hr
      · cases hp : ptB s' b (endFrom s' p) with
        | false => rw [tkB_no h1 h0 hp] at hr; cases hr
        | true =>
          have hq := ptB_iff.1 hp
          have hto : toOf s (endFrom s' p) = toOf s' (endFrom s' p) := by unfold toOf; rw [pre_lsz h hi.1, pre_lsz h hq.1]
          have := pre_size h
          have hp2 : ptB s b (endFrom s p) = true := ptB_iff.2 (by rw [e, hto, pre_lsz h hi.1]; exact ⟨by omega, hq.2.1, hq.2.2⟩)
          rw [tkB_ptr h1 h0 hp, Option.map_eq_some_iff] at hr
          obtain ⟨r', g1, g2⟩ := hr
          have g3 := ih _ _ r' (by omega) g1
          rw [tkB_ptr hr2 (by rw [e, pre_lsz h hi.1]; exact h0) hp2, e, hto, g3, pre_piece h (by omega)]
          simp only [Option.map_some]
          rw [g2]
theorem nm1_pre (h : s.data.toList = s'.data.toList ++ X) {p : Nat} {r : List UInt8 × Nat} (hr : nm1 s' p = some r) : nm1 s p = some r := by
  unfold nm1 at hr ⊢
  rw [Option.map_eq_some_iff] at hr
  obtain ⟨q, hq, g⟩ := hr
  rw [Option.filter_eq_some_iff] at hq
  have h2 := tkB_pre h p p p q (Nat.le_refl _) hq.1
  rw [h2]
  simp only [Option.filter, hq.2, if_true, Option.map_some, g]
end

/-- Numbers in two and in four bytes. -/
def b16 (n : Nat) : List UInt8 := [UInt8.ofNat (n / 256), UInt8.ofNat (n % 256)]
def b32 (n : Nat) : List UInt8 := b16 (n / 65536) ++ b16 (n % 65536)
def g16 (s : ByteArray) (p : Nat) : Nat := 256 * lsz s p + lsz s (p + 1)
def g32 (s : ByteArray) (p : Nat) : Nat := 65536 * g16 s p + g16 s (p + 2)
theorem b16_len (n : Nat) : (b16 n).length = 2 := rfl
theorem b32_len (n : Nat) : (b32 n).length = 4 := rfl
theorem g16_at {s : ByteArray} {p n : Nat} {R : List UInt8} (hn : n < 65536) (h : s.data.toList.drop p = b16 n ++ R) : g16 s p = n ∧ p + 2 ≤ s.size ∧ s.data.toList.drop (p + 2) = R := by
  obtain ⟨h1, h2, h3⟩ := lsz_at (s := s) (p := p) (c := UInt8.ofNat (n / 256)) (R := UInt8.ofNat (n % 256) :: R) h
  obtain ⟨h4, h5, h6⟩ := lsz_at h3
  rw [UInt8.toNat_ofNat'] at h2 h5
  refine ⟨?_, by omega, h6⟩
  unfold g16
  rw [h2, h5]
  omega
theorem g32_at {s : ByteArray} {p n : Nat} {R : List UInt8} (hn : n < 4294967296) (h : s.data.toList.drop p = b32 n ++ R) : g32 s p = n ∧ p + 4 ≤ s.size ∧ s.data.toList.drop (p + 4) = R := by
  unfold b32 at h
  rw [List.append_assoc] at h
  obtain ⟨h1, h2, h3⟩ := g16_at (by omega) h
  obtain ⟨h4, h5, h6⟩ := g16_at (by omega) h3
  refine ⟨?_, by omega, h6⟩
  unfold g32
  rw [h1, h4]
  omega
end Go.Proofs.YtlphbeaaeeohjaaDoor
