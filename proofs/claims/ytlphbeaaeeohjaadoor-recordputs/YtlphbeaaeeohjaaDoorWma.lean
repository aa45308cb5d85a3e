/- Plain mathematics of packs: what Name writes, and what Take reads. -/
import Derived.Test.YtlphbeaaeeohjaaDoorNmn
namespace Go.Proofs.YtlphbeaaeeohjaaDoor
open Go

/-- Known names, each with its offset. -/
abbrev Kn := List (List UInt8 × Nat)
/-- A known name's offset. -/
def fnd (L : Kn) (k : List UInt8) : Option Nat := (L.find? fun p => p.1 == k).map (·.2)
/-- The two bytes of a pointer. -/
def ptr (a : Nat) : List UInt8 := [UInt8.ofNat (192 + a / 256), UInt8.ofNat (a % 256)]
/-- What is known when the labels of a name are about to be written. -/
def lrn (S : List UInt8) (L : Kn) (k : List UInt8) : Kn := if S.length < 16384 then L ++ [(k, S.length)] else L
/-- What Name makes of a pack. -/
def put : List UInt8 → Kn → List (List UInt8) → List UInt8 × Kn
  | S, L, [] => (S ++ [0], L)
  | S, L, l :: ls => match fnd L (wire (l :: ls)) with
    | some a => (S ++ ptr a, L)
    | none => put (S ++ enc1 l) (lrn S L (wire (l :: ls))) ls

theorem put_nil (S : List UInt8) (L : Kn) : put S L [] = (S ++ [0], L) := by rw [put]
theorem put_hit {S : List UInt8} {L : Kn} {l : List UInt8} {ls : List (List UInt8)} {a : Nat} (h : fnd L (wire (l :: ls)) = some a) : put S L (l :: ls) = (S ++ ptr a, L) := by rw [put, h]
theorem put_miss {S : List UInt8} {L : Kn} {l : List UInt8} {ls : List (List UInt8)} (h : fnd L (wire (l :: ls)) = none) : put S L (l :: ls) = put (S ++ enc1 l) (lrn S L (wire (l :: ls))) ls := by rw [put, h]
theorem wire_cons (l : List UInt8) (ls : List (List UInt8)) : wire (l :: ls) = enc1 l ++ wire ls := by simp [wire]
theorem enc1_len (l : List UInt8) : (enc1 l).length = l.length + 1 := by simp [enc1]
theorem wire_len_cons (l : List UInt8) (ls : List (List UInt8)) : (wire (l :: ls)).length = l.length + 1 + (wire ls).length := by rw [wire_cons, List.length_append, enc1_len]
theorem wire_len_pos (ls : List (List UInt8)) : 1 ≤ (wire ls).length := by simp [wire]

theorem fnd_mem {L : Kn} {k : List UInt8} {a : Nat} (h : fnd L k = some a) : (k, a) ∈ L := by
  unfold fnd at h
  rw [Option.map_eq_some_iff] at h
  obtain ⟨p, hp, rfl⟩ := h
  have h1 := List.find?_some hp
  have h2 := List.mem_of_find?_eq_some hp
  have h3 : p.1 = k := by simpa using h1
  rw [← h3]
  exact h2
theorem fnd_none {L : Kn} {k : List UInt8} (h : ∀ p ∈ L, p.1 ≠ k) : fnd L k = none := by
  unfold fnd
  rw [Option.map_eq_none_iff, List.find?_eq_none]
  intro p hp
  simpa using h p hp
theorem fnd_append (A B : Kn) (k : List UInt8) : fnd (A ++ B) k = (fnd A k).or (fnd B k) := by
  unfold fnd
  rw [List.find?_append]
  cases A.find? (fun p => p.1 == k) <;> rfl
theorem fnd_self (k : List UInt8) (a : Nat) : fnd [(k, a)] k = some a := by simp [fnd]

/-- A pack without known names takes a name as it is. -/
theorem put_fresh : ∀ (ls : List (List UInt8)) (S : List UInt8) (L : Kn), (∀ p ∈ L, (wire ls).length < p.1.length) → (put S L ls).1 = S ++ wire ls
  | [], S, L, _ => by rw [put_nil]; simp [wire]
  | l :: ls, S, L, h => by
    have hn : fnd L (wire (l :: ls)) = none := fnd_none fun p hp e => by have := h p hp; rw [e] at this; omega
    rw [put_miss hn, put_fresh ls, wire_cons, List.append_assoc]
    intro p hp
    have hlen := wire_len_cons l ls
    unfold lrn at hp
    split at hp
    · rcases List.mem_append.1 hp with hp | hp
      · have := h p hp; omega
      · rw [List.mem_singleton.1 hp]; show _ < (wire (l :: ls)).length; omega
    · have := h p hp; omega
/-- A name that was added is known. -/
theorem put_known (l : List UInt8) (ls : List (List UInt8)) (S : List UInt8) (L : Kn) (hS : S.length < 16384) :
    (∃ E, (put S L (l :: ls)).2 = L ++ E) ∧ ∃ a, fnd (put S L (l :: ls)).2 (wire (l :: ls)) = some a := by
  have grow : ∀ (ls : List (List UInt8)) (S : List UInt8) (L : Kn), ∃ E, (put S L ls).2 = L ++ E := by
    intro ls
    induction ls with
    | nil => intro S L; exact ⟨[], by rw [put_nil]; simp⟩
    | cons l ls ih =>
      intro S L
      cases h : fnd L (wire (l :: ls)) with
      | some a => exact ⟨[], by rw [put_hit h]; simp⟩
      | none =>
        obtain ⟨E, hE⟩ := ih (S ++ enc1 l) (lrn S L (wire (l :: ls)))
        rw [put_miss h, hE]
        unfold lrn
        split
        · exact ⟨_, List.append_assoc _ _ _⟩
        · exact ⟨_, rfl⟩
  refine ⟨grow _ _ _, ?_⟩
  cases h : fnd L (wire (l :: ls)) with
  | some a => exact ⟨a, by rw [put_hit h]; exact h⟩
  | none =>
    obtain ⟨E, hE⟩ := grow ls (S ++ enc1 l) (lrn S L (wire (l :: ls)))
    rw [put_miss h, hE]
    refine ⟨S.length, ?_⟩
    unfold lrn
    rw [if_pos hS, fnd_append, fnd_append, h, fnd_self]
    rfl

/-- Do the labels from an offset on end with a zero byte, or with one above 63? -/
def runOk (s : ByteArray) (p : Nat) : Bool := decide (endFrom s p < s.size ∧ (lsz s (endFrom s p) = 0 ∨ 63 < lsz s (endFrom s p)))
theorem runOk_iff {s : ByteArray} {p : Nat} : runOk s p = true ↔ endFrom s p < s.size ∧ (lsz s (endFrom s p) = 0 ∨ 63 < lsz s (endFrom s p)) := by simp [runOk]
def piece (s : ByteArray) (p e : Nat) : List UInt8 := (s.extract p e).data.toList
/-- Where the pointer at an offset leads. -/
def toOf (s : ByteArray) (e : Nat) : Nat := (lsz s e - 192) * 256 + lsz s (e + 1)
/-- Is there a pointer, to an offset below a bound? -/
def ptB (s : ByteArray) (b e : Nat) : Bool := decide (e + 1 < s.size ∧ 192 ≤ lsz s e ∧ toOf s e < b)
theorem ptB_iff {s : ByteArray} {b e : Nat} : ptB s b e = true ↔ e + 1 < s.size ∧ 192 ≤ lsz s e ∧ toOf s e < b := by simp [ptB]
/-- The bytes of the name at an offset, and the offset behind; its first pointer leads below a bound. -/
def tkB (s : ByteArray) (b p : Nat) : Option (List UInt8 × Nat) :=
  if runOk s p = true then
    if lsz s (endFrom s p) = 0 then some (piece s p (endFrom s p) ++ [0], endFrom s p + 1)
    else if h : ptB s b (endFrom s p) = true then (tkB s (toOf s (endFrom s p)) (toOf s (endFrom s p))).map fun r => (piece s p (endFrom s p) ++ r.1, endFrom s p + 2)
    else none
  else none
termination_by b
decreasing_by exact (ptB_iff.1 h).2.2
theorem tkB_bad {s : ByteArray} {b p : Nat} (h : runOk s p = false) : tkB s b p = none := by rw [tkB, if_neg (by rw [h]; decide)]
theorem tkB_zero {s : ByteArray} {b p : Nat} (h : runOk s p = true) (h0 : lsz s (endFrom s p) = 0) : tkB s b p = some (piece s p (endFrom s p) ++ [0], endFrom s p + 1) := by rw [tkB, if_pos h, if_pos h0]
theorem tkB_ptr {s : ByteArray} {b p : Nat} (h : runOk s p = true) (h0 : lsz s (endFrom s p) ≠ 0) (h1 : ptB s b (endFrom s p) = true) :
    tkB s b p = (tkB s (toOf s (endFrom s p)) (toOf s (endFrom s p))).map fun r => (piece s p (endFrom s p) ++ r.1, endFrom s p + 2) := by rw [tkB, if_pos h, if_neg h0, dif_pos h1]
theorem tkB_no {s : ByteArray} {b p : Nat} (h : runOk s p = true) (h0 : lsz s (endFrom s p) ≠ 0) (h1 : ptB s b (endFrom s p) = false) : tkB s b p = none := by
  rw [tkB, if_pos h, if_neg h0, dif_neg (by rw [h1]; decide)]

theorem endFrom_ge (s : ByteArray) : ∀ (m p : Nat), s.size - p ≤ m → p ≤ endFrom s p := by
  intro m
  induction m with
  | zero =>
    intro p h
    have hn : ¬ isL s p = true := fun h' => by have := isL_iff.1 h'; omega
    rw [endFrom_nil hn]; exact Nat.le_refl _
  | succ m ih =>
    intro p h
    by_cases hl : isL s p = true
    · have h' := isL_iff.1 hl
      rw [endFrom_cons hl]
      have := ih (nxt s p) (by unfold nxt at *; omega)
      unfold nxt at *
      omega
    · rw [endFrom_nil hl]; exact Nat.le_refl _
theorem endFrom_ge' (s : ByteArray) (p : Nat) : p ≤ endFrom s p := endFrom_ge s _ p (Nat.le_refl _)
theorem piece_eq (s : ByteArray) (p e : Nat) : piece s p e = (s.data.toList.take e).drop p := extract_list s p e
theorem piece_nil (s : ByteArray) (p : Nat) : piece s p p = [] := by rw [piece_eq, List.drop_take]; simp
theorem piece_len {s : ByteArray} {p e : Nat} (h : e ≤ s.size) : (piece s p e).length = e - p := by rw [piece_eq, List.length_drop, List.length_take, ba_len]; omega
theorem piece_cons {s : ByteArray} (x : At s) {e : Nat} (h : nxt s x.1 ≤ e) : piece s x.1 e = enc1 (lab x) ++ piece s (nxt s x.1) e := by
  have h1 := isL_iff.1 x.2
  have hl : (enc1 (lab x)).length = nxt s x.1 - x.1 := by rw [enc1_len, lab_len]; unfold nxt; omega
  have hlt := x.lt
  rw [piece_eq, piece_eq, List.drop_take, lab_enc x, List.take_append, List.take_of_length_le (by omega), List.drop_take, hl, show e - x.1 - (nxt s x.1 - x.1) = e - nxt s x.1 by omega]
theorem tkB_label {s : ByteArray} {b p : Nat} (h : isL s p = true) : tkB s b p = (tkB s b (nxt s p)).map fun r => (enc1 (lab ⟨p, h⟩) ++ r.1, r.2) := by
  have e1 := endFrom_cons h
  have e2 : runOk s p = runOk s (nxt s p) := by unfold runOk; rw [e1]
  have e3 := piece_cons ⟨p, h⟩ (endFrom_ge' s (nxt s p))
  cases hr : runOk s (nxt s p) with
  | false => rw [tkB_bad hr, tkB_bad (e2.trans hr)]; rfl
  | true =>
    by_cases h0 : lsz s (endFrom s (nxt s p)) = 0
    · rw [tkB_zero hr h0, tkB_zero (e2.trans hr) (by rw [e1]; exact h0), e1, e3]
      simp
    · cases hp : ptB s b (endFrom s (nxt s p)) with
      | true =>
        rw [tkB_ptr hr h0 hp, tkB_ptr (e2.trans hr) (by rw [e1]; exact h0) (by rw [e1]; exact hp), e1, e3, Option.map_map]
        congr 1
        funext r
        simp
      | false => rw [tkB_no hr h0 hp, tkB_no (e2.trans hr) (by rw [e1]; exact h0) (by rw [e1]; exact hp)]; rfl
theorem tkB_mono {s : ByteArray} {b b' p : Nat} (h : b ≤ b') {r : List UInt8 × Nat} (hr : tkB s b p = some r) : tkB s b' p = some r := by
  cases h1 : runOk s p with
  | false => rw [tkB_bad h1] at hr; cases hr
  | true =>
    by_cases h0 : lsz s (endFrom s p) = 0
    · rw [tkB_zero h1 h0] at hr ⊢; exact hr
    · cases hp : ptB s b (endFrom s p) with
      | true =>
        have hp' : ptB s b' (endFrom s p) = true := by
          have := ptB_iff.1 hp
          exact ptB_iff.2 ⟨this.1, this.2.1, by omega⟩
        rw [tkB_ptr h1 h0 hp] at hr
        rw [tkB_ptr h1 h0 hp']
        exact hr
      | false => rw [tkB_no h1 h0 hp] at hr; cases hr

/-- Bytes that stand at an offset. -/
theorem lsz_at {s : ByteArray} {p : Nat} {c : UInt8} {R : List UInt8} (h : s.data.toList.drop p = c :: R) : p < s.size ∧ lsz s p = c.toNat ∧ s.data.toList.drop (p + 1) = R := by
  have hlt : p < s.size := by
    rcases Nat.lt_or_ge p s.size with h1 | h1
    · exact h1
    · rw [List.drop_of_length_le (by rw [ba_len]; exact h1)] at h; cases h
  have h2 := lsz_drop hlt
  rw [h] at h2
  obtain ⟨h3, h4⟩ := List.cons.inj h2
  refine ⟨hlt, ?_, h4.symm⟩
  have h6 := congrArg UInt8.toNat h3
  have h7 : lsz s p ≤ 255 := by rw [lsz_eq hlt]; have := s[p].toNat_lt; omega
  rw [UInt8.toNat_ofNat'] at h6
  omega
theorem isL_at {s : ByteArray} {p : Nat} {l R : List UInt8} (hok : okLb l) (h : s.data.toList.drop p = enc1 l ++ R) : ∃ hl : isL s p = true, nxt s p = p + 1 + l.length ∧ lab ⟨p, hl⟩ = l ∧ s.data.toList.drop (p + 1 + l.length) = R := by
  unfold okLb at hok
  obtain ⟨hlt, hc, hd⟩ := lsz_at (show s.data.toList.drop p = UInt8.ofNat l.length :: (l ++ R) from h)
  rw [UInt8.toNat_ofNat'] at hc
  have hc' : lsz s p = l.length := by omega
  have hn : nxt s p = p + 1 + l.length := by unfold nxt; rw [hc']
  have hlen := congrArg List.length hd
  rw [List.length_drop, ba_len, List.length_append] at hlen
  have hL : isL s p = true := by rw [isL_iff, hn, hc']; omega
  refine ⟨hL, hn, ?_, ?_⟩
  · unfold lab
    rw [extract_list]
    simp only [hn]
    rw [List.drop_take, hd, show p + 1 + l.length - (p + 1) = l.length by omega, List.take_left']
    rfl
  · rw [← List.drop_drop, hd, List.drop_left']
    rfl
theorem tkB_at0 {s : ByteArray} {b p : Nat} {R : List UInt8} (h : s.data.toList.drop p = 0 :: R) : tkB s b p = some ([0], p + 1) := by
  obtain ⟨hlt, hc, _⟩ := lsz_at h
  have hc0 : lsz s p = 0 := hc
  have hn : ¬ isL s p = true := fun h' => (isL_iff.1 h').2.1 hc0
  have he := endFrom_nil hn
  have hr : runOk s p = true := runOk_iff.2 (by rw [he]; exact ⟨hlt, .inl hc0⟩)
  rw [tkB_zero hr (by rw [he]; exact hc0), he, piece_nil]
  rfl
theorem ptr_at {s : ByteArray} {p a : Nat} {R : List UInt8} (ha : a < 16384) (h : s.data.toList.drop p = ptr a ++ R) : runOk s p = true ∧ endFrom s p = p ∧ lsz s p ≠ 0 ∧ p + 1 < s.size ∧ 192 ≤ lsz s p ∧ toOf s p = a := by
  obtain ⟨hlt, hc, hd⟩ := lsz_at (show s.data.toList.drop p = UInt8.ofNat (192 + a / 256) :: (UInt8.ofNat (a % 256) :: R) from h)
  obtain ⟨hlt2, hc2, _⟩ := lsz_at hd
  rw [UInt8.toNat_ofNat'] at hc hc2
  have h1 : lsz s p = 192 + a / 256 := by omega
  have h2 : lsz s (p + 1) = a % 256 := by omega
  have hn : ¬ isL s p = true := fun h' => by have := (isL_iff.1 h').2.2.1; omega
  have he := endFrom_nil hn
  refine ⟨runOk_iff.2 (by rw [he]; exact ⟨hlt, .inr (by omega)⟩), he, by omega, hlt2, by omega, ?_⟩
  unfold toOf
  omega
theorem tkB_atP {s : ByteArray} {b p a : Nat} {R : List UInt8} (ha : a < 16384) (hb : a < b) (h : s.data.toList.drop p = ptr a ++ R) : tkB s b p = (tkB s a a).map fun r => (r.1, p + 2) := by
  obtain ⟨h1, h2, h3, h4, h5, h6⟩ := ptr_at ha h
  rw [tkB_ptr h1 (by rw [h2]; exact h3) (by rw [h2]; exact ptB_iff.2 ⟨h4, h5, by rw [h6]; exact hb⟩), h2, h6, piece_nil]
  rfl
/-- A name that stands as it is. -/
theorem tkB_wire {s : ByteArray} {b : Nat} : ∀ (ls : List (List UInt8)) (p : Nat) (R : List UInt8), (∀ l ∈ ls, okLb l) → s.data.toList.drop p = wire ls ++ R → tkB s b p = some (wire ls, p + (wire ls).length)
  | [], p, R, _, h => tkB_at0 (R := R) (by simpa [wire] using h)
  | l :: ls, p, R, hok, h => by
    rw [wire_cons, List.append_assoc] at h
    obtain ⟨hl, h1, h2, h3⟩ := isL_at (hok l (by simp)) h
    rw [tkB_label hl, h1, h2, tkB_wire ls _ R (fun l' hl' => hok l' (List.mem_cons_of_mem _ hl')) h3, wire_cons, List.length_append, enc1_len]
    simp
    omega

/-- Each known name is read at its offset, whatever is behind. -/
def Good (S : List UInt8) (L : Kn) : Prop := ∀ k a, (k, a) ∈ L → a < 16384 ∧ a < S.length ∧ ∀ (s : ByteArray) (X : List UInt8), s.data.toList = S ++ X → ∃ nx, tkB s a a = some (k, nx)
theorem Good.nil (S : List UInt8) : Good S [] := fun k a h => by cases h
theorem Good.more {S : List UInt8} {L : Kn} (h : Good S L) (X : List UInt8) : Good (S ++ X) L := fun k a hk => by
  obtain ⟨h1, h2, h3⟩ := h k a hk
  exact ⟨h1, by simp; omega, fun s Y e => h3 s (X ++ Y) (by rw [e, List.append_assoc])⟩

theorem put_spec (S0 : List UInt8) (L0 : Kn) (hG : Good S0 L0) : ∀ (ls : List (List UInt8)) (S : List UInt8) (pend : Kn) (Y : List UInt8), S = S0 ++ Y → (∀ l ∈ ls, okLb l) → (∀ p ∈ pend, (wire ls).length < p.1.length) →
    ∃ W E, put S (L0 ++ pend) ls = (S ++ W, L0 ++ pend ++ E) ∧ 1 ≤ W.length ∧ W.length ≤ (wire ls).length ∧
      (∀ (s : ByteArray) (X : List UInt8), s.data.toList = S ++ W ++ X → tkB s S0.length S.length = some (wire ls, S.length + W.length)) ∧
      (∀ k a, (k, a) ∈ E → a < 16384 ∧ S.length ≤ a ∧ a < S.length + W.length ∧ ∀ (s : ByteArray) (X : List UInt8), s.data.toList = S ++ W ++ X → ∃ nx, tkB s S0.length a = some (k, nx))
  | [], S, pend, Y, hS, hok, hp => by
    refine ⟨[0], [], by rw [put_nil, List.append_nil], by simp, by simp [wire], ?_, fun k a h => by cases h⟩
    intro s X e
    have hd : s.data.toList.drop S.length = 0 :: X := by rw [e, List.append_assoc, List.drop_left']; rfl; rfl
    rw [tkB_at0 hd]
    simp [wire]
  | l :: ls, S, pend, Y, hS, hok, hp => by
    have hokl := hok l (by simp)
    have hlen := wire_len_cons l ls
    have hpos := wire_len_pos ls
    cases hf : fnd (L0 ++ pend) (wire (l :: ls)) with
    | some a =>
      have hm : (wire (l :: ls), a) ∈ L0 := by
        rcases List.mem_append.1 (fnd_mem hf) with h | h
        · exact h
        · have := hp _ h; simp at this
      obtain ⟨h1, h2, h3⟩ := hG _ _ hm
      refine ⟨ptr a, [], by rw [put_hit hf, List.append_nil], by simp [ptr], by rw [hlen]; unfold okLb at hokl; simp [ptr]; omega, ?_, fun k a h => by cases h⟩
      intro s X e
      have hd : s.data.toList.drop S.length = ptr a ++ X := by rw [e, List.append_assoc, List.drop_left']; rfl
      obtain ⟨nx, hx⟩ := h3 s (Y ++ ptr a ++ X) (by rw [e, hS]; simp)
      rw [tkB_atP h1 h2 hd, hx]
      rfl
    | none =>
      rw [put_miss hf]
      have hS' : S ++ enc1 l = S0 ++ (Y ++ enc1 l) := by rw [hS, List.append_assoc]
      have hp2 : ∀ p ∈ pend, (wire ls).length < p.1.length := fun p h => by have := hp p h; omega
      have step : ∀ (W' : List UInt8), (∀ (s : ByteArray) (X : List UInt8), s.data.toList = S ++ enc1 l ++ W' ++ X → tkB s S0.length (S ++ enc1 l).length = some (wire ls, (S ++ enc1 l).length + W'.length)) →
          ∀ (s : ByteArray) (X : List UInt8), s.data.toList = S ++ (enc1 l ++ W') ++ X → tkB s S0.length S.length = some (wire (l :: ls), S.length + (enc1 l ++ W').length) := by
        intro W' h s X e
        have hd : s.data.toList.drop S.length = enc1 l ++ (W' ++ X) := by rw [e, List.append_assoc, List.append_assoc, List.drop_left']; rfl
        obtain ⟨hl, h1, h2, h3⟩ := isL_at hokl hd
        have h4 := h s X (by rw [e]; simp)
        rw [List.length_append, enc1_len] at h4
        rw [tkB_label hl, h1, h2, show S.length + 1 + l.length = S.length + (l.length + 1) by omega, h4, wire_cons, List.length_append, enc1_len]
        simp
        omega
      by_cases h16 : S.length < 16384
      · have hlr : lrn S (L0 ++ pend) (wire (l :: ls)) = L0 ++ (pend ++ [(wire (l :: ls), S.length)]) := by unfold lrn; rw [if_pos h16, List.append_assoc]
        obtain ⟨W, E, h1, h2, h3, h4, h5⟩ := put_spec S0 L0 hG ls (S ++ enc1 l) (pend ++ [(wire (l :: ls), S.length)]) (Y ++ enc1 l) hS' (fun l' hl' => hok l' (List.mem_cons_of_mem _ hl')) (fun p h => by
          rcases List.mem_append.1 h with h | h
          · exact hp2 p h
          · rw [List.mem_singleton.1 h]; show _ < (wire (l :: ls)).length; omega)
        have hst := step W h4
        refine ⟨enc1 l ++ W, (wire (l :: ls), S.length) :: E, ?_, by simp; omega, by rw [hlen, List.length_append, enc1_len]; omega, hst, ?_⟩
        · rw [hlr, h1]; simp
        · intro k a hk
          rcases List.mem_cons.1 hk with h | h
          · cases h
            exact ⟨h16, Nat.le_refl _, by rw [List.length_append, enc1_len]; omega, fun s X e => ⟨_, hst s X e⟩⟩
          · obtain ⟨g1, g2, g3, g4⟩ := h5 k a h
            rw [List.length_append] at g2 g3
            exact ⟨g1, by omega, by rw [List.length_append]; omega, fun s X e => g4 s X (by rw [e]; simp)⟩
      · have hlr : lrn S (L0 ++ pend) (wire (l :: ls)) = L0 ++ pend := by unfold lrn; rw [if_neg h16]
        obtain ⟨W, E, h1, h2, h3, h4, h5⟩ := put_spec S0 L0 hG ls (S ++ enc1 l) pend (Y ++ enc1 l) hS' (fun l' hl' => hok l' (List.mem_cons_of_mem _ hl')) hp2
        refine ⟨enc1 l ++ W, E, ?_, by simp; omega, by rw [hlen, List.length_append, enc1_len]; omega, step W h4, ?_⟩
        · rw [hlr, h1]; simp
        · intro k a hk
          obtain ⟨g1, g2, g3, g4⟩ := h5 k a hk
          rw [List.length_append] at g2 g3
          exact ⟨g1, by omega, by rw [List.length_append]; omega, fun s X e => g4 s X (by rw [e]; simp)⟩
/-- What Name writes is read back, and each name that is known then. -/
theorem put_good {S : List UInt8} {L : Kn} (hG : Good S L) (ls : List (List UInt8)) (hok : ∀ l ∈ ls, okLb l) :
    ∃ W, (put S L ls).1 = S ++ W ∧ 1 ≤ W.length ∧ W.length ≤ (wire ls).length ∧ Good (S ++ W) (put S L ls).2 ∧
      ∀ (s : ByteArray) (X : List UInt8), s.data.toList = S ++ W ++ X → tkB s S.length S.length = some (wire ls, (S ++ W).length) := by
  obtain ⟨W, E, h1, h2, h3, h4, h5⟩ := put_spec S L hG ls S [] [] (by simp) hok (fun p h => by cases h)
  rw [List.append_nil] at h1
  rw [h1]
  refine ⟨W, rfl, h2, h3, ?_, fun s X e => by rw [h4 s X e, List.length_append]⟩
  intro k a hk
  rcases List.mem_append.1 hk with h | h
  · exact hG.more W k a h
  · obtain ⟨g1, g2, g3, g4⟩ := h5 k a h
    refine ⟨g1, by rw [List.length_append]; exact g3, fun s X e => ?_⟩
    obtain ⟨nx, hx⟩ := g4 s X e
    exact ⟨nx, tkB_mono g2 hx⟩

/-- What is read is labels, and a zero byte. -/
theorem tkB_name {s : ByteArray} : ∀ (b p : Nat) (r : List UInt8 × Nat), tkB s b p = some r → ∃ ls, (∀ l ∈ ls, okLb l) ∧ r.1 = wire ls ∧ p < r.2 ∧ r.2 ≤ s.size := by
  intro b
  induction b using Nat.strongRecOn with
  | ind b ih =>
    intro p r h
    have hge := endFrom_ge' s p
    cases hr : runOk s p with
    | false => rw [tkB_bad hr] at h; cases h
    | true =>
      have hlt := (runOk_iff.1 hr).1
      have hpc : piece s p (endFrom s p) = ((labsFrom s p).map lab).flatMap enc1 := by
        have h1 := split_from s s.size p (by omega)
        have h2 : s.data.toList.drop p = piece s p (endFrom s p) ++ s.data.toList.drop (endFrom s p) := by
          rw [piece_eq, List.drop_take]
          have : s.data.toList.drop (endFrom s p) = (s.data.toList.drop p).drop (endFrom s p - p) := by rw [List.drop_drop]; congr 1; omega
          rw [this, List.take_append_drop]
        rw [h2] at h1
        exact List.append_cancel_right h1
      have hokl : ∀ l ∈ (labsFrom s p).map lab, okLb l := by
        intro l hl
        obtain ⟨x, _, rfl⟩ := List.mem_map.1 hl
        exact lab_ok x
      by_cases h0 : lsz s (endFrom s p) = 0
      · rw [tkB_zero hr h0, Option.some.injEq] at h
        subst h
        refine ⟨(labsFrom s p).map lab, hokl, by show piece _ _ _ ++ [0] = _; rw [hpc]; rfl, ?_, ?_⟩ <;> show _ <;> simp only <;> omega
      · cases hp : ptB s b (endFrom s p) with
        | false => rw [tkB_no hr h0 hp] at h; cases h
        | true =>
          obtain ⟨p1, p2, p3⟩ := ptB_iff.1 hp
          rw [tkB_ptr hr h0 hp, Option.map_eq_some_iff] at h
          obtain ⟨q, hq, rfl⟩ := h
          obtain ⟨ls, g1, g2, _, _⟩ := ih _ p3 _ q hq
          refine ⟨(labsFrom s p).map lab ++ ls, ?_, ?_, ?_, ?_⟩
          · intro l hl
            rcases List.mem_append.1 hl with hl | hl
            · exact hokl l hl
            · exact g1 l hl
          · show piece _ _ _ ++ q.1 = _
            rw [hpc, g2]
            simp [wire]
          · simp only; omega
          · simp only; omega

/-- wire.Take's results. -/
def tkN (s : ByteArray) (p : Int) : Option (List UInt8 × Nat) := if 0 ≤ p then (tkB s p.toNat p.toNat).filter fun r => decide (r.1.length ≤ 255) else none
def tkS (s : ByteArray) (p : Int) : ByteArray := match tkN s p with | some r => ⟨(r.1.map low).toArray⟩ | none => ⟨#[]⟩
def tkX (s : ByteArray) (p : Int) : Nat := match tkN s p with | some r => r.2 | none => 0
def tkE (s : ByteArray) (p : Int) : Nat := match tkN s p with | some _ => 0 | none => 2
theorem tk_some {s : ByteArray} {p : Int} {r : List UInt8 × Nat} (h0 : 0 ≤ p) (h : tkB s p.toNat p.toNat = some r) (h2 : r.1.length ≤ 255) : tkS s p = ⟨(r.1.map low).toArray⟩ ∧ tkX s p = r.2 ∧ tkE s p = 0 := by
  have : tkN s p = some r := by unfold tkN; rw [if_pos h0, h]; simp [Option.filter, h2]
  unfold tkS tkX tkE
  rw [this]
  exact ⟨rfl, rfl, rfl⟩
theorem tk_long {s : ByteArray} {p : Int} {r : List UInt8 × Nat} (h0 : 0 ≤ p) (h : tkB s p.toNat p.toNat = some r) (h2 : 255 < r.1.length) : tkS s p = ⟨#[]⟩ ∧ tkX s p = 0 ∧ tkE s p = 2 := by
  have : tkN s p = none := by unfold tkN; rw [if_pos h0, h]; simp [Option.filter]; omega
  unfold tkS tkX tkE
  rw [this]
  exact ⟨rfl, rfl, rfl⟩
theorem tk_none {s : ByteArray} {p : Int} (h : p < 0 ∨ tkB s p.toNat p.toNat = none) : tkS s p = ⟨#[]⟩ ∧ tkX s p = 0 ∧ tkE s p = 2 := by
  have : tkN s p = none := by
    unfold tkN
    rcases h with h | h
    · rw [if_neg (by omega)]
    · split
      · rw [h]; rfl
      · rfl
  unfold tkS tkX tkE
  rw [this]
  exact ⟨rfl, rfl, rfl⟩
/-- What Take tells is a name, or nothing. -/
theorem tk_cases (s : ByteArray) (p : Int) : (tkE s p = 2 ∧ tkS s p = ⟨#[]⟩ ∧ tkX s p = 0) ∨ (tkE s p = 0 ∧ mayB (tkS s p) = true ∧ p < (tkX s p : Nat) ∧ tkX s p ≤ s.size) := by
  by_cases h0 : 0 ≤ p
  · cases h : tkB s p.toNat p.toNat with
    | none => obtain ⟨a, b, c⟩ := tk_none (s := s) (p := p) (.inr h); exact .inl ⟨c, a, b⟩
    | some r =>
      by_cases h2 : r.1.length ≤ 255
      · obtain ⟨a, b, c⟩ := tk_some h0 h h2
        obtain ⟨ls, g1, g2, g3, g4⟩ := tkB_name _ _ r h
        refine .inr ⟨c, ?_, by rw [b]; omega, by rw [b]; exact g4⟩
        rw [a]
        refine (NameIs.may (ls := ls.map (·.map low)) ⟨?_, ?_, ?_, ?_⟩).1
        · intro l hl
          obtain ⟨x, hx, rfl⟩ := List.mem_map.1 hl
          exact okLb_low (g1 x hx)
        · intro l hl
          obtain ⟨x, hx, rfl⟩ := List.mem_map.1 hl
          rw [List.map_map]
          congr 1
          funext c
          exact low_low c
        · show (r.1.map low) = _
          rw [g2, map_low_wire ls g1]
        · show (r.1.map low).length ≤ 255
          rw [List.length_map]; exact h2
      · obtain ⟨a, b, c⟩ := tk_long h0 h (by omega); exact .inl ⟨c, a, b⟩
  · obtain ⟨a, b, c⟩ := tk_none (s := s) (p := p) (.inl (by omega)); exact .inl ⟨c, a, b⟩
/-- A name that is read as its bytes. -/
theorem tk_name {s n : ByteArray} {p k : Nat} (hm : mayB n = true) (h : tkB s p p = some (wire (labs n), k)) : tkS s p = n ∧ tkX s p = k ∧ tkE s p = 0 := by
  have hn := may_name hm
  have hl : (wire (labs n)).length ≤ 255 := by rw [← hn.eq, ba_len]; exact hn.size
  obtain ⟨a, b, c⟩ := tk_some (s := s) (p := (p : Int)) (by omega) (by simpa using h) hl
  refine ⟨?_, b, c⟩
  rw [a]
  apply ba_ext
  show (wire (labs n)).map low = _
  rw [map_low_wire _ hn.ok, map_map_low hn.low, hn.eq]
end Go.Proofs.YtlphbeaaeeohjaaDoor
