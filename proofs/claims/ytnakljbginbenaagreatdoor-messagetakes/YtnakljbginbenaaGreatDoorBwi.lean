/- Joined texts: Wma Wpa Wpl Wpn Wtk Wta Wsh Lpt Wst Lwn Wcm. -/
import Derived.Test.YtnakljbginbenaaGreatDoorBnm
import Derived.Test.YtnakljbginbenaaGreatDoorBoc
import Derived.Maps.OwnSet
import Derived.Lib.AppendStr
import Derived.RegionTactic
import Derived.Deep.SlicePairs
import Derived.Carry
import Derived.Laws.CopyRow
import Derived.Deep.RegionLaw

/- Plain mathematics of packs: what Name writes, and what Take reads. -/
namespace Go.Proofs.YtnakljbginbenaaGreatDoor
open Go

/-- Known names, each with its offset. -/
abbrev Kn := List (List UInt8 × Nat)
/-- A known name's offset. -/
def fnd (L : Kn) (k : List UInt8) : Option Nat := (L.find? fun p => p.1 == k).map (·.2)
/-- The two bytes of a pointer. -/
def ptr (a : Nat) : List UInt8 := [UInt8.ofNat (192 + a / 256), UInt8.ofNat (a % 256)]
/-- What is known when the labels of a name are about to be written. -/
def lrn (S : List UInt8) (L : Kn) (k : List UInt8) : Kn := if S.length < 16384 then L ++ [(k, S.length)] else L
/-- What Name makes of a pack. -/
def put : List UInt8 → Kn → List (List UInt8) → List UInt8 × Kn
  | S, L, [] => (S ++ [0], L)
  | S, L, l :: ls => match fnd L (wire (l :: ls)) with
    | some a => (S ++ ptr a, L)
    | none => put (S ++ enc1 l) (lrn S L (wire (l :: ls))) ls

theorem put_nil (S : List UInt8) (L : Kn) : put S L [] = (S ++ [0], L) := by rw [put]
theorem put_hit {S : List UInt8} {L : Kn} {l : List UInt8} {ls : List (List UInt8)} {a : Nat} (h : fnd L (wire (l :: ls)) = some a) : put S L (l :: ls) = (S ++ ptr a, L) := by rw [put, h]
theorem put_miss {S : List UInt8} {L : Kn} {l : List UInt8} {ls : List (List UInt8)} (h : fnd L (wire (l :: ls)) = none) : put S L (l :: ls) = put (S ++ enc1 l) (lrn S L (wire (l :: ls))) ls := by rw [put, h]
theorem wire_cons (l : List UInt8) (ls : List (List UInt8)) : wire (l :: ls) = enc1 l ++ wire ls := by simp [wire]
theorem enc1_len (l : List UInt8) : (enc1 l).length = l.length + 1 := by simp [enc1]
theorem wire_len_cons (l : List UInt8) (ls : List (List UInt8)) : (wire (l :: ls)).length = l.length + 1 + (wire ls).length := by rw [wire_cons, List.length_append, enc1_len]
theorem wire_len_pos (ls : List (List UInt8)) : 1 ≤ (wire ls).length := by simp [wire]

theorem fnd_mem {L : Kn} {k : List UInt8} {a : Nat} (h : fnd L k = some a) : (k, a) ∈ L := by
  unfold fnd at h
  rw [Option.map_eq_some_iff] at h
  obtain ⟨p, hp, rfl⟩ := h
  have h1 := List.find?_some hp
  have h2 := List.mem_of_find?_eq_some hp
  have h3 : p.1 = k := by simpa using h1
  rw [← h3]
  exact h2
theorem fnd_none {L : Kn} {k : List UInt8} (h : ∀ p ∈ L, p.1 ≠ k) : fnd L k = none := by
  unfold fnd
  rw [Option.map_eq_none_iff, List.find?_eq_none]
  intro p hp
  simpa using h p hp
theorem fnd_append (A B : Kn) (k : List UInt8) : fnd (A ++ B) k = (fnd A k).or (fnd B k) := by
  unfold fnd
  rw [List.find?_append]
  cases A.find? (fun p => p.1 == k) <;> rfl
theorem fnd_self (k : List UInt8) (a : Nat) : fnd [(k, a)] k = some a := by simp [fnd]

/-- A pack without known names takes a name as it is. -/
theorem put_fresh : ∀ (ls : List (List UInt8)) (S : List UInt8) (L : Kn), (∀ p ∈ L, (wire ls).length < p.1.length) → (put S L ls).1 = S ++ wire ls
  | [], S, L, _ => by rw [put_nil]; simp [wire]
  | l :: ls, S, L, h => by
    have hn : fnd L (wire (l :: ls)) = none := fnd_none fun p hp e => by have := h p hp; rw [e] at this; omega
    rw [put_miss hn, put_fresh ls, wire_cons, List.append_assoc]
    intro p hp
    have hlen := wire_len_cons l ls
    unfold lrn at hp
    split at hp
    · rcases List.mem_append.1 hp with hp | hp
      · have := h p hp; omega
      · rw [List.mem_singleton.1 hp]; show _ < (wire (l :: ls)).length; omega
    · have := h p hp; omega
/-- A name that was added is known. -/
theorem put_known (l : List UInt8) (ls : List (List UInt8)) (S : List UInt8) (L : Kn) (hS : S.length < 16384) :
    (∃ E, (put S L (l :: ls)).2 = L ++ E) ∧ ∃ a, fnd (put S L (l :: ls)).2 (wire (l :: ls)) = some a := by
  have grow : ∀ (ls : List (List UInt8)) (S : List UInt8) (L : Kn), ∃ E, (put S L ls).2 = L ++ E := by
    intro ls
    induction ls with
    | nil => intro S L; exact ⟨[], by rw [put_nil]; simp⟩
    | cons l ls ih =>
      intro S L
      cases h : fnd L (wire (l :: ls)) with
      | some a => exact ⟨[], by rw [put_hit h]; simp⟩
      | none =>
        obtain ⟨E, hE⟩ := ih (S ++ enc1 l) (lrn S L (wire (l :: ls)))
        rw [put_miss h, hE]
        unfold lrn
        split
        · exact ⟨_, List.append_assoc _ _ _⟩
        · exact ⟨_, rfl⟩
  refine ⟨grow _ _ _, ?_⟩
  cases h : fnd L (wire (l :: ls)) with
  | some a => exact ⟨a, by rw [put_hit h]; exact h⟩
  | none =>
    obtain ⟨E, hE⟩ := grow ls (S ++ enc1 l) (lrn S L (wire (l :: ls)))
    rw [put_miss h, hE]
    refine ⟨S.length, ?_⟩
    unfold lrn
    rw [if_pos hS, fnd_append, fnd_append, h, fnd_self]
    rfl

/-- Do the labels from an offset on end with a zero byte, or with one above 63? -/
def runOk (s : ByteArray) (p : Nat) : Bool := decide (endFrom s p < s.size ∧ (lsz s (endFrom s p) = 0 ∨ 63 < lsz s (endFrom s p)))
theorem runOk_iff {s : ByteArray} {p : Nat} : runOk s p = true ↔ endFrom s p < s.size ∧ (lsz s (endFrom s p) = 0 ∨ 63 < lsz s (endFrom s p)) := by simp [runOk]
def piece (s : ByteArray) (p e : Nat) : List UInt8 := (s.extract p e).data.toList
/-- Where the pointer at an offset leads. -/
def toOf (s : ByteArray) (e : Nat) : Nat := (lsz s e - 192) * 256 + lsz s (e + 1)
/-- Is there a pointer, to an offset below a bound? -/
def ptB (s : ByteArray) (b e : Nat) : Bool := decide (e + 1 < s.size ∧ 192 ≤ lsz s e ∧ toOf s e < b)
theorem ptB_iff {s : ByteArray} {b e : Nat} : ptB s b e = true ↔ e + 1 < s.size ∧ 192 ≤ lsz s e ∧ toOf s e < b := by simp [ptB]
/-- The bytes of the name at an offset, and the offset behind; its first pointer leads below a bound. -/
def tkB (s : ByteArray) (b p : Nat) : Option (List UInt8 × Nat) :=
  if runOk s p = true then
    if lsz s (endFrom s p) = 0 then some (piece s p (endFrom s p) ++ [0], endFrom s p + 1)
    else if h : ptB s b (endFrom s p) = true then (tkB s (toOf s (endFrom s p)) (toOf s (endFrom s p))).map fun r => (piece s p (endFrom s p) ++ r.1, endFrom s p + 2)
    else none
  else none
termination_by b
decreasing_by exact (ptB_iff.1 h).2.2
theorem tkB_bad {s : ByteArray} {b p : Nat} (h : runOk s p = false) : tkB s b p = none := by rw [tkB, if_neg (by rw [h]; decide)]
theorem tkB_zero {s : ByteArray} {b p : Nat} (h : runOk s p = true) (h0 : lsz s (endFrom s p) = 0) : tkB s b p = some (piece s p (endFrom s p) ++ [0], endFrom s p + 1) := by rw [tkB, if_pos h, if_pos h0]
theorem tkB_ptr {s : ByteArray} {b p : Nat} (h : runOk s p = true) (h0 : lsz s (endFrom s p) ≠ 0) (h1 : ptB s b (endFrom s p) = true) :
    tkB s b p = (tkB s (toOf s (endFrom s p)) (toOf s (endFrom s p))).map fun r => (piece s p (endFrom s p) ++ r.1, endFrom s p + 2) := by rw [tkB, if_pos h, if_neg h0, dif_pos h1]
theorem tkB_no {s : ByteArray} {b p : Nat} (h : runOk s p = true) (h0 : lsz s (endFrom s p) ≠ 0) (h1 : ptB s b (endFrom s p) = false) : tkB s b p = none := by
  rw [tkB, if_pos h, if_neg h0, dif_neg (by rw [h1]; decide)]

theorem endFrom_ge (s : ByteArray) : ∀ (m p : Nat), s.size - p ≤ m → p ≤ endFrom s p := by
  intro m
  induction m with
  | zero =>
    intro p h
    have hn : ¬ isL s p = true := fun h' => by have := isL_iff.1 h'; omega
    rw [endFrom_nil hn]; exact Nat.le_refl _
  | succ m ih =>
    intro p h
    by_cases hl : isL s p = true
    · have h' := isL_iff.1 hl
      rw [endFrom_cons hl]
      have := ih (nxt s p) (by unfold nxt at *; omega)
      unfold nxt at *
      omega
    · rw [endFrom_nil hl]; exact Nat.le_refl _
theorem endFrom_ge' (s : ByteArray) (p : Nat) : p ≤ endFrom s p := endFrom_ge s _ p (Nat.le_refl _)
theorem piece_eq (s : ByteArray) (p e : Nat) : piece s p e = (s.data.toList.take e).drop p := extract_list s p e
theorem piece_nil (s : ByteArray) (p : Nat) : piece s p p = [] := by rw [piece_eq, List.drop_take]; simp
theorem piece_len {s : ByteArray} {p e : Nat} (h : e ≤ s.size) : (piece s p e).length = e - p := by rw [piece_eq, List.length_drop, List.length_take, ba_len]; omega
theorem piece_cons {s : ByteArray} (x : At s) {e : Nat} (h : nxt s x.1 ≤ e) : piece s x.1 e = enc1 (lab x) ++ piece s (nxt s x.1) e := by
  have h1 := isL_iff.1 x.2
  have hl : (enc1 (lab x)).length = nxt s x.1 - x.1 := by rw [enc1_len, lab_len]; unfold nxt; omega
  have hlt := x.lt
  rw [piece_eq, piece_eq, List.drop_take, lab_enc x, List.take_append, List.take_of_length_le (by omega), List.drop_take, hl, show e - x.1 - (nxt s x.1 - x.1) = e - nxt s x.1 by omega]
theorem tkB_label {s : ByteArray} {b p : Nat} (h : isL s p = true) : tkB s b p = (tkB s b (nxt s p)).map fun r => (enc1 (lab ⟨p, h⟩) ++ r.1, r.2) := by
  have e1 := endFrom_cons h
  have e2 : runOk s p = runOk s (nxt s p) := by unfold runOk; rw [e1]
  have e3 := piece_cons ⟨p, h⟩ (endFrom_ge' s (nxt s p))
  cases hr : runOk s (nxt s p) with
  | false => rw [tkB_bad hr, tkB_bad (e2.trans hr)]; rfl
  | true =>
    by_cases h0 : lsz s (endFrom s (nxt s p)) = 0
    · rw [tkB_zero hr h0, tkB_zero (e2.trans hr) (by rw [e1]; exact h0), e1, e3]
      simp
    · cases hp : ptB s b (endFrom s (nxt s p)) with
      | true =>
        rw [tkB_ptr hr h0 hp, tkB_ptr (e2.trans hr) (by rw [e1]; exact h0) (by rw [e1]; exact hp), e1, e3, Option.map_map]
        congr 1
        funext r
        simp
      | false => rw [tkB_no hr h0 hp, tkB_no (e2.trans hr) (by rw [e1]; exact h0) (by rw [e1]; exact hp)]; rfl
theorem tkB_mono {s : ByteArray} {b b' p : Nat} (h : b ≤ b') {r : List UInt8 × Nat} (hr : tkB s b p = some r) : tkB s b' p = some r := by
  cases h1 : runOk s p with
  | false => rw [tkB_bad h1] at hr; cases hr
  | true =>
    by_cases h0 : lsz s (endFrom s p) = 0
    · rw [tkB_zero h1 h0] at hr ⊢; exact hr
    · cases hp : ptB s b (endFrom s p) with
      | true =>
        have hp' : ptB s b' (endFrom s p) = true := by
          have := ptB_iff.1 hp
          exact ptB_iff.2 ⟨this.1, this.2.1, by omega⟩
        rw [tkB_ptr h1 h0 hp] at hr
        rw [tkB_ptr h1 h0 hp']
        exact hr
      | false => rw [tkB_no h1 h0 hp] at hr; cases hr

/-- Bytes that stand at an offset. -/
theorem lsz_at {s : ByteArray} {p : Nat} {c : UInt8} {R : List UInt8} (h : s.data.toList.drop p = c :: R) : p < s.size ∧ lsz s p = c.toNat ∧ s.data.toList.drop (p + 1) = R := by
  have hlt : p < s.size := by
    rcases Nat.lt_or_ge p s.size with h1 | h1
    · exact h1
    · rw [List.drop_of_length_le (by rw [ba_len]; exact h1)] at h; cases h
  have h2 := lsz_drop hlt
  rw [h] at h2
  obtain ⟨h3, h4⟩ := List.cons.inj h2
  refine ⟨hlt, ?_, h4.symm⟩
  have h6 := congrArg UInt8.toNat h3
  have h7 : lsz s p ≤ 255 := by rw [lsz_eq hlt]; have := s[p].toNat_lt; omega
  rw [UInt8.toNat_ofNat'] at h6
  omega
theorem isL_at {s : ByteArray} {p : Nat} {l R : List UInt8} (hok : okLb l) (h : s.data.toList.drop p = enc1 l ++ R) : ∃ hl : isL s p = true, nxt s p = p + 1 + l.length ∧ lab ⟨p, hl⟩ = l ∧ s.data.toList.drop (p + 1 + l.length) = R := by
  unfold okLb at hok
  obtain ⟨hlt, hc, hd⟩ := lsz_at (show s.data.toList.drop p = UInt8.ofNat l.length :: (l ++ R) from h)
  rw [UInt8.toNat_ofNat'] at hc
  have hc' : lsz s p = l.length := by omega
  have hn : nxt s p = p + 1 + l.length := by unfold nxt; rw [hc']
  have hlen := congrArg List.length hd
  rw [List.length_drop, ba_len, List.length_append] at hlen
  have hL : isL s p = true := by rw [isL_iff, hn, hc']; omega
  refine ⟨hL, hn, ?_, ?_⟩
  · unfold lab
    rw [extract_list]
    simp only [hn]
    rw [List.drop_take, hd, show p + 1 + l.length - (p + 1) = l.length by omega, List.take_left']
    rfl
  · rw [← List.drop_drop, hd, List.drop_left']
    rfl
theorem tkB_at0 {s : ByteArray} {b p : Nat} {R : List UInt8} (h : s.data.toList.drop p = 0 :: R) : tkB s b p = some ([0], p + 1) := by
  obtain ⟨hlt, hc, _⟩ := lsz_at h
  have hc0 : lsz s p = 0 := hc
  have hn : ¬ isL s p = true := fun h' => (isL_iff.1 h').2.1 hc0
  have he := endFrom_nil hn
  have hr : runOk s p = true := runOk_iff.2 (by rw [he]; exact ⟨hlt, .inl hc0⟩)
  rw [tkB_zero hr (by rw [he]; exact hc0), he, piece_nil]
  rfl
theorem ptr_at {s : ByteArray} {p a : Nat} {R : List UInt8} (ha : a < 16384) (h : s.data.toList.drop p = ptr a ++ R) : runOk s p = true ∧ endFrom s p = p ∧ lsz s p ≠ 0 ∧ p + 1 < s.size ∧ 192 ≤ lsz s p ∧ toOf s p = a := by
  obtain ⟨hlt, hc, hd⟩ := lsz_at (show s.data.toList.drop p = UInt8.ofNat (192 + a / 256) :: (UInt8.ofNat (a % 256) :: R) from h)
  obtain ⟨hlt2, hc2, _⟩ := lsz_at hd
  rw [UInt8.toNat_ofNat'] at hc hc2
  have h1 : lsz s p = 192 + a / 256 := by omega
  have h2 : lsz s (p + 1) = a % 256 := by omega
  have hn : ¬ isL s p = true := fun h' => by have := (isL_iff.1 h').2.2.1; omega
  have he := endFrom_nil hn
  refine ⟨runOk_iff.2 (by rw [he]; exact ⟨hlt, .inr (by omega)⟩), he, by omega, hlt2, by omega, ?_⟩
  unfold toOf
  omega
theorem tkB_atP {s : ByteArray} {b p a : Nat} {R : List UInt8} (ha : a < 16384) (hb : a < b) (h : s.data.toList.drop p = ptr a ++ R) : tkB s b p = (tkB s a a).map fun r => (r.1, p + 2) := by
  obtain ⟨h1, h2, h3, h4, h5, h6⟩ := ptr_at ha h
  rw [tkB_ptr h1 (by rw [h2]; exact h3) (by rw [h2]; exact ptB_iff.2 ⟨h4, h5, by rw [h6]; exact hb⟩), h2, h6, piece_nil]
  rfl
/-- A name that stands as it is. -/
theorem tkB_wire {s : ByteArray} {b : Nat} : ∀ (ls : List (List UInt8)) (p : Nat) (R : List UInt8), (∀ l ∈ ls, okLb l) → s.data.toList.drop p = wire ls ++ R → tkB s b p = some (wire ls, p + (wire ls).length)
  | [], p, R, _, h => tkB_at0 (R := R) (by simpa [wire] using h)
  | l :: ls, p, R, hok, h => by
    rw [wire_cons, List.append_assoc] at h
    obtain ⟨hl, h1, h2, h3⟩ := isL_at (hok l (by simp)) h
    rw [tkB_label hl, h1, h2, tkB_wire ls _ R (fun l' hl' => hok l' (List.mem_cons_of_mem _ hl')) h3, wire_cons, List.length_append, enc1_len]
    simp
    omega

/-- Each known name is read at its offset, whatever is behind. -/
def Good (S : List UInt8) (L : Kn) : Prop := ∀ k a, (k, a) ∈ L → a < 16384 ∧ a < S.length ∧ ∀ (s : ByteArray) (X : List UInt8), s.data.toList = S ++ X → ∃ nx, tkB s a a = some (k, nx)
theorem Good.nil (S : List UInt8) : Good S [] := fun k a h => by cases h
theorem Good.more {S : List UInt8} {L : Kn} (h : Good S L) (X : List UInt8) : Good (S ++ X) L := fun k a hk => by
  obtain ⟨h1, h2, h3⟩ := h k a hk
  exact ⟨h1, by simp; omega, fun s Y e => h3 s (X ++ Y) (by rw [e, List.append_assoc])⟩

theorem put_spec (S0 : List UInt8) (L0 : Kn) (hG : Good S0 L0) : ∀ (ls : List (List UInt8)) (S : List UInt8) (pend : Kn) (Y : List UInt8), S = S0 ++ Y → (∀ l ∈ ls, okLb l) → (∀ p ∈ pend, (wire ls).length < p.1.length) →
    ∃ W E, put S (L0 ++ pend) ls = (S ++ W, L0 ++ pend ++ E) ∧ 1 ≤ W.length ∧ W.length ≤ (wire ls).length ∧
      (∀ (s : ByteArray) (X : List UInt8), s.data.toList = S ++ W ++ X → tkB s S0.length S.length = some (wire ls, S.length + W.length)) ∧
      (∀ k a, (k, a) ∈ E → a < 16384 ∧ S.length ≤ a ∧ a < S.length + W.length ∧ ∀ (s : ByteArray) (X : List UInt8), s.data.toList = S ++ W ++ X → ∃ nx, tkB s S0.length a = some (k, nx))
  | [], S, pend, Y, hS, hok, hp => by
    refine ⟨[0], [], by rw [put_nil, List.append_nil], by simp, by simp [wire], ?_, fun k a h => by cases h⟩
    intro s X e
    have hd : s.data.toList.drop S.length = 0 :: X := by rw [e, List.append_assoc, List.drop_left']; rfl; rfl
    rw [tkB_at0 hd]
    simp [wire]
  | l :: ls, S, pend, Y, hS, hok, hp => by
    have hokl := hok l (by simp)
    have hlen := wire_len_cons l ls
    have hpos := wire_len_pos ls
    cases hf : fnd (L0 ++ pend) (wire (l :: ls)) with
    | some a =>
      have hm : (wire (l :: ls), a) ∈ L0 := by
        rcases List.mem_append.1 (fnd_mem hf) with h | h
        · exact h
        · have := hp _ h; simp at this
      obtain ⟨h1, h2, h3⟩ := hG _ _ hm
      refine ⟨ptr a, [], by rw [put_hit hf, List.append_nil], by simp [ptr], by rw [hlen]; unfold okLb at hokl; simp [ptr]; omega, ?_, fun k a h => by cases h⟩
      intro s X e
      have hd : s.data.toList.drop S.length = ptr a ++ X := by rw [e, List.append_assoc, List.drop_left']; rfl
      obtain ⟨nx, hx⟩ := h3 s (Y ++ ptr a ++ X) (by rw [e, hS]; simp)
      rw [tkB_atP h1 h2 hd, hx]
      rfl
    | none =>
      rw [put_miss hf]
      have hS' : S ++ enc1 l = S0 ++ (Y ++ enc1 l) := by rw [hS, List.append_assoc]
      have hp2 : ∀ p ∈ pend, (wire ls).length < p.1.length := fun p h => by have := hp p h; omega
      have step : ∀ (W' : List UInt8), (∀ (s : ByteArray) (X : List UInt8), s.data.toList = S ++ enc1 l ++ W' ++ X → tkB s S0.length (S ++ enc1 l).length = some (wire ls, (S ++ enc1 l).length + W'.length)) →
          ∀ (s : ByteArray) (X : List UInt8), s.data.toList = S ++ (enc1 l ++ W') ++ X → tkB s S0.length S.length = some (wire (l :: ls), S.length + (enc1 l ++ W').length) := by
        intro W' h s X e
        have hd : s.data.toList.drop S.length = enc1 l ++ (W' ++ X) := by rw [e, List.append_assoc, List.append_assoc, List.drop_left']; rfl
        obtain ⟨hl, h1, h2, h3⟩ := isL_at hokl hd
        have h4 := h s X (by rw [e]; simp)
        rw [List.length_append, enc1_len] at h4
        rw [tkB_label hl, h1, h2, show S.length + 1 + l.length = S.length + (l.length + 1) by omega, h4, wire_cons, List.length_append, enc1_len]
        simp
        omega
      by_cases h16 : S.length < 16384
      · have hlr : lrn S (L0 ++ pend) (wire (l :: ls)) = L0 ++ (pend ++ [(wire (l :: ls), S.length)]) := by unfold lrn; rw [if_pos h16, List.append_assoc]
        obtain ⟨W, E, h1, h2, h3, h4, h5⟩ := put_spec S0 L0 hG ls (S ++ enc1 l) (pend ++ [(wire (l :: ls), S.length)]) (Y ++ enc1 l) hS' (fun l' hl' => hok l' (List.mem_cons_of_mem _ hl')) (fun p h => by
          rcases List.mem_append.1 h with h | h
          · exact hp2 p h
          · rw [List.mem_singleton.1 h]; show _ < (wire (l :: ls)).length; omega)
        have hst := step W h4
        refine ⟨enc1 l ++ W, (wire (l :: ls), S.length) :: E, ?_, by simp; omega, by rw [hlen, List.length_append, enc1_len]; omega, hst, ?_⟩
        · rw [hlr, h1]; simp
        · intro k a hk
          rcases List.mem_cons.1 hk with h | h
          · cases h
            exact ⟨h16, Nat.le_refl _, by rw [List.length_append, enc1_len]; omega, fun s X e => ⟨_, hst s X e⟩⟩
          · obtain ⟨g1, g2, g3, g4⟩ := h5 k a h
            rw [List.length_append] at g2 g3
            exact ⟨g1, by omega, by rw [List.length_append]; omega, fun s X e => g4 s X (by rw [e]; simp)⟩
      · have hlr : lrn S (L0 ++ pend) (wire (l :: ls)) = L0 ++ pend := by unfold lrn; rw [if_neg h16]
        obtain ⟨W, E, h1, h2, h3, h4, h5⟩ := put_spec S0 L0 hG ls (S ++ enc1 l) pend (Y ++ enc1 l) hS' (fun l' hl' => hok l' (List.mem_cons_of_mem _ hl')) hp2
        refine ⟨enc1 l ++ W, E, ?_, by simp; omega, by rw [hlen, List.length_append, enc1_len]; omega, step W h4, ?_⟩
        · rw [hlr, h1]; simp
        · intro k a hk
          obtain ⟨g1, g2, g3, g4⟩ := h5 k a hk
          rw [List.length_append] at g2 g3
          exact ⟨g1, by omega, by rw [List.length_append]; omega, fun s X e => g4 s X (by rw [e]; simp)⟩
/-- What Name writes is read back, and each name that is known then. -/
theorem put_good {S : List UInt8} {L : Kn} (hG : Good S L) (ls : List (List UInt8)) (hok : ∀ l ∈ ls, okLb l) :
    ∃ W, (put S L ls).1 = S ++ W ∧ 1 ≤ W.length ∧ W.length ≤ (wire ls).length ∧ Good (S ++ W) (put S L ls).2 ∧
      ∀ (s : ByteArray) (X : List UInt8), s.data.toList = S ++ W ++ X → tkB s S.length S.length = some (wire ls, (S ++ W).length) := by
  obtain ⟨W, E, h1, h2, h3, h4, h5⟩ := put_spec S L hG ls S [] [] (by simp) hok (fun p h => by cases h)
  rw [List.append_nil] at h1
  rw [h1]
  refine ⟨W, rfl, h2, h3, ?_, fun s X e => by rw [h4 s X e, List.length_append]⟩
  intro k a hk
  rcases List.mem_append.1 hk with h | h
  · exact hG.more W k a h
  · obtain ⟨g1, g2, g3, g4⟩ := h5 k a h
    refine ⟨g1, by rw [List.length_append]; exact g3, fun s X e => ?_⟩
    obtain ⟨nx, hx⟩ := g4 s X e
    exact ⟨nx, tkB_mono g2 hx⟩

/-- What is read is labels, and a zero byte. -/
theorem tkB_name {s : ByteArray} : ∀ (b p : Nat) (r : List UInt8 × Nat), tkB s b p = some r → ∃ ls, (∀ l ∈ ls, okLb l) ∧ r.1 = wire ls ∧ p < r.2 ∧ r.2 ≤ s.size := by
  intro b
  induction b using Nat.strongRecOn with
  | ind b ih =>
    intro p r h
    have hge := endFrom_ge' s p
    cases hr : runOk s p with
    | false => rw [tkB_bad hr] at h; cases h
    | true =>
      have hlt := (runOk_iff.1 hr).1
      have hpc : piece s p (endFrom s p) = ((labsFrom s p).map lab).flatMap enc1 := by
        have h1 := split_from s s.size p (by omega)
        have h2 : s.data.toList.drop p = piece s p (endFrom s p) ++ s.data.toList.drop (endFrom s p) := by
          rw [piece_eq, List.drop_take]
          have : s.data.toList.drop (endFrom s p) = (s.data.toList.drop p).drop (endFrom s p - p) := by rw [List.drop_drop]; congr 1; omega
          rw [this, List.take_append_drop]
        rw [h2] at h1
        exact List.append_cancel_right h1
      have hokl : ∀ l ∈ (labsFrom s p).map lab, okLb l := by
        intro l hl
        obtain ⟨x, _, rfl⟩ := List.mem_map.1 hl
        exact lab_ok x
      by_cases h0 : lsz s (endFrom s p) = 0
      · rw [tkB_zero hr h0, Option.some.injEq] at h
        subst h
        refine ⟨(labsFrom s p).map lab, hokl, by show piece _ _ _ ++ [0] = _; rw [hpc]; rfl, ?_, ?_⟩ <;> show _ <;> simp only <;> omega
      · cases hp : ptB s b (endFrom s p) with
        | false => rw [tkB_no hr h0 hp] at h; cases h
        | true =>
          obtain ⟨p1, p2, p3⟩ := ptB_iff.1 hp
          rw [tkB_ptr hr h0 hp, Option.map_eq_some_iff] at h
          obtain ⟨q, hq, rfl⟩ := h
          obtain ⟨ls, g1, g2, _, _⟩ := ih _ p3 _ q hq
          refine ⟨(labsFrom s p).map lab ++ ls, ?_, ?_, ?_, ?_⟩
          · intro l hl
            rcases List.mem_append.1 hl with hl | hl
            · exact hokl l hl
            · exact g1 l hl
          · show piece _ _ _ ++ q.1 = _
            rw [hpc, g2]
            simp [wire]
          · simp only; omega
          · simp only; omega

/-- wire.Take's results. -/
def tkN (s : ByteArray) (p : Int) : Option (List UInt8 × Nat) := if 0 ≤ p then (tkB s p.toNat p.toNat).filter fun r => decide (r.1.length ≤ 255) else none
def tkS (s : ByteArray) (p : Int) : ByteArray := match tkN s p with | some r => ⟨(r.1.map low).toArray⟩ | none => ⟨#[]⟩
def tkX (s : ByteArray) (p : Int) : Nat := match tkN s p with | some r => r.2 | none => 0
def tkE (s : ByteArray) (p : Int) : Nat := match tkN s p with | some _ => 0 | none => 2
theorem tk_some {s : ByteArray} {p : Int} {r : List UInt8 × Nat} (h0 : 0 ≤ p) (h : tkB s p.toNat p.toNat = some r) (h2 : r.1.length ≤ 255) : tkS s p = ⟨(r.1.map low).toArray⟩ ∧ tkX s p = r.2 ∧ tkE s p = 0 := by
  have : tkN s p = some r := by unfold tkN; rw [if_pos h0, h]; simp [Option.filter, h2]
  unfold tkS tkX tkE
  rw [this]
  exact ⟨rfl, rfl, rfl⟩
theorem tk_long {s : ByteArray} {p : Int} {r : List UInt8 × Nat} (h0 : 0 ≤ p) (h : tkB s p.toNat p.toNat = some r) (h2 : 255 < r.1.length) : tkS s p = ⟨#[]⟩ ∧ tkX s p = 0 ∧ tkE s p = 2 := by
  have : tkN s p = none := by unfold tkN; rw [if_pos h0, h]; simp [Option.filter]; omega
  unfold tkS tkX tkE
  rw [this]
  exact ⟨rfl, rfl, rfl⟩
theorem tk_none {s : ByteArray} {p : Int} (h : p < 0 ∨ tkB s p.toNat p.toNat = none) : tkS s p = ⟨#[]⟩ ∧ tkX s p = 0 ∧ tkE s p = 2 := by
  have : tkN s p = none := by
    unfold tkN
    rcases h with h | h
    · rw [if_neg (by omega)]
    · split
      · rw [h]; rfl
      · rfl
  unfold tkS tkX tkE
  rw [this]
  exact ⟨rfl, rfl, rfl⟩
/-- What Take tells is a name, or nothing. -/
theorem tk_cases (s : ByteArray) (p : Int) : (tkE s p = 2 ∧ tkS s p = ⟨#[]⟩ ∧ tkX s p = 0) ∨ (tkE s p = 0 ∧ mayB (tkS s p) = true ∧ p < (tkX s p : Nat) ∧ tkX s p ≤ s.size) := by
  by_cases h0 : 0 ≤ p
  · cases h : tkB s p.toNat p.toNat with
    | none => obtain ⟨a, b, c⟩ := tk_none (s := s) (p := p) (.inr h); exact .inl ⟨c, a, b⟩
    | some r =>
      by_cases h2 : r.1.length ≤ 255
      · obtain ⟨a, b, c⟩ := tk_some h0 h h2
        obtain ⟨ls, g1, g2, g3, g4⟩ := tkB_name _ _ r h
        refine .inr ⟨c, ?_, by rw [b]; omega, by rw [b]; exact g4⟩
        rw [a]
        refine (NameIs.may (ls := ls.map (·.map low)) ⟨?_, ?_, ?_, ?_⟩).1
        · intro l hl
          obtain ⟨x, hx, rfl⟩ := List.mem_map.1 hl
          exact okLb_low (g1 x hx)
        · intro l hl
          obtain ⟨x, hx, rfl⟩ := List.mem_map.1 hl
          rw [List.map_map]
          congr 1
          funext c
          exact low_low c
        · show (r.1.map low) = _
          rw [g2, map_low_wire ls g1]
        · show (r.1.map low).length ≤ 255
          rw [List.length_map]; exact h2
      · obtain ⟨a, b, c⟩ := tk_long h0 h (by omega); exact .inl ⟨c, a, b⟩
  · obtain ⟨a, b, c⟩ := tk_none (s := s) (p := p) (.inl (by omega)); exact .inl ⟨c, a, b⟩
/-- A name that is read as its bytes. -/
theorem tk_name {s n : ByteArray} {p k : Nat} (hm : mayB n = true) (h : tkB s p p = some (wire (labs n), k)) : tkS s p = n ∧ tkX s p = k ∧ tkE s p = 0 := by
  have hn := may_name hm
  have hl : (wire (labs n)).length ≤ 255 := by rw [← hn.eq, ba_len]; exact hn.size
  obtain ⟨a, b, c⟩ := tk_some (s := s) (p := (p : Int)) (by omega) (by simpa using h) hl
  refine ⟨?_, b, c⟩
  rw [a]
  apply ba_ext
  show (wire (labs n)).map low = _
  rw [map_low_wire _ hn.ok, map_map_low hn.low, hn.eq]
end Go.Proofs.YtnakljbginbenaaGreatDoor

/- What a pack is in memory; the contracts of wire.New, Add, Len and Out. -/
namespace Go.Proofs.YtnakljbginbenaaGreatDoor
open Go.RowKit Go.Maps
set_option linter.unusedVariables false

/-- Blocks that are neither bytes nor a pack stay as they are. -/
def Kp (w w' : World) : Prop := ∀ (g : Nat) (cur : Array Value) (t : TypeId) (f : Nat × Nat), t ≠ 5 → t ≠ 91 → w.heap[g]? = some (.cells cur t f) → w'.heap[g]? = some (.cells cur t f)
theorem Kp.refl (w : World) : Kp w w := fun _ _ _ _ _ _ h => h
theorem Kp.trans {a b c : World} (h : Kp a b) (k : Kp b c) : Kp a c := fun g cur t f h1 h2 h3 => k g cur t f h1 h2 (h g cur t f h1 h2 h3)
theorem heap_lt {w : World} {g : Nat} {o : Obj} (h : w.heap[g]? = some o) : g < w.heap.size := (Array.getElem?_eq_some_iff.1 h).1
theorem Kp.below {w w' : World} (h : Below w.heap.size w w') : Kp w w' := fun g cur t f _ _ hg => (h.block g (heap_lt hg)).trans hg
theorem grown_set (w : World) (a : Addr) (u : Value) : w.grownBy (w.setCell a u) (some a.block) :=
  ⟨rfl, rfl, rfl, by simp, fun k _ hne => Below.heap_setCell w a u k (fun e => hne (by rw [e]))⟩
/-- A turn of one block that is bytes, or a pack. -/
theorem Kp.grown {w w' : World} {row : Option Nat} (hg : w.grownBy w' row) (hr : ∀ g, row = some g → (∃ cur f, w.heap[g]? = some (.cells cur 5 f)) ∨ (∃ cur f, w.heap[g]? = some (.cells cur 91 f)) ∨ (∃ es c, w.heap[g]? = some (.map es c))) : Kp w w' := by
  intro g cur t f h5 hP h
  rw [hg.block g (heap_lt h) (fun e => ?_)]
  · exact h
  · rcases hr g e.symm with ⟨c, f', h'⟩ | ⟨c, f', h'⟩ | ⟨c, f', h'⟩ <;> rw [h] at h' <;> cases h'
    · exact h5 rfl
    · exact hP rfl

/-- The known names in a map. -/
def IsM (B : Nat) (mv : Value) (L : Kn) (w : World) : Prop :=
  (mv = .map none ∧ L = []) ∨ ∃ b n, ∃ D : DataW Unit, mv = .map (some b) ∧ B ≤ b ∧ w.ownsMap Tryz.prog 9 (plainElem Tryz.prog 3) b n D ∧ n ≤ L.length ∧
    ∀ k, has D (.string k) = (fnd L k).isSome ∧ ∀ a, fnd L k = some a → D.atKey (.string k) (.lit (.int .i64 0)) = .lit (.int .i64 (a : Nat))
/-- A pack in a block holds these bytes, and knows these names. -/
def IsP (B b : Nat) (S : List UInt8) (L : Kn) (w : World) : Prop :=
  B ≤ b ∧ ∃ v mv, w.heap[b]? = some (.cells #[v, mv] 91 (0, 0)) ∧ w.ownsRow B 5 1 v S.length (Lib.byteCells S) ∧ IsM B mv L w

theorem row_is {w : World} {B : Nat} {v : Value} {n : Nat} {xs : List Value} (h : w.ownsRow B 5 1 v n xs) : ∀ g, v.ownBlock = some g → B ≤ g ∧ ∃ cur, w.heap[g]? = some (.cells cur 5 (0, 0)) := by
  intro g hg
  rcases h.2 with ⟨rfl, _⟩ | ⟨g', cap, cur, rfl, hb, hgg, _⟩
  · cases hg
  · cases hg
    exact ⟨hb, cur, hgg⟩
theorem IsM.kept {B : Nat} {mv : Value} {L : Kn} {w w' : World} {row : Option Nat} (h : IsM B mv L w) (hg : w.grownBy w' row) (hr : ∀ g, row = some g → ∃ cur t f, w.heap[g]? = some (.cells cur t f)) : IsM B mv L w' := by
  rcases h with h | ⟨b, n, D, rfl, hB, hown, rest⟩
  · exact .inl h
  · refine .inr ⟨b, n, D, rfl, hB, hown.kept hg (fun e => ?_), rest⟩
    obtain ⟨cur, t, f, h1⟩ := hr b e.symm
    obtain ⟨es, c, h2, _⟩ := hown
    rw [h1] at h2
    cases h2
theorem IsM.below {B : Nat} {mv : Value} {L : Kn} {w w' : World} (h : IsM B mv L w) (hb : Below w.heap.size w w') : IsM B mv L w' := by
  rcases h with h | ⟨b, n, D, rfl, hB, hown, rest⟩
  · exact .inl h
  · exact .inr ⟨b, n, D, rfl, hB, hown.kept (row := none) ⟨hb.os, hb.tape, hb.output, hb.size, fun k hk _ => hb.block k hk⟩ (by simp), rest⟩
theorem IsP.below {B b : Nat} {S : List UInt8} {L : Kn} {w w' : World} (h : IsP B b S L w) (hb : Below w.heap.size w w') : IsP B b S L w' := by
  obtain ⟨h1, v, mv, h2, h3, h4⟩ := h
  exact ⟨h1, v, mv, (hb.block b (heap_lt h2)).trans h2, h3.kept (row := none) ⟨hb.os, hb.tape, hb.output, hb.size, fun k hk _ => hb.block k hk⟩ (by cases v.ownBlock <;> simp), h4.below hb⟩
theorem IsP.lt {B b : Nat} {S : List UInt8} {L : Kn} {w : World} (h : IsP B b S L w) : b < w.heap.size := by
  obtain ⟨h1, v, mv, h2, _⟩ := h
  exact heap_lt h2
theorem blk_cell {w : World} {b : Nat} {cs : Array Value} {t : TypeId} (h : w.heap[b]? = some (.cells cs t (0, 0))) (i : Nat) : w.cell? ⟨b, i, none⟩ = cs[i]? := cell_of_row w b i cs t (0, 0) h
theorem blk_frozen {w : World} {b : Nat} {cs : Array Value} {t : TypeId} (h : w.heap[b]? = some (.cells cs t (0, 0))) (i : Nat) : w.frozen? ⟨b, i, none⟩ = false := by simp [World.frozen?, h]
theorem blk_set {w : World} {b : Nat} {cs : Array Value} {t : TypeId} (h : w.heap[b]? = some (.cells cs t (0, 0))) (i : Nat) (u : Value) : (w.setCell ⟨b, i, none⟩ u).heap[b]? = some (.cells (cs.setIfInBounds i u) t (0, 0)) := Oc.Blk.set_ h i u

set_option maxHeartbeats 400000 in
theorem add_any (B b : Nat) (S : List UInt8) (L : Kn) (s : ByteArray) (w : World) (h : IsP B b S L w) (hl : S.length + s.size ≤ 140737488355328) (hB : B ≤ w.heap.size) :
    Calls Tryz.prog 48 #[.pointer (some ⟨b, 0, none⟩), .string s] w fun e w' => e = .returned (.tuple #[]) ∧ IsP B b (S ++ s.data.toList) L w' ∧ Below B w w' ∧ Kp w w' := by
  obtain ⟨hBb, v, mv, hb, hrow, hm⟩ := h
  obtain ⟨A, cap, rfl⟩ := own_form hrow
  obtain ⟨i0, hi, hz0, hz1, hz2⟩ := info_parts info5
  have c0 : w.cell? ⟨b, 0, none⟩ = some (.slice A S.length cap) := blk_cell hb 0
  have hne : ∀ g, (Value.slice A S.length cap).ownBlock = some g → g ≠ b := fun g hg e => by
    obtain ⟨_, cur, h1⟩ := row_is hrow g hg
    rw [e, hb] at h1
    cases h1
  have HNE := Lib.hid hne
  have HB := Lib.hid hb
  clear hne hb
  go_enter Tryz.func48, Tryz.ntmps48
  go_wp2_with (at_builtin; refine Lib.wpList_append_own_string _ rfl _ _ 88 9 rfl B 5 i0 Tryz.underlying88 Tryz.underlying9 hi hz0 hz1 hz2 (.slice A S.length cap) _ _ rfl hrow s rfl (by unfold maxLen; omega) hl hB ?_; intro v' w1 hown' hgrow _; obtain ⟨A', cap', rfl⟩ := own_form hown'; have HB1 := Lib.hid ((hgrow.block b (heap_lt HB.out) (fun e => HNE.out b e.symm rfl)).trans HB.out); have c1 : w1.cell? ⟨b, 0, none⟩ = some (.slice A S.length cap) := blk_cell HB1.out 0; have f1 : w1.frozen? ⟨b, 0, none⟩ = false := blk_frozen HB1.out 0)
  go_end0
  have hb1 := HB1.out
  have hm1 : IsM B mv L w1 := hm.kept hgrow (fun g hg => by obtain ⟨_, cur, h1⟩ := row_is hrow g hg; exact ⟨cur, 5, (0, 0), h1⟩)
  have hset := grown_set w1 ⟨b, 0, none⟩ (.slice A' (S.length + s.size) cap')
  refine ⟨rfl, ⟨hBb, .slice A' (S.length + s.size) cap', mv, blk_set hb1 0 _, ?_, hm1.kept hset (fun g hg => by cases hg; exact ⟨_, _, _, hb1⟩)⟩, ?_, ?_⟩
  · have h1 := hown'.kept hset (by
      cases hv : (Value.slice A' (S.length + s.size) cap').ownBlock with
      | none => exact .inl rfl
      | some g =>
        refine .inr (fun e => ?_)
        obtain ⟨_, cur, h2⟩ := row_is hown' g hv
        cases e
        rw [hb1] at h2
        cases h2)
    rw [List.length_append, ba_len, Lib.byteCells_append, ← Lib.strCells_eq]
    exact h1
  · exact ((Below.refl B w).grown hgrow hB (fun k hk => (row_is hrow k hk).1)).setCell hBb _
  · refine (Kp.grown hgrow (fun g hg => ?_)).trans (Kp.grown hset (fun g hg => ?_))
    · obtain ⟨_, cur, h1⟩ := row_is hrow g hg; exact .inl ⟨cur, _, h1⟩
    · cases hg; exact .inr (.inl ⟨_, _, hb1⟩)

theorem add_nil (s : ByteArray) (w : World) : Calls Tryz.prog 48 #[.pointer none, .string s] w fun e w' => e = .returned (.tuple #[]) ∧ w = w' := by
  go_enter Tryz.func48, Tryz.ntmps48
  go_wp2_with fail
  go_end0
  exact ⟨rfl, rfl⟩

theorem new_any (w : World) : Calls Tryz.prog 47 #[] w fun e w' => e = .returned (.pointer (some ⟨w.heap.size, 0, none⟩)) ∧ IsP w.heap.size w.heap.size [] [] w' ∧ Below w.heap.size w w' := by
  go_enter Tryz.func47, Tryz.ntmps47
  go_wp2_with fail
  go_ret
  exact ⟨rfl, ⟨Nat.le_refl _, .slice none 0 0, .map none, World.alloc_heap_new w _, World.ownsRow_nil _ _ _ _, .inl ⟨rfl, rfl⟩⟩, (Below.refl _ _).alloc (Nat.le_refl _) _⟩

theorem len_any (B b : Nat) (S : List UInt8) (L : Kn) (w : World) (h : IsP B b S L w) :
    Calls Tryz.prog 24 #[.pointer (some ⟨b, 0, none⟩)] w fun e w' => e = .returned (.int .i64 (S.length : Nat)) ∧ w = w' := by
  obtain ⟨hBb, v, mv, hb, hrow, hm⟩ := h
  obtain ⟨A, cap, rfl⟩ := own_form hrow
  have c0 := blk_cell hb 0
  simp at c0
  go_enter Tryz.func24, Tryz.ntmps24
  go_wp2_with fail
  go_ret
  exact ⟨rfl, rfl⟩
theorem len_nil (w : World) : Calls Tryz.prog 24 #[.pointer none] w fun e w' => e = .returned (.int .i64 0) ∧ w = w' := by
  go_enter Tryz.func24, Tryz.ntmps24
  go_wp2_with fail
  go_ret
  exact ⟨rfl, rfl⟩
theorem out_any (B b : Nat) (S : List UInt8) (L : Kn) (w : World) (h : IsP B b S L w) :
    Calls Tryz.prog 25 #[.pointer (some ⟨b, 0, none⟩)] w fun e w' => e = .returned (.string ⟨S.toArray⟩) ∧ w = w' := by
  obtain ⟨hBb, v, mv, hb, hrow, hm⟩ := h
  have hcv := conv_own hrow
  obtain ⟨A, cap, rfl⟩ := own_form hrow
  have c0 := blk_cell hb 0
  simp at c0
  go_enter Tryz.func25, Tryz.ntmps25
  go_wp2_with fail
  go_ret
  exact ⟨rfl, rfl⟩
theorem out_nil (w : World) : Calls Tryz.prog 25 #[.pointer none] w fun e w' => e = .returned (.string ⟨#[]⟩) ∧ w = w' := by
  go_enter Tryz.func25, Tryz.ntmps25
  go_wp2_with fail
  go_ret
  exact ⟨rfl, rfl⟩
end Go.Proofs.YtnakljbginbenaaGreatDoor

/- The contract of (*wire.Pack).learn: a name becomes known. -/
namespace Go.Proofs.YtnakljbginbenaaGreatDoor
open Go.RowKit Go.Maps
set_option linter.unusedVariables false

theorem law9 : Keyed Tryz.prog 9 := string_keyed Tryz.underlying9
theorem zero3 (w : World) : (zeroValue 3).run Tryz.prog w = .ok (.int .i64 0) w := by kernel_rfl
theorem key_str (n : ByteArray) (h : n.size ≤ maxLen) : keyOf Tryz.prog 9 (.string n) = some (.string n.data.toList) := WideMaps.keyOf_string_mk Tryz.underlying9 h

theorem map_ne (bm : Nat) (w : World) : (binOp .eql 89 (.map (some bm)) (.map none)).run Tryz.prog w = .ok (.bool false) w := by kernel_rfl
theorem map_eq (w : World) : (binOp .eql 89 (.map none) (.map none)).run Tryz.prog w = .ok (.bool true) w := by kernel_rfl

set_option maxHeartbeats 400000 in
theorem learn_map (B b bm m : Nat) (D : DataW Unit) (S : List UInt8) (L : Kn) (n : ByteArray) (w : World) (h : IsP B b S L w) (c1 : w.cell? ⟨b, 1, none⟩ = some (.map (some bm))) (hown : w.ownsMap Tryz.prog 9 (plainElem Tryz.prog 3) bm m D) (hm : m < maxLen) (hn : n.size ≤ maxLen) (hl : S.length < 16384) :
    Calls Tryz.prog 104 #[.pointer (some ⟨b, 0, none⟩), .string n] w fun e w' => e = .returned (.tuple #[]) ∧ ∃ w1, w1.ownsMap Tryz.prog 9 (plainElem Tryz.prog 3) bm (m + 1) (D.put (.string n.data.toList) (.lit (.int .i64 (S.length : Nat)))) ∧ w.drew.mapTurned w1 bm ∧ w' = w1 := by
  have hwf : (Lit.int .i64 ((S.length : Nat) : Int)).wf = true := WalkArith.wf_i64 (by omega)
  obtain ⟨w1, hrun, hown1, hturn⟩ := (show w.drew.ownsMap Tryz.prog 9 (plainElem Tryz.prog 3) bm m D from hown).store law9 Tryz.underlying89 hm (key_str n hn) (plainElem_int (H := Unit) Tryz.underlying3 hwf)
  have hP : IsP B b S L w.drew := h
  have b1 : decide (16384 ≤ (S.length : Int)) = false := by simp; omega
  have H1 := Lib.hid hown1
  have H2 := Lib.hid hturn
  have HR := Lib.hid hrun
  have HP := Lib.hid hP
  clear hown1 hturn hown hrun hP hwf hm hn
  have hne := map_ne bm w
  go_enter Tryz.func104, Tryz.ntmps104
  go_wp2_with (go_at_call 24; refine (len_any B b S L _ h).mono ?_; rintro e w2 ⟨rfl, rfl⟩)
  have hrun := HR.out
  clear hne
  go_region_with (go_at_call 24; refine (len_any B b S L _ HP.out).mono ?_; rintro e w2 ⟨rfl, rfl⟩)
  all_goals
    go_end0
    exact ⟨rfl, _, H1.out, H2.out, rfl⟩

theorem isM_put {B bm m : Nat} {D : DataW Unit} {L : Kn} {w : World} {k : List UInt8} {a : Nat} (hB : B ≤ bm) (hm : m ≤ L.length) (hown : w.ownsMap Tryz.prog 9 (plainElem Tryz.prog 3) bm (m + 1) (D.put (.string k) (.lit (.int .i64 (a : Nat))))) (hD : IsMap D)
    (hk : ∀ k, has D (.string k) = (fnd L k).isSome ∧ ∀ a, fnd L k = some a → D.atKey (.string k) (.lit (.int .i64 0)) = .lit (.int .i64 (a : Nat))) (hno : fnd L k = none) : IsM B (.map (some bm)) (L ++ [(k, a)]) w := by
  refine .inr ⟨bm, m + 1, _, rfl, hB, hown, by simp; exact hm, fun k' => ?_⟩
  rw [fnd_append]
  by_cases e : k' = k
  · subst e
    rw [has_put_same hD (k := .string k') trivial, hno, fnd_self]
    refine ⟨rfl, fun a' ha => ?_⟩
    rw [atKey_put_same hD (k := .string k') trivial]
    cases ha
    rfl
  · have hne : Lit.string k' ≠ Lit.string k := fun h => e (by cases h; rfl)
    have h1 : fnd [(k, a)] k' = none := fnd_none fun p hp h => by rw [List.mem_singleton.1 hp] at h; exact e h.symm
    rw [has_put_other hne, atKey_put_other hne, h1, Option.or_none]
    exact hk k'

set_option maxHeartbeats 400000 in
theorem learn_none (B b : Nat) (v : Value) (S : List UInt8) (n : ByteArray) (w : World) (hBb : B ≤ b) (hB : B ≤ w.heap.size) (hb : w.heap[b]? = some (.cells #[v, .map none] 91 (0, 0))) (hrow : w.ownsRow B 5 1 v S.length (Lib.byteCells S)) (hn : n.size ≤ maxLen) (hl : S.length < 16384) :
    Calls Tryz.prog 104 #[.pointer (some ⟨b, 0, none⟩), .string n] w fun e w' => e = .returned (.tuple #[]) ∧ IsP B b S (lrn S [] n.data.toList) w' ∧ Below B w w' ∧ Kp w w' := by
  have hwf : (Lit.int .i64 ((S.length : Nat) : Int)).wf = true := WalkArith.wf_i64 (by omega)
  have hlt := heap_lt hb
  have hbA : (w.alloc (.map #[] 0)).heap[b]? = some (.cells #[v, .map none] 91 (0, 0)) := (Below.heap_alloc w _ b hlt).trans hb
  obtain ⟨W, hW⟩ : ∃ W, W = (w.alloc (.map #[] 0)).setCell ⟨b, 1, none⟩ (.map (some w.heap.size)) := ⟨_, rfl⟩
  have hset := grown_set (w.alloc (.map #[] 0)) ⟨b, 1, none⟩ (.map (some w.heap.size))
  rw [← hW] at hset
  have hbW : W.heap[b]? = some (.cells #[v, .map (some w.heap.size)] 91 (0, 0)) := by rw [hW]; exact blk_set hbA 1 _
  have hownW : W.ownsMap Tryz.prog 9 (plainElem Tryz.prog 3) w.heap.size 0 (.map [] : DataW Unit) := (World.ownsMap_made w Tryz.prog 9 (plainElem Tryz.prog 3)).kept hset (fun e => by have e' : w.heap.size = b := Option.some.inj e; omega)
  have hrowW : W.ownsRow B 5 1 v S.length (Lib.byteCells S) := (hrow.alloc _).kept hset (by
      cases hv : v.ownBlock with
      | none => exact .inl rfl
      | some g =>
        refine .inr (fun e => ?_)
        obtain ⟨_, cur, h2⟩ := row_is hrow g hv
        cases e
        rw [hb] at h2
        cases h2)
  have hPW : IsP B b S [] W.drew := ⟨hBb, v, _, hbW, hrowW, .inr ⟨_, 0, _, rfl, hB, hownW, by simp, fun k => ⟨rfl, fun a ha => by cases ha⟩⟩⟩
  have hP : IsP B b S [] w := ⟨hBb, v, _, hb, hrow, .inl ⟨rfl, rfl⟩⟩
  have hbelW : Below B w W := by rw [hW]; exact ((Below.refl B w).alloc hB _).setCell hBb _
  have hkpW : Kp w W := (Kp.grown (World.grownBy_alloc w (.map #[] 0) none) (fun g hg => by cases hg)).trans (Kp.grown hset (fun g hg => by cases hg; exact .inr (.inl ⟨_, _, hbA⟩)))
  obtain ⟨w1, hrun, hown1, hturn⟩ := (show W.drew.ownsMap Tryz.prog 9 (plainElem Tryz.prog 3) w.heap.size 0 (.map [] : DataW Unit) from hownW).store law9 Tryz.underlying89 (by decide) (key_str n hn) (plainElem_int (H := Unit) Tryz.underlying3 hwf)
  have hg0 := hturn.grown
  have hg1 : W.grownBy w1 (some w.heap.size) := ⟨hg0.os, hg0.tape, hg0.output, hg0.size, hg0.block⟩
  have hfin : IsP B b S (lrn S [] n.data.toList) w1 := by
    unfold lrn
    rw [if_pos hl]
    refine ⟨hBb, v, _, (hg1.block b (heap_lt hbW) (fun e => by have e' : b = w.heap.size := Option.some.inj e; omega)).trans hbW, hrowW.kept hg1 ?_, isM_put hB (Nat.le_refl _) hown1 isMap_empty (fun k => ⟨rfl, fun a ha => by cases ha⟩) rfl⟩
    cases hv : v.ownBlock with
    | none => exact .inl rfl
    | some g =>
      refine .inr (fun e => ?_)
      have h2 := (hrow.lt g hv).2
      have e' : g = w.heap.size := Option.some.inj e
      omega
  have hbel : Below B w w1 := hbelW.grown hg1 (Nat.le_trans hB hbelW.size) (fun k hk => by cases hk; exact hB)
  have hkp : Kp w w1 := hkpW.trans (Kp.grown hg1 (fun g hg => by cases hg; obtain ⟨es, c, h1, _⟩ := hownW; exact .inr (.inr ⟨_, _, h1⟩)))
  have b1 : decide (16384 ≤ (S.length : Int)) = false := by simp; omega
  have hme := map_eq w
  have c0 : w.cell? ⟨b, 1, none⟩ = some (.map none) := blk_cell hb 1
  have c1 : (w.alloc (.map #[] 0)).cell? ⟨b, 1, none⟩ = some (.map none) := blk_cell hbA 1
  have f1 : (w.alloc (.map #[] 0)).frozen? ⟨b, 1, none⟩ = false := blk_frozen hbA 1
  have c2 : W.cell? ⟨b, 1, none⟩ = some (.map (some w.heap.size)) := blk_cell hbW 1
  have HR := Lib.hid hrun
  have HP := Lib.hid hPW
  have HF := Lib.hid (And.intro hfin (And.intro hbel hkp))
  have HW := Lib.hid hW
  have HC := Lib.hid c2
  clear hg0 hown1 hturn hrun hPW hwf hn hbA hset hbW hownW hrowW hbelW hkpW hg1 hfin hbel hkp hlt hb hrow c2 hW
  have hmm := @run_makeMap Tryz.prog
  go_enter Tryz.func104, Tryz.ntmps104
  go_wp2_with (go_at_call 24; refine (len_any B b S [] _ hP).mono ?_; rintro e w2 ⟨rfl, rfl⟩)
  rw [← HW.out]
  have hrun := HR.out
  have c2 := HC.out
  clear hmm hme c0 c1 f1 hP
  go_region_with (go_at_call 24; refine (len_any B b S [] _ HP.out).mono ?_; rintro e w2 ⟨rfl, rfl⟩)
  all_goals
    go_end0
    exact ⟨rfl, HF.out.1, HF.out.2.1, HF.out.2.2⟩
end Go.Proofs.YtnakljbginbenaaGreatDoor

/- The contracts of (*wire.Pack).learn and (*wire.Pack).Name. -/
namespace Go.Proofs.YtnakljbginbenaaGreatDoor
open Go.RowKit Go.Maps
set_option linter.unusedVariables false

theorem learn_any (B b : Nat) (S : List UInt8) (L : Kn) (n : ByteArray) (w : World) (h : IsP B b S L w) (hB : B ≤ w.heap.size) (hL : L.length < maxLen) (hn : n.size ≤ maxLen) (hS : S.length ≤ 140737488355328) (hno : fnd L n.data.toList = none) :
    Calls Tryz.prog 104 #[.pointer (some ⟨b, 0, none⟩), .string n] w fun e w' => e = .returned (.tuple #[]) ∧ IsP B b S (lrn S L n.data.toList) w' ∧ Below B w w' ∧ Kp w w' := by
  by_cases hl : S.length < 16384
  · have h' := h
    obtain ⟨hBb, v, mv, hb, hrow, hm⟩ := h
    rcases hm with ⟨rfl, rfl⟩ | ⟨bm, m, D, rfl, hBm, hown, hmL, hk⟩
    · exact learn_none B b v S n w hBb hB hb hrow hn hl
    · refine (learn_map B b bm m D S L n w h' (blk_cell hb 1) hown (by omega) hn hl).mono ?_
      rintro e w' ⟨rfl, w1, hown1, hturn, rfl⟩
      have hg0 := hturn.grown
      have hg : w.grownBy w' (some bm) := ⟨hg0.os, hg0.tape, hg0.output, hg0.size, hg0.block⟩
      have hmb : ∃ es c, w.heap[bm]? = some (.map es c) := by obtain ⟨es, c, h1, _⟩ := hown; exact ⟨es, c, h1⟩
      refine ⟨rfl, ⟨hBb, v, _, (hg.block b (heap_lt hb) (fun e => ?_)).trans hb, hrow.kept hg ?_, ?_⟩, (Below.refl B w).grown hg hB (fun k hk => by cases hk; exact hBm), Kp.grown hg (fun g hg => by cases hg; exact .inr (.inr hmb))⟩
      · obtain ⟨es, c, h1⟩ := hmb
        cases e
        rw [hb] at h1
        cases h1
      · cases hv : v.ownBlock with
        | none => exact .inl rfl
        | some g =>
          refine .inr (fun e => ?_)
          obtain ⟨_, cur, h2⟩ := row_is hrow g hv
          obtain ⟨es, c, h1⟩ := hmb
          cases e
          rw [h1] at h2
          cases h2
      · unfold lrn
        rw [if_pos hl]
        exact isM_put hBm hmL hown1 hown.isMap hk hno
  · have b1 : decide (16384 ≤ (S.length : Int)) = true := by simp; omega
    have e1 : lrn S L n.data.toList = L := by unfold lrn; rw [if_neg hl]
    have HE := Lib.hid e1
    clear e1 hn hL hno
    go_enter Tryz.func104, Tryz.ntmps104
    go_wp2_with fail
    refine (len_any B b S L _ h).mono ?_; rintro e w2 ⟨rfl, rfl⟩
    go_wp2_with fail
    (try simp only [Exit.inBlock, Exit.then]); refine bodyPost_ret (results_none rfl _ _ _) rfl ?_
    exact ⟨rfl, by rw [HE.out]; exact h, Below.refl _ _, Kp.refl _⟩

/-- Offsets that a pointer has room for; not more names than bytes. -/
def KnOk (S : List UInt8) (L : Kn) : Prop := (∀ p ∈ L, p.2 < 16384) ∧ L.length ≤ S.length
theorem knOk_lrn {S : List UInt8} {L : Kn} (h : KnOk S L) (k l : List UInt8) : KnOk (S ++ enc1 l) (lrn S L k) := by
  unfold lrn
  split
  · rename_i hl
    refine ⟨fun p hp => ?_, by have := h.2; simp [enc1]; omega⟩
    rcases List.mem_append.1 hp with hp | hp
    · exact h.1 p hp
    · rw [List.mem_singleton.1 hp]; exact hl
  · exact ⟨h.1, by have := h.2; simp; omega⟩
theorem knOk_put : ∀ (ls : List (List UInt8)) (S : List UInt8) (L : Kn), KnOk S L → KnOk (put S L ls).1 (put S L ls).2
  | [], S, L, h => by rw [put_nil]; exact ⟨h.1, by have := h.2; simp; omega⟩
  | l :: ls, S, L, h => by
    cases hf : fnd L (wire (l :: ls)) with
    | some a => rw [put_hit hf]; exact ⟨h.1, by have := h.2; simp; omega⟩
    | none => rw [put_miss hf]; exact knOk_put ls _ _ (knOk_lrn h _ l)
theorem put_len : ∀ (ls : List (List UInt8)) (S : List UInt8) (L : Kn), (∀ l ∈ ls, okLb l) → (put S L ls).1.length ≤ S.length + (wire ls).length
  | [], S, L, _ => by rw [put_nil]; simp [wire]
  | l :: ls, S, L, h => by
    have hlen := wire_len_cons l ls
    have hpos := wire_len_pos ls
    have hok := h l (by simp)
    unfold okLb at hok
    cases hf : fnd L (wire (l :: ls)) with
    | some a => rw [put_hit hf]; simp [ptr]; omega
    | none =>
      rw [put_miss hf]
      have := put_len ls (S ++ enc1 l) (lrn S L (wire (l :: ls))) (fun l' hl' => h l' (List.mem_cons_of_mem _ hl'))
      rw [List.length_append, enc1_len] at this
      omega

/-- A name without its first label. -/
theorem name_tail {s : ByteArray} {l : List UInt8} {ls : List (List UInt8)} (h : NameIs s (l :: ls)) :
    mayB s = true ∧ (s.toList == [0]) = false ∧ NameIs (parS s) ls ∧ (parS s).size ≤ s.size ∧ (s.extract 0 (s.size - (parS s).size)).data.toList = enc1 l ∧ (parS s).size < s.size := by
  have hm := h.may.1
  have hokl := h.ok l (by simp)
  have hlen : s.size = l.length + 1 + (wire ls).length := by rw [← ba_len, h.eq, wire_len_cons]
  have hpos := wire_len_pos ls
  have h0 : (s.toList == [0]) = false := by
    rw [ByteArray.toList_eq, beq_eq_false_iff_ne]
    intro e
    have := congrArg List.length e
    rw [ba_len] at this
    unfold okLb at hokl
    simp at this
    omega
  have hpar : parB s = true := by simp [parB, hm, h0]
  have hd : s.data.toList.drop 0 = enc1 l ++ wire ls := by rw [List.drop_zero, h.eq, wire_cons]
  obtain ⟨hl, hn, _, hr⟩ := isL_at hokl hd
  have hS : parS s = s.extract (nxt s 0) s.size := by simp [parS, hpar]
  have hp : (parS s).data.toList = wire ls := by
    rw [hS, extract_list, ← ba_len, List.take_length, hn]
    simpa using hr
  have hps : (parS s).size = (wire ls).length := by rw [← ba_len, hp]
  have hsz := h.size
  refine ⟨hm, h0, ⟨fun l' hl' => h.ok l' (List.mem_cons_of_mem _ hl'), fun l' hl' => h.low l' (List.mem_cons_of_mem _ hl'), hp, by omega⟩, by omega, ?_, by omega⟩
  rw [extract_list, List.drop_zero, h.eq, wire_cons, hps, hlen, show l.length + 1 + (wire ls).length - (wire ls).length = (enc1 l).length by rw [enc1_len]; omega, List.take_left']
  rfl
theorem ptr_bytes (a : Nat) (h : a < 16384) : (Oc.bstr (49152 + (a : Int)) 2).data.toList = ptr a := by
  show Oc.bytesOf (49152 + (a : Int)) 2 = ptr a
  unfold Oc.bytesOf Oc.byteAt ptr
  simp only [List.range, List.range.loop, List.map_cons, List.map_nil, Nat.reduceMul, Nat.reduceSub, Int.reducePow, Int.pow_zero, Int.ediv_one, Nat.mul_zero]
  have e1 : ((49152 + (a : Int)) / 256).toNat = 192 + a / 256 := by omega
  have e2 : (49152 + (a : Int)).toNat = 49152 + a := by omega
  rw [e1, e2]
  have e3 : UInt8.ofNat (49152 + a) = UInt8.ofNat (a % 256) := by
    apply UInt8.toNat_inj.1
    rw [UInt8.toNat_ofNat', UInt8.toNat_ofNat']
    omega
  rw [e3]

/-- 'at, ok := p.known[rest]'. -/
theorem isM_look {B : Nat} {mv : Value} {L : Kn} {w : World} (h : IsM B mv L w) (n : ByteArray) (hn : n.size ≤ maxLen) :
    ∃ c : Int, (Instr.lookup 89 mv (.string n) true).run Tryz.prog w = .ok (.tuple #[.int .i64 c, .bool (fnd L n.data.toList).isSome]) w ∧ ∀ a, fnd L n.data.toList = some a → c = (a : Nat) := by
  rcases h with ⟨rfl, rfl⟩ | ⟨b, m, D, rfl, hB, hown, hm, hk⟩
  · exact ⟨0, look_nil (w := w) true law9 Tryz.underlying89 (zero3 _) (key_str n hn), fun a ha => by cases ha⟩
  · have hw0 : (Lit.int .i64 0).wf = true := by decide
    obtain ⟨v, ps, hrun, hv⟩ := hown.look_ok law9 Tryz.underlying89 (zero3 w) (plainElem_int Tryz.underlying3 hw0) (key_str n hn)
    obtain ⟨c, rfl, hc, hwc⟩ := plainElem_int_inv Tryz.underlying3 hv
    rw [(hk n.data.toList).1] at hrun
    refine ⟨c, hrun, fun a ha => ?_⟩
    have h1 := (hk n.data.toList).2 a ha
    have h2 := congrArg Prod.fst hc
    simp only at h2
    rw [h1] at h2
    cases h2
    rfl

theorem or_ptr (a : Nat) (h : a < 16384) : bits .or .u16 49152 (a : Int) = 49152 + (a : Int) :=
  bits_join .u16 16 (by decide) (fun n h0 h1 => IntWalk.u16_in n (by omega)) 14 49152 (a : Int) (by decide) (by decide) (by decide) (by omega) (by omega) (by omega)
theorem slice_to (s : ByteArray) (n : Nat) (h : n ≤ s.size) (w : World) :
    (Instr.slice 9 (.string s) none (some (.int .i64 (n : Int))) none).run Tryz.prog w = .ok (.string (s.extract 0 n)) w := by
  have := run_slice_string_h (P := Tryz.prog) (w := w) (t := 9) (s := s) Tryz.underlying9 .i64 (n : Int) (by omega) (by omega)
  simpa using this

def strLen : Value → Nat
  | .string s => s.size
  | _ => 0

set_option maxRecDepth 100000 in
set_option maxHeartbeats 1000000 in
theorem name_yes (B b : Nat) (S : List UInt8) (L : Kn) (n : ByteArray) (w : World) (h : IsP B b S L w) (hK : KnOk S L) (hB : B ≤ w.heap.size) (hS : S.length ≤ 1099511627776) (hm : mayB n = true) :
    Calls Tryz.prog 76 #[.pointer (some ⟨b, 0, none⟩), .string n] w fun e w' => e = .returned (.int .i64 0) ∧ IsP B b (put S L (labs n)).1 (put S L (labs n)).2 w' ∧ Below B w w' ∧ Kp w w' := by
  have hN := may_name hm
  have hns := hN.size
  have HN := Lib.hid hN
  clear hN
  go_enter Tryz.func76, Tryz.ntmps76
  go_wp2_with fail
  refine (may_any n (by omega) _).mono ?_; rintro e w0 ⟨rfl, hb0⟩
  rw [hm]
  clear hm
  go_wp2_with fail
  go_loopw [5] (fun r wr => ∃ (rest : ByteArray) (ls : List (List UInt8)) (S' : List UInt8) (L' : Kn), r = .string rest ∧ NameIs rest ls ∧ put S' L' ls = put S L (labs n) ∧ S'.length + rest.size ≤ S.length + n.size ∧ KnOk S' L' ∧ IsP B b S' L' wr ∧ Below B w wr ∧ Kp w wr) (fun r _ => strLen r)
  case atStart => exact ⟨n, labs n, S, L, rfl, HN.out, rfl, Nat.le_refl _, hK, h.below hb0, hb0.mono hB, Kp.below hb0⟩
  case round =>
    obtain ⟨rest, ls, S', L', rfl, hN, hput, hsz, hK', hP, hbel, hkp⟩ := hrel
    have hwB : B ≤ wr.heap.size := Nat.le_trans hB hbel.size
    have HPut := Lib.hid hput
    have HKp := Lib.hid hkp
    have HK' := Lib.hid hK'
    clear hput hkp hK'
    cases ls with
    | nil =>
      have b0 : (rest.toList == [0]) = true := by rw [ByteArray.toList_eq, hN.eq]; rfl
      clear hN
      go_wp2_with fail
      refine (add_any B b S' L' ⟨#[0]⟩ _ hP (by show _ + 1 ≤ _; omega) hwB).mono ?_
      rintro e w1 ⟨rfl, hP1, hb1, hk1⟩
      go_wp2_with fail
      go_ret
      refine ⟨rfl, ?_, hbel.trans hb1, HKp.out.trans hk1⟩
      rw [← HPut.out, put_nil]
      exact hP1
    | cons l ls =>
      obtain ⟨hmr, b0, hNp, hps, hext, hlt⟩ := name_tail hN
      have hrs := hN.size
      have hreq := hN.eq
      have hokl := hN.ok l (by simp)
      obtain ⟨hBb, v, mv, hb, hrow, hM⟩ := hP
      have hP' : IsP B b S' L' wr := ⟨hBb, v, mv, hb, hrow, hM⟩
      have c1 : wr.cell? ⟨b, 1, none⟩ = some mv := blk_cell hb 1
      obtain ⟨c, hlook, hc⟩ := isM_look hM rest (by unfold maxLen; omega)
      rw [hreq] at hlook hc
      cases hf : fnd L' (wire (l :: ls)) with
      | some a =>
        have ha : a < 16384 := HK'.out.1 _ (fnd_mem hf)
        obtain rfl : c = (a : Nat) := hc a hf
        rw [hf] at hlook
        have HF := Lib.hid hf
        clear hf hc hN hNp hext hmr hreq hb hrow hM
        go_wp2_with fail
        rw [or_ptr a ha]
        refine (Oc.Put16b (49152 + (a : Int)) _ (by omega) (by omega)).mono ?_
        rintro e w1 ⟨rfl, hb1⟩
        clear hlook c1
        have hpb := ptr_bytes a ha
        have HPB := Lib.hid hpb
        clear hpb
        go_wp2_with fail
        refine (add_any B b S' L' _ _ (hP'.below hb1) (by rw [Oc.bstr_size]; omega) (Nat.le_trans hwB hb1.size)).mono ?_
        rintro e w2 ⟨rfl, hP2, hb2, hk2⟩
        go_wp2_with fail
        go_ret
        refine ⟨rfl, ?_, (hbel.trans (hb1.mono hwB)).trans hb2, (HKp.out.trans (Kp.below hb1)).trans hk2⟩
        rw [← HPut.out, put_hit HF.out, ← HPB.out]
        exact hP2
      | none =>
        rw [hf] at hlook
        have hno : fnd L' rest.data.toList = none := by rw [hreq]; exact hf
        have HF := Lib.hid hf
        have HNo := Lib.hid hno
        have HEx := Lib.hid hext
        have HReq := Lib.hid hreq
        have HNp := Lib.hid hNp
        clear hf hno hc hN hNp hext hmr hreq hb hrow hM
        go_wp2_with fail
        clear hlook c1
        refine (learn_any B b S' L' rest _ hP' hwB (by have := HK'.out.2; unfold maxLen; omega) (by unfold maxLen; omega) (by omega) HNo.out).mono ?_
        rintro e w1 ⟨rfl, hP1, hb1, hk1⟩
        go_wp2_with fail
        refine (parent_any rest (by omega) _).mono ?_
        rintro e w2 ⟨rfl, hb2⟩
        have hsl := slice_to rest (rest.size - (parS rest).size) (by omega)
        rw [show ((rest.size - (parS rest).size : Nat) : Int) = (rest.size : Int) - ((parS rest).size : Int) by omega] at hsl
        have hw1 : B ≤ w1.heap.size := Nat.le_trans hwB hb1.size
        have hel : (rest.extract 0 (rest.size - (parS rest).size)).size = l.length + 1 := by rw [← ba_len, HEx.out, enc1_len]
        have hrl : rest.size = l.length + 1 + (wire ls).length := by rw [← ba_len, HReq.out, wire_len_cons]
        have hpl : (parS rest).size = (wire ls).length := by rw [← ba_len, HNp.out.eq]
        have HEl := Lib.hid hel
        have HRl := Lib.hid hrl
        have HPl := Lib.hid hpl
        clear hel hrl hpl
        go_wp2_with fail
        clear hsl
        refine (add_any B b S' _ _ _ (hP1.below hb2) (by rw [HEl.out]; have := HRl.out; omega) (Nat.le_trans hw1 hb2.size)).mono ?_
        rintro e w3 ⟨rfl, hP3, hb3, hk3⟩
        go_wp2_with fail
        go_roundw
        case rel =>
          refine ⟨parS rest, ls, S' ++ enc1 l, lrn S' L' (wire (l :: ls)), rfl, HNp.out, ?_, ?_, knOk_lrn HK'.out _ l, ?_, ((hbel.trans hb1).trans (hb2.mono hw1)).trans hb3, ((HKp.out.trans hk1).trans (Kp.below hb2)).trans hk3⟩
          · rw [← HPut.out, put_miss HF.out]
          · have h1 := HRl.out
            have h2 := HPl.out
            rw [List.length_append, enc1_len]
            omega
          · rw [HEx.out, HReq.out] at hP3
            exact hP3
        case measure => simp [strLen]; omega

theorem name_no (b : Nat) (n : ByteArray) (w : World) (hn : n.size ≤ 140737488355328) (hm : mayB n = false) :
    Calls Tryz.prog 76 #[.pointer (some ⟨b, 0, none⟩), .string n] w fun e w' => e = .returned (.int .i64 1) ∧ Below w.heap.size w w' := by
  go_enter Tryz.func76, Tryz.ntmps76
  go_wp2_with fail
  refine (may_any n hn _).mono ?_; rintro e w0 ⟨rfl, hb0⟩
  rw [hm]
  clear hm
  go_wp2_with fail
  go_ret
  exact ⟨rfl, hb0⟩
theorem name_nil (n : ByteArray) (w : World) :
    Calls Tryz.prog 76 #[.pointer none, .string n] w fun e w' => e = .returned (.int .i64 1) ∧ w = w' := by
  go_enter Tryz.func76, Tryz.ntmps76
  go_wp2_with fail
  go_ret
  exact ⟨rfl, rfl⟩
end Go.Proofs.YtnakljbginbenaaGreatDoor

/- The contracts of wire.run, wire.stop and wire.Take. -/
namespace Go.Proofs.YtnakljbginbenaaGreatDoor
open Go.RowKit
set_option linter.unusedVariables false

theorem lsz_le (s : ByteArray) (p : Nat) : lsz s p ≤ 255 := by
  unfold lsz
  split
  · have := (s[p]'(by assumption)).toNat_lt; omega
  · omega
theorem un_one {s : ByteArray} {k : Nat} (h : k < s.size) : Oc.un s (k : Int) 1 = (lsz s k : Nat) ∧ Oc.so s (k : Int) 1 = (k : Int) + 1 ∧ Oc.se s (k : Int) 1 = 0 := by
  have hk : Oc.okS s (k : Int) 1 := ⟨by omega, by omega, by omega⟩
  refine ⟨?_, by unfold Oc.so; rw [if_pos hk], by unfold Oc.se; rw [if_pos hk]⟩
  unfold Oc.un
  rw [if_pos hk, Oc.bnum_at1 s k (by omega) (by omega), lsz_eq h]
  simp
theorem un_two {s : ByteArray} {k : Nat} (h : k + 1 < s.size) : Oc.un s (k : Int) 2 = ((256 * lsz s k + lsz s (k + 1) : Nat) : Int) ∧ Oc.so s (k : Int) 2 = (k : Int) + 2 ∧ Oc.se s (k : Int) 2 = 0 := by
  have hk : Oc.okS s (k : Int) 2 := ⟨by omega, by omega, by omega⟩
  refine ⟨?_, by unfold Oc.so; rw [if_pos hk], by unfold Oc.se; rw [if_pos hk]⟩
  unfold Oc.un
  rw [if_pos hk, Oc.bnum_at2 s k (by omega) (by omega), lsz_eq h, lsz_eq (show k < s.size by omega)]
  simp
theorem un_not {s : ByteArray} {p m : Int} (h : ¬ Oc.okS s p m) : Oc.un s p m = 0 ∧ Oc.so s p m = 0 ∧ Oc.se s p m = 2 ∧ Oc.sx s p m = ⟨#[]⟩ := by
  exact ⟨if_neg h, if_neg h, if_neg h, if_neg h⟩

/-- wire.run's results. -/
def rnS (s : ByteArray) (p : Nat) : ByteArray := if runOk s p = true then s.extract p (endFrom s p) else ⟨#[]⟩
def rnX (s : ByteArray) (p : Nat) : Nat := if runOk s p = true then endFrom s p else 0
def rnE (s : ByteArray) (p : Nat) : Nat := if runOk s p = true then 0 else 2

theorem slice_mid (s : ByteArray) (a b : Nat) (h : a ≤ b) (h2 : b ≤ s.size) (w : World) :
    (Instr.slice 9 (.string s) (some (.int .i64 (a : Int))) (some (.int .i64 (b : Int))) none).run Tryz.prog w = .ok (.string (s.extract a b)) w := by
  have := run_slice_string (P := Tryz.prog) w 9 s .i64 .i64 (a : Int) (b : Int) Tryz.underlying9 (by omega) (by omega) (by omega)
  simpa using this

set_option maxRecDepth 100000 in
set_option maxHeartbeats 1000000 in
theorem run_nat (s : ByteArray) (p : Nat) (hs : s.size ≤ 140737488355328) (hp : p ≤ maxLen) (w : World) :
    Calls Tryz.prog 116 #[.string s, .int .i64 (p : Nat)] w fun e w' => e = .returned (.tuple #[.string (rnS s p), .int .i64 (rnX s p : Nat), .int .i64 (rnE s p : Nat)]) ∧ Below w.heap.size w w' := by
  unfold maxLen at hp
  have hs' : s.size ≤ maxLen := by unfold maxLen; omega
  have HS := Lib.hid hs'
  clear hs'
  go_enter Tryz.func116, Tryz.ntmps116
  go_wp2_with fail
  go_loopw [7] (fun i wr => ∃ k : Nat, i = .int .i64 k ∧ p ≤ k ∧ (k = p ∨ k ≤ s.size) ∧ endFrom s p = endFrom s k ∧ Below w.heap.size w wr) (fun i _ => s.size - (intOf i).toNat)
  case atStart => exact ⟨p, rfl, Nat.le_refl _, .inl rfl, rfl, Below.refl _ _⟩
  case round =>
    obtain ⟨k, rfl, hpk, hks, hef, hbel⟩ := hrel
    have HE := Lib.hid hef
    clear hef
    have hkm : (k : Int) ≤ maxLen := by unfold maxLen; omega
    go_wp2_with fail
    refine (Oc.u8_any s k _ HS.out hkm).mono ?_
    rintro e w1 ⟨rfl, hb1⟩
    have hbel1 : Below w.heap.size w w1 := hbel.trans (hb1.mono hbel.size)
    clear hkm hbel hb1
    by_cases hlt : k < s.size
    · obtain ⟨e1, e2, e3⟩ := un_one hlt
      rw [e1, e2, e3]
      clear e1 e2 e3
      have h8 := lsz_le s k
      by_cases h0 : lsz s k = 0 ∨ 63 < lsz s k
      · have hnl : ¬ isL s k = true := fun h => by have := isL_iff.1 h; omega
        have hend : endFrom s p = k := by rw [HE.out, endFrom_nil hnl]
        have hr : runOk s p = true := runOk_iff.2 (by rw [hend]; exact ⟨hlt, h0⟩)
        have r1 : rnS s p = s.extract p k := by unfold rnS; rw [if_pos hr, hend]
        have r2 : rnX s p = k := by unfold rnX; rw [if_pos hr, hend]
        have r3 : rnE s p = 0 := by unfold rnE; rw [if_pos hr]
        have HR := Lib.hid (And.intro r1 (And.intro r2 r3))
        have hsl := slice_mid s p k hpk (by omega)
        clear r1 r2 r3 hr hend hnl hks
        rcases h0 with h0 | h0
        · rw [h0]
          clear h8 h0
          go_wp2_with fail
          go_ret3
          exact ⟨by rw [HR.out.1, HR.out.2.1, HR.out.2.2]; rfl, hbel1⟩
        · have b0 : ((lsz s k : Int) == 0) = false := by simp; omega
          have b1 : decide (63 < (lsz s k : Int)) = true := by simp; omega
          clear h0
          go_wp2_with fail
          go_ret3
          exact ⟨by rw [HR.out.1, HR.out.2.1, HR.out.2.2]; rfl, hbel1⟩
      · have b0 : ((lsz s k : Int) == 0) = false := by simp; omega
        have b1 : decide (63 < (lsz s k : Int)) = false := by simp; omega
        have hk1 : (k : Int) + 1 ≤ maxLen := by unfold maxLen; omega
        by_cases hn : nxt s k ≤ s.size
        · have hL : isL s k = true := isL_iff.2 ⟨hlt, by omega, by omega, hn⟩
          have hok : Oc.okS s ((k : Int) + 1) (lsz s k : Nat) := ⟨by omega, by omega, by unfold nxt at hn; omega⟩
          have e2 : Oc.so s ((k : Int) + 1) (lsz s k : Nat) = (nxt s k : Nat) := by unfold Oc.so; rw [if_pos hok]; unfold nxt; omega
          have e3 : Oc.se s ((k : Int) + 1) (lsz s k : Nat) = 0 := by unfold Oc.se; rw [if_pos hok]
          have hnx : nxt s k = k + 1 + lsz s k := rfl
          have HL := Lib.hid hL
          have HNX := Lib.hid hnx
          clear hL hok h0 hnx hks
          go_wp2_with fail
          refine (Oc.some_any s ((k : Int) + 1) (lsz s k : Nat) _ HS.out hk1).mono ?_
          rintro e w2 ⟨rfl, rfl⟩
          rw [e2, e3]
          clear e2 e3 hk1 b0 b1
          go_wp2_with fail
          go_roundw
          case rel => exact ⟨nxt s k, rfl, by have := HNX.out; omega, .inr hn, by rw [HE.out, endFrom_cons HL.out], hbel1⟩
          case measure => have := HNX.out; simp [intOf]; omega
        · have hnl : ¬ isL s k = true := fun h => hn (isL_iff.1 h).2.2.2
          have hend : endFrom s p = k := by rw [HE.out, endFrom_nil hnl]
          have hr : ¬ runOk s p = true := fun h => by have := (runOk_iff.1 h).2; rw [hend] at this; exact h0 this
          have r1 : rnS s p = ⟨#[]⟩ := by unfold rnS; rw [if_neg hr]
          have r2 : rnX s p = 0 := by unfold rnX; rw [if_neg hr]
          have r3 : rnE s p = 2 := by unfold rnE; rw [if_neg hr]
          have HR := Lib.hid (And.intro r1 (And.intro r2 r3))
          have hno : ¬ Oc.okS s ((k : Int) + 1) (lsz s k : Nat) := fun h => hn (by have := h.2.2; unfold nxt; omega)
          obtain ⟨_, e2, e3, e4⟩ := un_not hno
          clear r1 r2 r3 hr hend hnl h0 hno hks hn
          go_wp2_with fail
          refine (Oc.some_any s ((k : Int) + 1) (lsz s k : Nat) _ HS.out hk1).mono ?_
          rintro e w2 ⟨rfl, rfl⟩
          rw [e2, e3, e4]
          clear e2 e3 e4 hk1 b0 b1
          go_wp2_with fail
          go_ret3
          exact ⟨by rw [HR.out.1, HR.out.2.1, HR.out.2.2]; rfl, hbel1⟩
    · have hnl : ¬ isL s k = true := fun h => hlt (isL_iff.1 h).1
      have hend : endFrom s p = k := by rw [HE.out, endFrom_nil hnl]
      have hr : ¬ runOk s p = true := fun h => by have := (runOk_iff.1 h).1; rw [hend] at this; exact hlt this
      have r1 : rnS s p = ⟨#[]⟩ := by unfold rnS; rw [if_neg hr]
      have r2 : rnX s p = 0 := by unfold rnX; rw [if_neg hr]
      have r3 : rnE s p = 2 := by unfold rnE; rw [if_neg hr]
      have HR := Lib.hid (And.intro r1 (And.intro r2 r3))
      obtain ⟨e1, e2, e3, _⟩ := un_not (s := s) (p := (k : Int)) (m := 1) (fun h => hlt (by have := h.2.2; omega))
      rw [e1, e2, e3]
      clear r1 r2 r3 hr hend hnl e1 e2 e3 hks hlt
      go_wp2_with fail
      go_ret3
      exact ⟨by rw [HR.out.1, HR.out.2.1, HR.out.2.2]; rfl, hbel1⟩

set_option maxHeartbeats 400000 in
theorem run_neg (s : ByteArray) (p : Int) (hs : s.size ≤ maxLen) (hp : p < 0) (w : World) :
    Calls Tryz.prog 116 #[.string s, .int .i64 p] w fun e w' => e = .returned (.tuple #[.string ⟨#[]⟩, .int .i64 0, .int .i64 2]) ∧ Below w.heap.size w w' := by
  obtain ⟨e1, e2, e3, _⟩ := un_not (s := s) (p := p) (m := 1) (fun h => by have := h.1; omega)
  go_enter Tryz.func116, Tryz.ntmps116
  go_wp2_with fail
  refine wp_loop_rounds 1 ?_
  rw [rounds_succ]
  go_wp2_with fail
  refine (Oc.u8_any s p _ hs (by unfold maxLen; omega)).mono ?_
  rintro e w1 ⟨rfl, hb1⟩
  rw [e1, e2, e3]
  clear e1 e2 e3
  go_wp2_with fail
  go_ret3
  exact ⟨rfl, hb1⟩

/-- wire.stop's results. -/
def spT (s : ByteArray) (e : Nat) : Int := if lsz s e = 0 then -1 else if e + 1 < s.size ∧ 192 ≤ lsz s e then (toOf s e : Nat) else 0
def spX (s : ByteArray) (e : Nat) : Nat := if lsz s e = 0 then e + 1 else if e + 1 < s.size ∧ 192 ≤ lsz s e then e + 2 else 0
def spE (s : ByteArray) (e : Nat) : Nat := if lsz s e = 0 then 0 else if e + 1 < s.size ∧ 192 ≤ lsz s e then 0 else 2
set_option maxRecDepth 100000 in
set_option maxHeartbeats 1000000 in
theorem stop_any (s : ByteArray) (k : Nat) (hs : s.size ≤ 140737488355328) (hk : k < s.size) (w : World) :
    Calls Tryz.prog 119 #[.string s, .int .i64 (k : Nat)] w fun e w' => e = .returned (.tuple #[.int .i64 (spT s k), .int .i64 (spX s k : Nat), .int .i64 (spE s k : Nat)]) ∧ Below w.heap.size w w' := by
  have hz : lsz s k = s[k].toNat := lsz_eq hk
  have hkm : (k : Int) ≤ maxLen := by unfold maxLen; omega
  have hsm : s.size ≤ maxLen := by unfold maxLen; omega
  by_cases h0 : lsz s k = 0
  · have r1 : spT s k = -1 := by unfold spT; rw [if_pos h0]
    have r2 : spX s k = k + 1 := by unfold spX; rw [if_pos h0]
    have r3 : spE s k = 0 := by unfold spE; rw [if_pos h0]
    have HR := Lib.hid (And.intro r1 (And.intro r2 r3))
    rw [hz] at h0
    clear hz hkm hsm r1 r2 r3
    go_enter Tryz.func119, Tryz.ntmps119
    go_wp2_with fail
    go_ret3
    exact ⟨by rw [HR.out.1, HR.out.2.1, HR.out.2.2]; simp, Below.refl _ _⟩
  · have b0 : ((s[k].toNat : Int) == 0) = false := by rw [hz] at h0; simp; omega
    by_cases h1 : k + 1 < s.size
    · obtain ⟨e1, e2, e3⟩ := un_two h1
      have h8 := lsz_le s k
      have h9 := lsz_le s (k + 1)
      by_cases h2 : 192 ≤ lsz s k
      · have r1 : spT s k = (toOf s k : Nat) := by unfold spT; rw [if_neg h0, if_pos ⟨h1, h2⟩]
        have r2 : spX s k = k + 2 := by unfold spX; rw [if_neg h0, if_pos ⟨h1, h2⟩]
        have r3 : spE s k = 0 := by unfold spE; rw [if_neg h0, if_pos ⟨h1, h2⟩]
        have r4 : ((256 * lsz s k + lsz s (k + 1) : Nat) : Int) = 49152 + (toOf s k : Nat) := by unfold toOf; omega
        have r5 : toOf s k < 16384 := by unfold toOf; omega
        rw [r4] at e1
        have HR := Lib.hid (And.intro r1 (And.intro r2 r3))
        clear hz r1 r2 r3 r4 h0 h1 h2 h8 h9
        generalize toOf s k = t at *
        have q1 : decide (49152 + (t : Int) < 49152) = false := by simp; omega
        have q2 : IntKind.u16.wrap (49152 + (t : Int) - 49152) = t := by rw [show 49152 + (t : Int) - 49152 = t by omega]; exact IntWalk.u16_in _ (by omega)
        go_enter Tryz.func119, Tryz.ntmps119
        go_wp2_with fail
        refine (Oc.u16_any s k _ hsm hkm).mono ?_
        rintro e w1 ⟨rfl, hb1⟩
        rw [e1, e2, e3]
        clear e1 e2 e3 hsm hkm b0
        go_wp2_with fail
        go_ret3
        exact ⟨by rw [HR.out.1, HR.out.2.1, HR.out.2.2]; simp, hb1⟩
      · have r1 : spT s k = 0 := by unfold spT; rw [if_neg h0, if_neg (fun h => h2 h.2)]
        have r2 : spX s k = 0 := by unfold spX; rw [if_neg h0, if_neg (fun h => h2 h.2)]
        have r3 : spE s k = 2 := by unfold spE; rw [if_neg h0, if_neg (fun h => h2 h.2)]
        have r5 : 256 * lsz s k + lsz s (k + 1) < 49152 := by omega
        generalize 256 * lsz s k + lsz s (k + 1) = m at *
        have HR := Lib.hid (And.intro r1 (And.intro r2 r3))
        have q1 : decide ((m : Int) < 49152) = true := by simp; omega
        clear hz r1 r2 r3 h0 h1 h2 h8 h9 r5
        go_enter Tryz.func119, Tryz.ntmps119
        go_wp2_with fail
        refine (Oc.u16_any s k _ hsm hkm).mono ?_
        rintro e w1 ⟨rfl, hb1⟩
        rw [e1, e2, e3]
        clear e1 e2 e3 hsm hkm b0
        go_wp2_with fail
        go_ret3
        exact ⟨by rw [HR.out.1, HR.out.2.1, HR.out.2.2]; simp, hb1⟩
    · have r1 : spT s k = 0 := by unfold spT; rw [if_neg h0, if_neg (fun h => h1 h.1)]
      have r2 : spX s k = 0 := by unfold spX; rw [if_neg h0, if_neg (fun h => h1 h.1)]
      have r3 : spE s k = 2 := by unfold spE; rw [if_neg h0, if_neg (fun h => h1 h.1)]
      have HR := Lib.hid (And.intro r1 (And.intro r2 r3))
      obtain ⟨e1, e2, e3, _⟩ := un_not (s := s) (p := (k : Int)) (m := 2) (fun h => h1 (by have := h.2.2; omega))
      clear hz r1 r2 r3 h0 h1
      go_enter Tryz.func119, Tryz.ntmps119
      go_wp2_with fail
      refine (Oc.u16_any s k _ hsm hkm).mono ?_
      rintro e w1 ⟨rfl, hb1⟩
      rw [e1, e2, e3]
      clear e1 e2 e3 hsm hkm b0
      go_wp2_with fail
      go_ret3
      exact ⟨by rw [HR.out.1, HR.out.2.1, HR.out.2.2]; simp, hb1⟩
end Go.Proofs.YtnakljbginbenaaGreatDoor

/- The contract of wire.Take. -/
namespace Go.Proofs.YtnakljbginbenaaGreatDoor
open Go.RowKit
set_option linter.unusedVariables false

theorem tkB_len {s : ByteArray} {b p : Nat} {r : List UInt8 × Nat} (h : tkB s b p = some r) : runOk s p = true ∧ (piece s p (endFrom s p)).length + 1 ≤ r.1.length := by
  cases hr : runOk s p with
  | false => rw [tkB_bad hr] at h; cases h
  | true =>
    refine ⟨rfl, ?_⟩
    by_cases h0 : lsz s (endFrom s p) = 0
    · rw [tkB_zero hr h0] at h
      cases h
      simp
    · cases hp : ptB s b (endFrom s p) with
      | false => rw [tkB_no hr h0 hp] at h; cases h
      | true =>
        rw [tkB_ptr hr h0 hp, Option.map_eq_some_iff] at h
        obtain ⟨q, hq, rfl⟩ := h
        obtain ⟨ls, _, g2, _, _⟩ := tkB_name _ _ q hq
        have := wire_len_pos ls
        show _ ≤ (piece _ _ _ ++ q.1).length
        rw [List.length_append, g2]
        omega
/-- What is behind a loop's rounds. -/
def aft (af nx : Nat) : Nat := if af = 0 then nx else af
def TkRel (s : ByteArray) (p k : Nat) (acc : List UInt8) (af : Nat) : Prop := tkB s p p = (tkB s k k).map fun r => (acc ++ r.1, aft af r.2)

set_option maxRecDepth 100000 in
set_option maxHeartbeats 2000000 in
theorem take_nat (s : ByteArray) (p : Nat) (hs : s.size ≤ 140737488355328) (hp : p ≤ maxLen) (w : World) :
    Calls Tryz.prog 94 #[.string s, .int .i64 (p : Nat)] w fun e w' => e = .returned (.tuple #[.string (tkS s p), .int .i64 (tkX s p : Nat), .int .i64 (tkE s p : Nat)]) ∧ Below w.heap.size w w' := by
  unfold maxLen at hp
  go_enter Tryz.func94, Tryz.ntmps94
  go_wp2_with fail
  go_loopw [1, 8] (fun i f wr => ∃ (k af : Nat) (acc : List UInt8), i = .int .i64 k ∧ f = .int .i64 af ∧ k ≤ p ∧ acc.length ≤ 254 ∧ IsB w.heap.size w.heap.size acc wr ∧ Below w.heap.size w wr ∧ TkRel s p k acc af) (fun i _ _ => (intOf i).toNat)
  case atStart =>
    refine ⟨p, 0, [], rfl, rfl, Nat.le_refl _, by simp, IsB.new w, (Below.refl _ _).alloc (Nat.le_refl _) _, ?_⟩
    show tkB s p p = _
    cases tkB s p p <;> rfl
  case round =>
    obtain ⟨k, af, acc, rfl, rfl, hkp, hacc, hB, hbel, hrel⟩ := hrel
    have HRel := Lib.hid hrel
    clear hrel
    have hsz := hbel.size
    have hkm : k ≤ maxLen := by unfold maxLen; omega
    go_wp2_with fail
    refine (run_nat s k hs hkm _).mono ?_
    rintro e w1 ⟨rfl, hb1⟩
    have hB1 := hB.below hb1
    have hbel1 : Below w.heap.size w w1 := hbel.trans (hb1.mono hsz)
    clear hkm hB hbel hb1
    cases hr : runOk s k with
    | false =>
      have hn : tkB s p p = none := by rw [HRel.out, tkB_bad hr]; rfl
      obtain ⟨r1, r2, r3⟩ := tk_none (s := s) (p := (p : Int)) (.inr (by simpa using hn))
      have HR := Lib.hid (And.intro r1 (And.intro r2 r3))
      have q1 : rnS s k = ⟨#[]⟩ := by unfold rnS; rw [if_neg (by rw [hr]; decide)]
      have q2 : rnX s k = 0 := by unfold rnX; rw [if_neg (by rw [hr]; decide)]
      have q3 : rnE s k = 2 := by unfold rnE; rw [if_neg (by rw [hr]; decide)]
      rw [q1, q2, q3]
      clear q1 q2 q3 r1 r2 r3 hn hr
      go_wp2_with fail
      go_ret3
      exact ⟨by rw [HR.out.1, HR.out.2.1, HR.out.2.2]; rfl, hbel1⟩
    | true =>
      obtain ⟨e, he⟩ : ∃ e, endFrom s k = e := ⟨_, rfl⟩
      have hlt := (runOk_iff.1 hr).1
      have hge := endFrom_ge' s k
      rw [he] at hlt hge
      have q1 : rnS s k = s.extract k e := by unfold rnS; rw [if_pos hr, he]
      have q2 : rnX s k = e := by unfold rnX; rw [if_pos hr, he]
      have q3 : rnE s k = 0 := by unfold rnE; rw [if_pos hr]
      obtain ⟨m, hm⟩ : ∃ m, e - k = m := ⟨_, rfl⟩
      have hpl : (piece s k e).length = m := by rw [← hm]; exact piece_len (by omega)
      have hxs : (s.extract k e).size = m := by rw [← ba_len]; exact hpl
      have hml : m ≤ 140737488355328 := by omega
      rw [q1, q2, q3]
      have HHr := Lib.hid hr
      have HHe := Lib.hid he
      have HPl := Lib.hid hpl
      have HXl : Hid ((s.extract k e).data.toList = piece s k e) := Lib.hid rfl
      clear q1 q2 q3 hr he hpl hm
      by_cases hlong : 255 < acc.length + m + 1
      · have hno : tkS s p = ⟨#[]⟩ ∧ tkX s p = 0 ∧ tkE s p = 2 := by
          have h1 := HRel.out
          unfold TkRel at h1
          cases ht : tkB s k k with
          | none => rw [ht] at h1; exact tk_none (.inr (by simpa using h1))
          | some r =>
            rw [ht] at h1
            have h2 := (tkB_len ht).2
            rw [HHe.out, HPl.out] at h2
            exact tk_long (r := (acc ++ r.1, aft af r.2)) (by omega) (by simpa using h1) (by show 255 < (acc ++ r.1).length; rw [List.length_append]; omega)
        have HR := Lib.hid hno
        have b1 : decide (255 < (acc.length : Int) + (m : Int) + 1) = true := by simp; omega
        clear hno hlong hlt hge
        go_wp2_with fail
        refine (blen _ _ _ _ hB1).mono ?_
        rintro e w2 ⟨rfl, rfl⟩
        go_wp2_with fail
        go_ret3
        exact ⟨by rw [HR.out.1, HR.out.2.1, HR.out.2.2]; rfl, hbel1⟩
      · have b1 : decide (255 < (acc.length : Int) + (m : Int) + 1) = false := by simp; omega
        have HXs := Lib.hid hxs
        go_wp2_with fail
        refine (blen _ _ _ _ hB1).mono ?_
        rintro e w2 ⟨rfl, rfl⟩
        go_wp2_with fail
        clear b1 hxs
        have hsz1 := hbel1.size
        refine (wstr _ _ _ _ _ hB1 (by rw [HXs.out]; omega) hsz1).mono ?_
        rintro e w2 ⟨rfl, hB2, hb2, hk2⟩
        have hbel2 : Below w.heap.size w w2 := hbel1.trans hb2
        rw [HXl.out] at hB2
        go_wp2_with fail
        refine (stop_any s e hs hlt _).mono ?_
        rintro e' w3 ⟨rfl, hb3⟩
        have hB3 := hB2.below hb3
        have hbel3 : Below w.heap.size w w3 := hbel2.trans (hb3.mono hbel2.size)
        clear hB1 hbel1 hB2 hb2 hk2 hbel2 hb3
        have hsz3 := hbel3.size
        have hal : (acc ++ piece s k e).length ≤ 254 := by rw [List.length_append, HPl.out]; omega
        have hemax : e + 2 ≤ 9223372036854775807 := by omega
        by_cases h0 : lsz s e = 0
        · have q1 : spT s e = -1 := by unfold spT; rw [if_pos h0]
          have q2 : spX s e = e + 1 := by unfold spX; rw [if_pos h0]
          have q3 : spE s e = 0 := by unfold spE; rw [if_pos h0]
          have hal2 : (acc ++ (piece s k e ++ [0])).length ≤ 255 := by rw [← List.append_assoc, List.length_append]; exact Nat.succ_le_succ hal
          have ht : tkB s p p = some (acc ++ (piece s k e ++ [0]), aft af (e + 1)) := by
            rw [HRel.out, tkB_zero HHr.out (by rw [HHe.out]; exact h0), HHe.out]
            simp
          obtain ⟨r1, r2, r3⟩ := tk_some (s := s) (p := (p : Int)) (by omega) (by simpa using ht) hal2
          have HR := Lib.hid (And.intro r1 (And.intro r2 r3))
          rw [q1, q2, q3]
          clear q1 q2 q3 r1 r2 r3 ht h0
          by_cases ha : af = 0
          · subst ha
            go_wp2_with fail
            refine (wstr _ _ _ _ _ hB3 (by show _ + 1 ≤ _; omega) hsz3).mono ?_
            rintro e' w4 ⟨rfl, hB4, hb4, hk4⟩
            go_wp2_with fail
            refine (bstr _ _ _ _ hB4 (Nat.le_trans hsz3 hb4.size)).mono ?_
            rintro e' w5 ⟨rfl, hb5⟩
            go_wp2_with fail
            refine (fold_any _ (by show (acc ++ (piece s k e ++ [0])).length ≤ _; omega) _).mono ?_
            rintro e' w6 ⟨rfl, hb6⟩
            go_wp2_with fail
            go_ret3
            have hbf := ((hbel3.trans hb4).trans hb5)
            refine ⟨?_, hbf.trans (hb6.mono hbf.size)⟩
            rw [HR.out.1, HR.out.2.1, HR.out.2.2]
            rfl
          · have b1 : ((af : Int) == 0) = false := by simpa using ha
            go_wp2_with fail
            refine (wstr _ _ _ _ _ hB3 (by show _ + 1 ≤ _; omega) hsz3).mono ?_
            rintro e' w4 ⟨rfl, hB4, hb4, hk4⟩
            go_wp2_with fail
            refine (bstr _ _ _ _ hB4 (Nat.le_trans hsz3 hb4.size)).mono ?_
            rintro e' w5 ⟨rfl, hb5⟩
            go_wp2_with fail
            refine (fold_any _ (by show (acc ++ (piece s k e ++ [0])).length ≤ _; omega) _).mono ?_
            rintro e' w6 ⟨rfl, hb6⟩
            go_wp2_with fail
            go_ret3
            have hbf := ((hbel3.trans hb4).trans hb5)
            refine ⟨?_, hbf.trans (hb6.mono hbf.size)⟩
            rw [HR.out.1, HR.out.2.1, HR.out.2.2]
            unfold aft
            rw [if_neg ha]
            rfl
        · by_cases h1 : e + 1 < s.size ∧ 192 ≤ lsz s e
          · have q1 : spT s e = (toOf s e : Nat) := by unfold spT; rw [if_neg h0, if_pos h1]
            have q2 : spX s e = e + 2 := by unfold spX; rw [if_neg h0, if_pos h1]
            have q3 : spE s e = 0 := by unfold spE; rw [if_neg h0, if_pos h1]
            rw [q1, q2, q3]
            have b2 : ((toOf s e : Int) == -1) = false := by simp
            clear q1 q2 q3
            by_cases hto : toOf s e < k
            · have b3 : decide ((k : Int) ≤ (toOf s e : Int)) = false := by simp; omega
              have ht : TkRel s p (toOf s e) (acc ++ piece s k e) (aft af (e + 2)) := by
                unfold TkRel
                rw [HRel.out, tkB_ptr HHr.out (by rw [HHe.out]; exact h0) (by rw [HHe.out]; exact ptB_iff.2 ⟨h1.1, h1.2, hto⟩), HHe.out, Option.map_map]
                congr 1
                funext r
                simp only [Function.comp, List.append_assoc, Prod.mk.injEq, true_and]
                unfold aft
                split <;> simp_all
              have HT := Lib.hid ht
              generalize toOf s e = to at *
              clear ht h0 h1
              by_cases ha : af = 0
              · subst ha
                go_wp2_with fail
                go_roundw
                case rel => exact ⟨to, e + 2, _, rfl, by go_num, by omega, hal, hB3, hbel3, HT.out⟩
                case measure => simp [intOf]; omega
              · have b1 : ((af : Int) == 0) = false := by simpa using ha
                have haf : aft af (e + 2) = af := by unfold aft; rw [if_neg ha]
                have HA := Lib.hid haf
                clear haf
                go_wp2_with fail
                go_roundw
                case rel => exact ⟨to, af, _, rfl, rfl, by omega, hal, hB3, hbel3, by have := HT.out; rw [HA.out] at this; exact this⟩
                case measure => simp [intOf]; omega
            · have b3 : decide ((k : Int) ≤ (toOf s e : Int)) = true := by simp; omega
              have hn : tkB s p p = none := by
                rw [HRel.out, tkB_no HHr.out (by rw [HHe.out]; exact h0) (by
                  rw [HHe.out]
                  cases hpb : ptB s k e with
                  | false => rfl
                  | true => exact absurd (ptB_iff.1 hpb).2.2 hto)]
                rfl
              obtain ⟨r1, r2, r3⟩ := tk_none (s := s) (p := (p : Int)) (.inr (by simpa using hn))
              have HR := Lib.hid (And.intro r1 (And.intro r2 r3))
              have h3 : k ≤ toOf s e := by omega
              generalize toOf s e = to at *
              clear r1 r2 r3 hn h0 h1 hto
              by_cases ha : af = 0
              · subst ha
                go_wp2_with fail
                go_ret3
                exact ⟨by rw [HR.out.1, HR.out.2.1, HR.out.2.2]; rfl, hbel3⟩
              · have b1 : ((af : Int) == 0) = false := by simpa using ha
                go_wp2_with fail
                go_ret3
                exact ⟨by rw [HR.out.1, HR.out.2.1, HR.out.2.2]; rfl, hbel3⟩
          · have q1 : spT s e = 0 := by unfold spT; rw [if_neg h0, if_neg h1]
            have q2 : spX s e = 0 := by unfold spX; rw [if_neg h0, if_neg h1]
            have q3 : spE s e = 2 := by unfold spE; rw [if_neg h0, if_neg h1]
            have hn : tkB s p p = none := by
              rw [HRel.out, tkB_no HHr.out (by rw [HHe.out]; exact h0) (by
                rw [HHe.out]
                cases hpb : ptB s k e with
                | false => rfl
                | true => exact absurd ⟨(ptB_iff.1 hpb).1, (ptB_iff.1 hpb).2.1⟩ h1)]
              rfl
            obtain ⟨r1, r2, r3⟩ := tk_none (s := s) (p := (p : Int)) (.inr (by simpa using hn))
            have HR := Lib.hid (And.intro r1 (And.intro r2 r3))
            rw [q1, q2, q3]
            clear q1 q2 q3 r1 r2 r3 hn h0 h1
            go_wp2_with fail
            go_ret3
            exact ⟨by rw [HR.out.1, HR.out.2.1, HR.out.2.2]; rfl, hbel3⟩

set_option maxRecDepth 100000 in
set_option maxHeartbeats 1000000 in
theorem take_neg (s : ByteArray) (p : Int) (hs : s.size ≤ 140737488355328) (hp : p < 0) (w : World) :
    Calls Tryz.prog 94 #[.string s, .int .i64 p] w fun e w' => e = .returned (.tuple #[.string ⟨#[]⟩, .int .i64 0, .int .i64 2]) ∧ Below w.heap.size w w' := by
  go_enter Tryz.func94, Tryz.ntmps94
  go_wp2_with fail
  refine wp_loop_rounds 1 ?_
  rw [rounds_succ]
  go_wp2_with fail
  refine (run_neg s p (by unfold maxLen; omega) hp _).mono ?_
  rintro e w1 ⟨rfl, hb1⟩
  go_wp2_with fail
  go_ret3
  exact ⟨rfl, ((Below.refl _ w).alloc (Nat.le_refl _) _).trans (hb1.mono (by simp))⟩
theorem take_any (s : ByteArray) (p : Int) (hs : s.size ≤ 140737488355328) (hp : p ≤ maxLen) (w : World) :
    Calls Tryz.prog 94 #[.string s, .int .i64 p] w fun e w' => e = .returned (.tuple #[.string (tkS s p), .int .i64 (tkX s p : Nat), .int .i64 (tkE s p : Nat)]) ∧ Below w.heap.size w w' := by
  by_cases h : 0 ≤ p
  · have h1 := take_nat s p.toNat hs (by omega) w
    rw [show ((p.toNat : Nat) : Int) = p by omega] at h1
    exact h1
  · obtain ⟨r1, r2, r3⟩ := tk_none (s := s) (p := p) (.inl (by omega))
    rw [r1, r2, r3]
    exact take_neg s p hs (by omega) w
end Go.Proofs.YtnakljbginbenaaGreatDoor

/- The contract of derricklaw03.shown: the document's example. -/
namespace Go.Proofs.YtnakljbginbenaaGreatDoor
open Go.RowKit
set_option linter.unusedVariables false

/-- The example's names. -/
def exN : ByteArray := ⟨#[3, 119, 119, 119, 2, 97, 98, 0]⟩
def exM : ByteArray := ⟨#[2, 97, 98, 0]⟩
def exL : Kn := [([3, 119, 119, 119, 2, 97, 98, 0], 0), ([2, 97, 98, 0], 4)]
theorem exN_is : NameIs exN [[119, 119, 119], [97, 98]] := ⟨by unfold okLb; decide, by decide, by decide, by decide⟩
theorem exM_is : NameIs exM [[97, 98]] := ⟨by unfold okLb; decide, by decide, by decide, by decide⟩
theorem ex_put1 : put [] [] (labs exN) = ([3, 119, 119, 119, 2, 97, 98, 0], exL) := by rw [exN_is.may.2]; decide
theorem ex_put2 : put [3, 119, 119, 119, 2, 97, 98, 0] exL (labs exM) = ([3, 119, 119, 119, 2, 97, 98, 0, 192, 4], exL) := by rw [exM_is.may.2]; decide
theorem ex_take : tkS ⟨#[3, 119, 119, 119, 2, 97, 98, 0, 192, 4]⟩ 8 = exM ∧ tkX ⟨#[3, 119, 119, 119, 2, 97, 98, 0, 192, 4]⟩ 8 = 10 ∧ tkE ⟨#[3, 119, 119, 119, 2, 97, 98, 0, 192, 4]⟩ 8 = 0 := by
  obtain ⟨W1, a1, _, _, g1, _⟩ := put_good (Good.nil []) (labs exN) (by rw [exN_is.may.2]; exact exN_is.ok)
  rw [ex_put1] at a1 g1
  have a1' : [3, 119, 119, 119, 2, 97, 98, 0] = [] ++ W1 := a1
  rw [← a1'] at g1
  obtain ⟨W2, a2, _, _, _, g2⟩ := put_good g1 (labs exM) (by rw [exM_is.may.2]; exact exM_is.ok)
  have h := g2 ⟨#[3, 119, 119, 119, 2, 97, 98, 0, 192, 4]⟩ [] (by rw [← a2]; show _ = (put [3, 119, 119, 119, 2, 97, 98, 0] exL (labs exM)).1 ++ []; rw [ex_put2]; rfl)
  rw [← a2] at h
  have h3 : tkB ⟨#[3, 119, 119, 119, 2, 97, 98, 0, 192, 4]⟩ 8 8 = some (wire (labs exM), 10) := by
    refine h.trans ?_
    show some (wire (labs exM), (put [3, 119, 119, 119, 2, 97, 98, 0] exL (labs exM)).1.length) = _
    rw [ex_put2]
    rfl
  exact tk_name exM_is.may.1 h3

end Go.Proofs.YtnakljbginbenaaGreatDoor

/- A slice of parts (derricklaw03.Part) that comes in as an argument; the contract of derricklaw03.few. -/
namespace Go.Proofs.YtnakljbginbenaaGreatDoor
open Go.RowKit
set_option linter.unusedVariables false

/-- A slice's parts: each a string, and whether it is raw. -/
def Parts (w : World) (A : Option Addr) (ps : List (ByteArray × Bool)) : Prop :=
  ∀ j (h : j < ps.length), ∃ b off : Nat, A = some ⟨b, off, none⟩ ∧ b < w.heap.size ∧ w.cell? ⟨b, off + j * 2, none⟩ = some (.string ps[j].1) ∧ w.cell? ⟨b, off + j * 2 + 1, none⟩ = some (.bool ps[j].2)
theorem Parts.below {w w' : World} {A : Option Addr} {ps : List (ByteArray × Bool)} (h : Parts w A ps) (hb : Below w.heap.size w w') : Parts w' A ps := fun j hj => by
  obtain ⟨b, off, h1, h2, h3, h4⟩ := h j hj
  exact ⟨b, off, h1, Nat.lt_of_lt_of_le h2 hb.size, (hb.cell (by exact h2)).trans h3, (hb.cell (by exact h2)).trans h4⟩

def okP (p : ByteArray × Bool) : Bool := decide (p.1.size ≤ 400)
def fewB (ps : List (ByteArray × Bool)) : Bool := (ps.take 41).all okP && decide (ps.length ≤ 40)
theorem few_yes {ps : List (ByteArray × Bool)} (h : fewB ps = true) : ps.length ≤ 40 ∧ ∀ p ∈ ps, p.1.size ≤ 400 := by
  unfold fewB at h
  rw [Bool.and_eq_true, decide_eq_true_iff] at h
  refine ⟨h.2, fun p hp => ?_⟩
  rw [List.take_of_length_le (by omega)] at h
  simpa [okP] using List.all_eq_true.1 h.1 p hp

end Go.Proofs.YtnakljbginbenaaGreatDoor

/- One step of a pack: a name, or what is none, is added. -/
namespace Go.Proofs.YtnakljbginbenaaGreatDoor
open Go.RowKit
set_option linter.unusedVariables false

/-- A pack in memory whose known names can be read. -/
structure St (B b : Nat) (S : List UInt8) (L : Kn) (w : World) : Prop where
  is : IsP B b S L w
  kn : KnOk S L
  good : Good S L
theorem St.below {B b : Nat} {S : List UInt8} {L : Kn} {w w' : World} (h : St B b S L w) (hb : Below w.heap.size w w') : St B b S L w' := ⟨h.is.below hb, h.kn, h.good⟩
theorem St.new {B b : Nat} {w : World} (h : IsP B b [] [] w) : St B b [] [] w := ⟨h, ⟨(fun p hp => by cases hp), Nat.le_refl _⟩, Good.nil _⟩
/-- What Name makes of a pack, whatever is added. -/
def stp (S : List UInt8) (L : Kn) (n : ByteArray) : List UInt8 × Kn := if mayB n = true then put S L (labs n) else (S, L)
def stE (n : ByteArray) : Int := if mayB n = true then 0 else 1
/-- What is known of the bytes behind a step. -/
structure Stepped (S : List UInt8) (L : Kn) (n : ByteArray) : Prop where
  app : ∃ X, (stp S L n).1 = S ++ X ∧ X.length ≤ n.size ∧ (mayB n = false → X = []) ∧ X.length ≤ 255
  back : mayB n = true → ∀ (s : ByteArray) (Y : List UInt8), s.data.toList = (stp S L n).1 ++ Y → tkB s S.length S.length = some (wire (labs n), (stp S L n).1.length)
theorem stepped {S : List UInt8} {L : Kn} (hG : Good S L) (n : ByteArray) : Stepped S L n ∧ Good (stp S L n).1 (stp S L n).2 := by
  unfold stp
  cases hm : mayB n with
  | false => exact ⟨⟨⟨[], by simp [stp, hm], by simp, fun _ => rfl, by simp⟩, fun h => by rw [hm] at h; cases h⟩, hG⟩
  | true =>
    have hn := may_name hm
    obtain ⟨W, h1, h2, h3, h4, h5⟩ := put_good hG (labs n) hn.ok
    have hl : (wire (labs n)).length = n.size := by rw [← hn.eq, ba_len]
    have hsz := hn.size
    have e : stp S L n = put S L (labs n) := by simp [stp, hm]
    refine ⟨⟨⟨W, by rw [e]; exact h1, by omega, (fun h => by rw [hm] at h; cases h), by omega⟩, fun _ s Y hs => ?_⟩, by simp only [if_true]; rw [h1]; exact h4⟩
    rw [e, h1]
    rw [e, h1] at hs
    exact h5 s Y hs
theorem knOk_stp {S : List UInt8} {L : Kn} (h : KnOk S L) (n : ByteArray) : KnOk (stp S L n).1 (stp S L n).2 := by
  unfold stp
  split
  · exact knOk_put _ _ _ h
  · exact h

theorem name_step (B b : Nat) (S : List UInt8) (L : Kn) (n : ByteArray) (w : World) (h : St B b S L w) (hB : B ≤ w.heap.size) (hS : S.length ≤ 1099511627776) (hn : n.size ≤ 140737488355328) :
    Calls Tryz.prog 76 #[.pointer (some ⟨b, 0, none⟩), .string n] w fun e w' => e = .returned (.int .i64 (stE n)) ∧ St B b (stp S L n).1 (stp S L n).2 w' ∧ Below B w w' ∧ Kp w w' := by
  have hk := knOk_stp h.kn n
  have hg := (stepped h.good n).2
  cases hm : mayB n with
  | true =>
    have e1 : stE n = 0 := by simp [stE, hm]
    have e2 : stp S L n = put S L (labs n) := by simp [stp, hm]
    rw [e2] at hk hg ⊢
    rw [e1]
    refine (name_yes B b S L n w h.is h.kn hB hS hm).mono ?_
    rintro e w' ⟨rfl, h1, h2, h3⟩
    exact ⟨rfl, ⟨h1, hk, hg⟩, h2, h3⟩
  | false =>
    have e1 : stE n = 1 := by simp [stE, hm]
    have e2 : stp S L n = (S, L) := by simp [stp, hm]
    rw [e2, e1]
    refine (name_no b n w hn hm).mono ?_
    rintro e w' ⟨rfl, h1⟩
    exact ⟨rfl, h.below h1, h1.mono hB, Kp.below h1⟩
theorem add_step (B b : Nat) (S : List UInt8) (L : Kn) (s : ByteArray) (w : World) (h : St B b S L w) (hl : S.length + s.size ≤ 140737488355328) (hB : B ≤ w.heap.size) :
    Calls Tryz.prog 48 #[.pointer (some ⟨b, 0, none⟩), .string s] w fun e w' => e = .returned (.tuple #[]) ∧ St B b (S ++ s.data.toList) L w' ∧ Below B w w' ∧ Kp w w' := by
  refine (add_any B b S L s w h.is hl hB).mono ?_
  rintro e w' ⟨rfl, h1, h2, h3⟩
  exact ⟨rfl, ⟨h1, ⟨h.kn.1, by have := h.kn.2; rw [List.length_append]; omega⟩, h.good.more _⟩, h2, h3⟩
end Go.Proofs.YtnakljbginbenaaGreatDoor

/- The walk of derricklaw03.WireName: it returns true, whatever the arguments. -/
namespace Go.Proofs.YtnakljbginbenaaGreatDoor
open Go.RowKit
set_option linter.unusedVariables false

theorem take_self {n : ByteArray} (s : ByteArray) (hm : mayB n = true) : tkS (n ++ s) 0 = n ∧ tkX (n ++ s) 0 = n.size ∧ tkE (n ++ s) 0 = 0 := by
  have hn := may_name hm
  have hd : (n ++ s).data.toList.drop 0 = wire (labs n) ++ s.data.toList := by rw [List.drop_zero, ← hn.eq]; simp
  have h := tkB_wire (b := 0) (labs n) 0 _ hn.ok hd
  have hl : 0 + (wire (labs n)).length = n.size := by rw [← hn.eq, ba_len]; omega
  rw [hl] at h
  exact tk_name (p := 0) hm h
theorem empty_is (s : ByteArray) (h : s = ⟨#[]⟩) : (s.toList == []) = true ∧ s.toList.isEmpty = true := by subst h; rw [ByteArray.toList_eq]; exact ⟨rfl, rfl⟩
theorem self_is (s : ByteArray) : (s.toList == s.toList) = true := by simp

end Go.Proofs.YtnakljbginbenaaGreatDoor

/- The contracts of (*wire.Pack).Mark and Close. -/
namespace Go.Proofs.YtnakljbginbenaaGreatDoor
open Go.RowKit
set_option linter.unusedVariables false

theorem zero2 : (Oc.bstr 0 2).data.toList = [0, 0] := by decide
theorem mark_any (B b : Nat) (S : List UInt8) (L : Kn) (w : World) (h : St B b S L w) (hB : B ≤ w.heap.size) (hS : S.length ≤ 1099511627776) :
    Calls Tryz.prog 79 #[.pointer (some ⟨b, 0, none⟩)] w fun e w' => e = .returned (.int .i64 (S.length + 2 : Nat)) ∧ St B b (S ++ [0, 0]) L w' ∧ Below B w w' ∧ Kp w w' := by
  go_enter Tryz.func79, Tryz.ntmps79
  go_wp2_with fail
  refine (Oc.Put16b 0 _ (by decide) (by decide)).mono ?_; rintro e w1 ⟨rfl, hb1⟩
  go_wp2_with fail
  refine (add_step B b S L _ _ (h.below hb1) (by rw [Oc.bstr_size]; omega) (Nat.le_trans hB hb1.size)).mono ?_; rintro e w2 ⟨rfl, h2, hb2, hk2⟩
  rw [zero2] at h2
  go_wp2_with fail
  refine (len_any _ _ _ _ _ h2.is).mono ?_; rintro e w3 ⟨rfl, rfl⟩
  go_wp2_with fail
  go_ret
  refine ⟨?_, h2, (hb1.mono hB).trans hb2, (Kp.below hb1).trans hk2⟩
  simp

theorem copy_str (w : World) (ty : TypeId) (g o dCap : Nat) (cur : Array Value) (s : ByteArray) (hg : w.heap[g]? = some (.cells cur 5 (0, 0))) (hfit : o + s.size ≤ cur.size) :
    (Builtin.copy_ #[88, 9] ty #[.slice (some ⟨g, o, none⟩) s.size dCap, .string s]).run Tryz.prog w =
      .ok (goInt s.size) (w.setRow g (cur.toList.take o ++ Lib.strCells s ++ cur.toList.drop (o + s.size)).toArray) := by
  obtain ⟨i0, hi, hz0, hz1, hz2⟩ := info_parts info5
  have hf := Lib.run_firstCells_string (P := Tryz.prog) w 1 s
  have hst := run_storeCells_at Tryz.prog g o 5 (Lib.strCells s) 0 cur w hg (by simpa [Lib.strCells_length] using hfit) (Lib.strCells_oneCell s)
  simp only [Nat.add_zero, Lib.strCells_length] at hst
  simp [Builtin.copy_, run_underlying Tryz.underlying88, Builtin.lenOf, sizeOf, typeInfo, hi, hz1, hf, hst]

theorem step_copy_str {ops : Array Oper} {o : Oper} {a : Act} {w : World} {K : Act → World → Prop} {Q : Exit → Act → World → Prop} {E : Prop} (hgd : o.guard = none) (d s : Operand)
    (ho : o.op = .call { callee := .builtin .copy, args := #[d, s], argTypes := #[88, 9] }) (g off k dCap : Nat) (x : ByteArray) (hk : k = x.size) (hd : a.eval d = .slice (some ⟨g, off, none⟩) k dCap) (hs : a.eval s = .string x)
    (cur : Array Value) (hg : w.heap[g]? = some (.cells cur 5 (0, 0))) (hfit : off + x.size ≤ cur.size)
    (h : K (a.put o.dst (goInt x.size)) (w.setRow g (cur.toList.take off ++ Lib.strCells x ++ cur.toList.drop (off + x.size)).toArray)) :
    if Region.wanted o (yielded ops a.tmps) = true then Oper.wp Tryz.prog o a w K Q else E := by
  have hw : Region.wanted o (yielded ops a.tmps) = true := by simp [Region.wanted, hgd]
  rw [if_pos hw]
  subst hk
  have hrun := copy_str w o.type g off dCap cur x hg hfit
  unfold Oper.wp
  simp only [execOp, ho, resolve, invoke, builtin, Sem.run_bind, Sem.run_pure, Result.andThen_ok, List.map_toArray, List.map_cons, List.map_nil, hd, hs, hrun]
  exact h

/-- What Close makes of the bytes, the two from an offset on. -/
def clo (S : List UInt8) (m : Nat) : List UInt8 := S.take m ++ ((Oc.bstr (((S.length - (m + 2)) % 65536 : Nat) : Int) 2).data.toList ++ S.drop (m + 2))
theorem clo_len {S : List UInt8} {m : Nat} (h : m + 2 ≤ S.length) : (clo S m).length = S.length := by
  unfold clo
  rw [List.length_append, List.length_append, ba_len, Oc.bstr_size, List.length_take, List.length_drop]
  omega
theorem cells_of_set {w : World} {g : Nat} {cur : Array Value} {t : TypeId} (hg : w.heap[g]? = some (.cells cur t (0, 0))) (cs : Array Value) : w.grownBy (w.setRow g cs) (some g) :=
  ⟨rfl, rfl, rfl, by simp [World.setRow], fun k _ hk => setRow_other w g k cs (fun e => hk (by rw [e]))⟩

set_option maxRecDepth 100000 in
set_option maxHeartbeats 1000000 in
theorem close_yes (B b : Nat) (S : List UInt8) (L : Kn) (m : Nat) (w : World) (h : IsP B b S L w) (hB : B ≤ w.heap.size) (hS : S.length ≤ 1099511627776) (ha : m + 2 ≤ S.length) :
    Calls Tryz.prog 81 #[.pointer (some ⟨b, 0, none⟩), .int .i64 ((m : Int) + 2)] w fun e w' => e = .returned (.int .i64 0) ∧ IsP B b (clo S m) L w' ∧ Below B w w' ∧ Kp w w' := by
  obtain ⟨hBb, v, mv, hb, hrow, hm⟩ := h
  have hrow' := hrow
  rcases hrow.2 with ⟨_, h0⟩ | ⟨g, cap, cur, rfl, hBg, hg, hnc, hcm, hcs, htake⟩
  · omega
  have c0 : w.cell? ⟨b, 0, none⟩ = some (.slice (some ⟨g, 0, none⟩) S.length cap) := blk_cell hb 0
  obtain ⟨n, hn⟩ : ∃ n : Nat, (S.length - (m + 2)) % 65536 = n := ⟨_, rfl⟩
  have hn2 : n < 65536 := by omega
  have b1 : decide ((m : Int) + 2 < 2) = false := by simp; omega
  have b2 : decide ((S.length : Int) < (m : Int) + 2) = false := by simp; omega
  have hwr : IntKind.u16.wrap ((S.length : Int) - ((m : Int) + 2)) = (n : Int) := by
    show ((S.length : Int) - ((m : Int) + 2)) % 65536 = (n : Int)
    omega
  have hcap : m + 2 ≤ cap := by omega
  have hne : ¬ cap = m := by omega
  have k1 : (0 : Int) ≤ (m : Int) + 2 := by omega
  have k2 : (m : Int) + 2 ≤ (cap : Int) := by omega
  have k3 : ((m : Int) + 2).toNat = m + 2 := by omega
  have k5 : IntKind.i64.wrap ((S.length : Int) - ((m : Int) + 2)) = (S.length : Int) - ((m : Int) + 2) := IntWalk.i64_in _ (by omega)
  have k4 : IntKind.i64.wrap (m : Int) = m := IntWalk.i64_in _ (by omega)
  have hkeep : ∀ w2, Below w.heap.size w.drew w2 → w2.cell? ⟨b, 0, none⟩ = some (.slice (some ⟨g, 0, none⟩) S.length cap) ∧ (w2.heap[g]? = some (.cells cur 5 (0, 0))) ∧ IsP B b (clo S m) L (w2.setRow g (cur.toList.take m ++ Lib.strCells (Oc.bstr (n : Int) 2) ++ cur.toList.drop (m + 2)).toArray) ∧ Below B w (w2.setRow g (cur.toList.take m ++ Lib.strCells (Oc.bstr (n : Int) 2) ++ cur.toList.drop (m + 2)).toArray)  ∧ Kp w (w2.setRow g (cur.toList.take m ++ Lib.strCells (Oc.bstr (n : Int) 2) ++ cur.toList.drop (m + 2)).toArray) := by
    intro w2 hb2
    have hbw : Below w.heap.size w w2 := ⟨hb2.os, hb2.tape, hb2.output, hb2.size, hb2.block⟩
    have hb' : w2.heap[b]? = some (.cells #[.slice (some ⟨g, 0, none⟩) S.length cap, mv] 91 (0, 0)) := (hbw.block b (heap_lt hb)).trans hb
    have hg' : w2.heap[g]? = some (.cells cur 5 (0, 0)) := (hbw.block g (heap_lt hg)).trans hg
    have hcs' : cur.size = cap := by simpa using hcs
    have hz := Oc.bstr_size (n : Int) 2
    have hgr := cells_of_set hg' (cur.toList.take m ++ Lib.strCells (Oc.bstr (n : Int) 2) ++ cur.toList.drop (m + 2)).toArray
    refine ⟨blk_cell hb' 0, hg', ⟨hBb, .slice (some ⟨g, 0, none⟩) S.length cap, mv, ?_, ?_, ?_⟩, ?_, ?_⟩
    · refine (hgr.block b (heap_lt hb') (fun e => ?_)).trans hb'
      cases e
      rw [hb'] at hg'
      cases hg'
    · rw [clo_len ha]
      refine ⟨by rw [Lib.byteCells_length, clo_len ha]; omega, .inr ⟨g, cap, _, rfl, hBg, setRow_heap w2 g cur _ 5 _ hg', hnc, hcm, ?_, ?_⟩⟩
      · simp only [List.size_toArray, List.length_append, List.length_take, List.length_drop, Array.length_toList, Lib.strCells_length]
        omega
      · have ht' : cur.toList.take S.length = Lib.byteCells S := by simpa using htake
        have hsplit : cur.toList = Lib.byteCells S ++ cur.toList.drop S.length := by rw [← ht', List.take_append_drop]
        have e1 : cur.toList.take m = (Lib.byteCells S).take m := by rw [← ht', List.take_take]; congr 1; omega
        have e2 : (cur.toList.drop (m + 2)).take (S.length - (m + 2)) = (Lib.byteCells S).drop (m + 2) := by rw [← ht', List.drop_take]
        rw [Nat.mul_one]
        unfold clo
        rw [hn, Lib.byteCells_append, Lib.byteCells_append, Lib.strCells_eq]
        have l1 : (cur.toList.take m).length = m := by rw [List.length_take, Array.length_toList]; omega
        have l2 : (Lib.byteCells (Oc.bstr (n : Int) 2).data.toList).length = 2 := by rw [Lib.byteCells_length, ba_len, hz]
        have e3 : (Lib.byteCells S).take m = Lib.byteCells (S.take m) := by simp [Lib.byteCells]
        have e4 : (Lib.byteCells S).drop (m + 2) = Lib.byteCells (S.drop (m + 2)) := by simp [Lib.byteCells]
        rw [e3] at e1
        rw [e4] at e2
        generalize cur.toList.take m = P1 at *
        generalize cur.toList.drop (m + 2) = R at *
        generalize Lib.byteCells (Oc.bstr (n : Int) 2).data.toList = Q at *
        rw [List.append_assoc, List.take_append, List.take_of_length_le (show P1.length ≤ S.length by omega), List.take_append, List.take_of_length_le (show Q.length ≤ S.length - P1.length by omega), l1, l2, show S.length - m - 2 = S.length - (m + 2) by omega, e2, e1]
    · exact (hm.below hbw).kept hgr (fun k e => by cases e; exact ⟨cur, 5, (0, 0), hg'⟩)
    · exact ((hbw.mono hB).grown hgr (Nat.le_trans hB hbw.size) (fun k e => by cases e; exact hBg))
    · exact (Kp.below hbw).trans (Kp.grown hgr (fun k e => by cases e; exact .inl ⟨cur, _, hg'⟩))
  have HKeep := Lib.hid hkeep
  have hcz : m + 2 ≤ cur.size := by have : cur.size = cap := by simpa using hcs
                                    omega
  clear hcm hnc hcs hkeep hn hrow hrow' hg hb htake hm
  go_enter Tryz.func81, Tryz.ntmps81
  go_wp2_with fail
  go_region_law (first | (refine step_copy_str rfl (.tmp 27) (.tmp 36) rfl g m 2 (cap - m) (Oc.bstr (n : Int) 2) (by rw [Oc.bstr_size]) rfl rfl cur HG.out (by rw [Oc.bstr_size]; omega) ?_) | (go_simp; go_at_call 49; refine (Oc.Put16b (n : Int) _ (by omega) (by omega)).mono ?_; rintro e w2 ⟨rfl, hb2⟩; have hc2 := (HKeep.out w2 hb2).1; have HG := Lib.hid (HKeep.out w2 hb2).2.1; have HD := Lib.hid (HKeep.out w2 hb2).2.2))
  all_goals
    go_wp2_with fail
    go_ret
    have h1 := HD.out
    rw [List.append_assoc] at h1
    rw [Oc.bstr_size]
    exact ⟨rfl, h1.1, h1.2⟩
theorem close_no (B b : Nat) (S : List UInt8) (L : Kn) (a : Int) (w : World) (h : IsP B b S L w) (hS : S.length ≤ 1099511627776) (ha : a < 2 ∨ S.length < a) :
    Calls Tryz.prog 81 #[.pointer (some ⟨b, 0, none⟩), .int .i64 a] w fun e w' => e = .returned (.int .i64 1) ∧ w = w' := by
  obtain ⟨hBb, v, mv, hb, hrow, hm⟩ := h
  obtain ⟨A, cap, rfl⟩ := own_form hrow
  have c0 : w.cell? ⟨b, 0, none⟩ = some (.slice A S.length cap) := blk_cell hb 0
  by_cases h2 : a < 2
  · have b1 : decide (a < 2) = true := by simp; omega
    clear ha
    go_enter Tryz.func81, Tryz.ntmps81
    go_wp2_with fail
    go_ret
    exact ⟨rfl, rfl⟩
  · have b1 : decide (a < 2) = false := by simp; omega
    have b2 : (S.length : Int) < a := by omega
    clear ha h2
    go_enter Tryz.func81, Tryz.ntmps81
    go_wp2_with fail
    go_ret
    exact ⟨rfl, rfl⟩
theorem clo_zero : clo [0, 0] 0 = [0, 0] := by decide
theorem len2 (n : Nat) (h : n ≤ 255) : (Oc.bstr (n : Int) 2).data.toList = [0, UInt8.ofNat n] := by
  show Oc.bytesOf (n : Int) 2 = _
  unfold Oc.bytesOf Oc.byteAt
  simp only [List.range, List.range.loop, List.map_cons, List.map_nil, Nat.reduceMul, Nat.reduceSub, Int.reducePow, Int.pow_zero, Int.ediv_one, Nat.mul_zero]
  have e1 : ((n : Int) / 256).toNat = 0 := by omega
  have e2 : (n : Int).toNat = n := by omega
  rw [e1, e2]
  rfl
theorem clo_named (A N : List UInt8) (h : N.length ≤ 255) : clo (A ++ [0, 0] ++ N) A.length = A ++ [0, UInt8.ofNat N.length] ++ N := by
  unfold clo
  have e1 : (A ++ [0, 0] ++ N).length - (A.length + 2) = N.length := by simp; omega
  rw [e1, Nat.mod_eq_of_lt (by omega), len2 N.length h, List.append_assoc A, List.take_left' rfl, ← List.append_assoc A [0, 0], List.drop_left' (by simp), List.append_assoc]
end Go.Proofs.YtnakljbginbenaaGreatDoor
