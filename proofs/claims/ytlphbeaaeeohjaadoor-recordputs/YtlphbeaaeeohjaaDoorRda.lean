/- Plain mathematics of resource record data: what data of a type are, how they are put into a pack, and how they are taken. -/
import Derived.Test.YtlphbeaaeeohjaaDoorWst
namespace Go.Proofs.YtlphbeaaeeohjaaDoor
open Go

/-- How many bytes the name has with which a string begins; 0: there is none. -/
def szN (s : ByteArray) : Nat := match (List.range 255).find? (fun k => decide (k + 1 ≤ s.size) && mayB (s.extract 0 (k + 1))) with | some k => k + 1 | none => 0
theorem ext_list (s : ByteArray) (k : Nat) : (s.extract 0 k).data.toList = s.data.toList.take k := by rw [extract_list, List.drop_zero]
/-- A name is no begin of another one. -/
theorem wire_prefix : ∀ (a b : List (List UInt8)) (R R' : List UInt8), (∀ l ∈ a, okLb l) → (∀ l ∈ b, okLb l) → wire a ++ R = wire b ++ R' → a = b ∧ R = R'
  | [], [], R, R', _, _, h => ⟨rfl, by simpa [wire] using h⟩
  | [], l :: b, R, R', _, hb, h => by
    have hl := hb l (by simp)
    unfold okLb at hl
    have h1 : (0 : UInt8) = UInt8.ofNat l.length := by
      have := congrArg List.head? h
      simpa [wire, enc1] using this
    have h2 := congrArg UInt8.toNat h1
    rw [UInt8.toNat_ofNat'] at h2
    simp at h2
    omega
  | l :: a, [], R, R', ha, _, h => by
    have hl := ha l (by simp)
    unfold okLb at hl
    have h1 : UInt8.ofNat l.length = (0 : UInt8) := by
      have := congrArg List.head? h
      simpa [wire, enc1] using this
    have h2 := congrArg UInt8.toNat h1
    rw [UInt8.toNat_ofNat'] at h2
    simp at h2
    omega
  | l :: a, m :: b, R, R', ha, hb, h => by
    have hl := ha l (by simp)
    have hm := hb m (by simp)
    unfold okLb at hl hm
    rw [wire_cons, wire_cons, List.append_assoc, List.append_assoc] at h
    have h1 : UInt8.ofNat l.length = UInt8.ofNat m.length := by
      have := congrArg List.head? h
      simpa [enc1] using this
    have h2 := congrArg UInt8.toNat h1
    rw [UInt8.toNat_ofNat', UInt8.toNat_ofNat'] at h2
    have h3 : l.length = m.length := by omega
    have h4 := List.append_inj h (by rw [enc1_len, enc1_len, h3])
    have h5 : l = m := by
      have := h4.1
      unfold enc1 at this
      exact (List.cons.inj this).2
    obtain ⟨h6, h7⟩ := wire_prefix a b R R' (fun l' hl' => ha l' (List.mem_cons_of_mem _ hl')) (fun l' hl' => hb l' (List.mem_cons_of_mem _ hl')) h4.2
    exact ⟨by rw [h5, h6], h7⟩
theorem name_begin {s : ByteArray} {k k' : Nat} (hk : k ≤ s.size) (hk' : k' ≤ s.size) (h : mayB (s.extract 0 k) = true) (h' : mayB (s.extract 0 k') = true) : k = k' := by
  have n1 := may_name h
  have n2 := may_name h'
  have e1 : wire (labs (s.extract 0 k)) ++ s.data.toList.drop k = wire (labs (s.extract 0 k')) ++ s.data.toList.drop k' := by
    rw [← n1.eq, ← n2.eq, ext_list, ext_list, List.take_append_drop, List.take_append_drop]
  obtain ⟨h1, _⟩ := wire_prefix _ _ _ _ n1.ok n2.ok e1
  have z1 : (s.extract 0 k).size = k := by rw [← ba_len, ext_list, List.length_take, ba_len]; omega
  have z2 : (s.extract 0 k').size = k' := by rw [← ba_len, ext_list, List.length_take, ba_len]; omega
  have e2 : (s.extract 0 k).data.toList.length = (s.extract 0 k').data.toList.length := by rw [n1.eq, n2.eq, h1]
  rw [ba_len, ba_len, z1, z2] at e2
  exact e2
theorem szN_yes {s : ByteArray} {k : Nat} (hk : k ≤ s.size) (h : mayB (s.extract 0 k) = true) : szN s = k := by
  have hn := may_name h
  have z1 : (s.extract 0 k).size = k := by rw [← ba_len, ext_list, List.length_take, ba_len]; omega
  have hsz := hn.size
  have hpos := wire_len_pos (labs (s.extract 0 k))
  rw [← hn.eq, ba_len] at hpos
  unfold szN
  cases hf : (List.range 255).find? (fun k => decide (k + 1 ≤ s.size) && mayB (s.extract 0 (k + 1))) with
  | none =>
    rw [List.find?_eq_none] at hf
    have := hf (k - 1) (by simp; omega)
    rw [show k - 1 + 1 = k by omega, h] at this
    simp at this
    omega
  | some j =>
    have h1 := List.find?_some hf
    rw [Bool.and_eq_true, decide_eq_true_iff] at h1
    exact name_begin h1.1 hk h1.2 h
theorem szN_pos {s : ByteArray} (h : 0 < szN s) : szN s ≤ s.size ∧ szN s ≤ 255 ∧ mayB (s.extract 0 (szN s)) = true := by
  unfold szN at *
  cases hf : (List.range 255).find? (fun k => decide (k + 1 ≤ s.size) && mayB (s.extract 0 (k + 1))) with
  | none => rw [hf] at h; simp at h
  | some j =>
    have h1 := List.find?_some hf
    have h2 := List.mem_of_find?_eq_some hf
    rw [Bool.and_eq_true, decide_eq_true_iff] at h1
    have h3 := List.mem_range.1 h2
    exact ⟨h1.1, by simp only; omega, h1.2⟩

/-- Strings, each behind a byte that has its length; one at least. -/
def txtB (l : List UInt8) : Bool := match l with
  | [] => false
  | c :: r => if c.toNat ≤ r.length then (if c.toNat = r.length then true else txtB (r.drop c.toNat)) else false
termination_by l.length
decreasing_by simp only [List.length_drop, List.length_cons]; omega

/-- Two names and twenty bytes. -/
def soaB (d : ByteArray) : Bool := decide (0 < szN d ∧ 0 < szN (d.extract (szN d) d.size) ∧ d.size = szN d + szN (d.extract (szN d) d.size) + 20)
def isN (k : Nat) : Bool := decide (k = 2 ∨ k = 5 ∨ k = 12)
/-- Are these data of that type? -/
def mayD (k : Nat) (d : ByteArray) : Bool :=
  decide (d.size ≤ 65535) && (if k = 1 then decide (d.size = 4) else if k = 28 then decide (d.size = 16) else if isN k = true then mayB d
    else if k = 15 then decide (2 < d.size) && mayB (d.extract 2 d.size) else if k = 6 then soaB d else if k = 16 then txtB d.data.toList else true)

/-- What Put makes of a pack, of data that may be. -/
def putD (S : List UInt8) (L : Kn) (k : Nat) (d : ByteArray) : List UInt8 × Kn :=
  if isN k = true then put S L (labs d)
  else if k = 15 then put (S ++ d.data.toList.take 2) L (labs (d.extract 2 d.size))
  else if k = 6 then
    let a := szN d
    let b := szN (d.extract a d.size)
    let one := put S L (labs (d.extract 0 a))
    let two := put one.1 one.2 (labs ((d.extract a d.size).extract 0 b))
    (two.1 ++ d.data.toList.drop (a + b), two.2)
  else (S ++ d.data.toList, L)
/-- The name at an offset, folded, and the offset behind. -/
def nm1 (s : ByteArray) (p : Nat) : Option (List UInt8 × Nat) := ((tkB s p p).filter fun r => decide (r.1.length ≤ 255)).map fun r => (r.1.map low, r.2)
/-- What Take tells of bytes that there are. -/
def takeD (s : ByteArray) (p m k : Nat) : Option (List UInt8) :=
  if isN k = true then (nm1 s p).bind fun r => if r.2 = p + m then some r.1 else none
  else if k = 15 then (if m < 3 then none else (nm1 s (p + 2)).bind fun r => if r.2 = p + m then some ((s.data.toList.drop p).take 2 ++ r.1) else none)
  else if k = 6 then (nm1 s p).bind fun r => if r.2 ≤ p + m then (nm1 s r.2).bind fun q => if q.2 ≤ p + m ∧ p + m - q.2 = 20 then some (r.1 ++ q.1 ++ (s.data.toList.drop q.2).take 20) else none else none
  else (if mayD k ⟨((s.data.toList.drop p).take m).toArray⟩ = true then some ((s.data.toList.drop p).take m) else none)

theorem nm1_name {s n : ByteArray} {p e : Nat} (hm : mayB n = true) (h : tkB s p p = some (wire (labs n), e)) : nm1 s p = some (n.data.toList, e) := by
  have hn := may_name hm
  have hl : (wire (labs n)).length ≤ 255 := by rw [← hn.eq, ba_len]; exact hn.size
  unfold nm1
  rw [h]
  simp only [Option.filter, hl, decide_true, if_true, Option.map_some]
  rw [map_low_wire _ hn.ok, map_map_low hn.low, hn.eq]
/-- What is put is known, and can be read. -/
theorem putD_good {S : List UInt8} {L : Kn} (hG : Good S L) {k : Nat} {d : ByteArray} (hm : mayD k d = true) : (∃ X, (putD S L k d).1 = S ++ X ∧ X.length ≤ d.size) ∧ Good (putD S L k d).1 (putD S L k d).2 := by
  unfold mayD at hm
  unfold putD
  rw [Bool.and_eq_true] at hm
  have hm := hm.2
  by_cases hN : isN k = true
  · have h1 : k ≠ 1 := by unfold isN at hN; simp at hN; omega
    have h28 : k ≠ 28 := by unfold isN at hN; simp at hN; omega
    rw [if_neg h1, if_neg h28, if_pos hN] at hm
    simp only [if_pos hN]
    have hn := may_name hm
    obtain ⟨W, g1, _, g3, g4, _⟩ := put_good hG (labs d) hn.ok
    rw [← hn.eq, ba_len] at g3
    exact ⟨⟨W, g1, g3⟩, by rw [g1]; exact g4⟩
  · simp only [if_neg hN] at hm ⊢
    by_cases h15 : k = 15
    · subst h15
      simp only [if_true] at hm ⊢
      rw [if_neg (by decide), if_neg (by decide), Bool.and_eq_true, decide_eq_true_iff] at hm
      have hn := may_name hm.2
      obtain ⟨W, g1, _, g3, g4, _⟩ := put_good (hG.more (d.data.toList.take 2)) (labs (d.extract 2 d.size)) hn.ok
      rw [← hn.eq, ba_len, ByteArray.size_extract] at g3
      refine ⟨⟨d.data.toList.take 2 ++ W, by rw [g1, List.append_assoc], ?_⟩, by rw [g1]; exact g4⟩
      rw [List.length_append, List.length_take, ba_len]
      omega
    · simp only [if_neg h15] at hm ⊢
      by_cases h6 : k = 6
      · subst h6
        simp only [if_true] at hm ⊢
        rw [if_neg (by decide), if_neg (by decide)] at hm
        unfold soaB at hm
        rw [decide_eq_true_iff] at hm
        obtain ⟨ha, hb, hs⟩ := hm
        obtain ⟨a1, a2, a3⟩ := szN_pos ha
        obtain ⟨b1, b2, b3⟩ := szN_pos hb
        generalize szN (d.extract (szN d) d.size) = b at *
        generalize szN d = a at *
        have n1 := may_name a3
        have n2 := may_name b3
        have z1 : (d.extract 0 a).size = a := by rw [ByteArray.size_extract]; omega
        have z2 : ((d.extract a d.size).extract 0 b).size = b := by rw [ByteArray.size_extract]; rw [ByteArray.size_extract] at b1 ⊢; omega
        obtain ⟨W, g1, _, g3, g4, _⟩ := put_good hG (labs (d.extract 0 a)) n1.ok
        rw [← n1.eq, ba_len, z1] at g3
        rw [← g1] at g4
        obtain ⟨V, f1, _, f3, f4, _⟩ := put_good g4 (labs ((d.extract a d.size).extract 0 b)) n2.ok
        rw [← n2.eq, ba_len, z2] at f3
        refine ⟨⟨W ++ V ++ d.data.toList.drop (a + b), ?_, ?_⟩, ?_⟩
        · rw [f1, g1]; simp
        · rw [List.length_append, List.length_append, List.length_drop, ba_len]; omega
        · rw [f1]; exact f4.more _
      · simp only [if_neg h6]
        exact ⟨⟨d.data.toList, rfl, by rw [ba_len]; exact Nat.le_refl _⟩, hG.more _⟩
/-- P4.4: what was put is taken. -/
theorem takeD_put {S : List UInt8} {L : Kn} (hG : Good S L) {k : Nat} {d s : ByteArray} (hm : mayD k d = true) (Y : List UInt8) (hs : s.data.toList = (putD S L k d).1 ++ Y) :
    takeD s S.length ((putD S L k d).1.length - S.length) k = some d.data.toList := by
  have hm0 := hm
  unfold mayD at hm
  rw [Bool.and_eq_true] at hm
  have hm := hm.2
  unfold takeD
  by_cases hN : isN k = true
  · have h1 : k ≠ 1 := by unfold isN at hN; simp at hN; omega
    have h28 : k ≠ 28 := by unfold isN at hN; simp at hN; omega
    rw [if_neg h1, if_neg h28, if_pos hN] at hm
    have e : putD S L k d = put S L (labs d) := by unfold putD; rw [if_pos hN]
    rw [e] at hs ⊢
    have hn := may_name hm
    obtain ⟨W, g1, _, _, _, g5⟩ := put_good hG (labs d) hn.ok
    rw [g1] at hs ⊢
    rw [if_pos hN, nm1_name hm (g5 s Y hs)]
    have : (S ++ W).length = S.length + ((S ++ W).length - S.length) := by rw [List.length_append]; omega
    simp only [Option.bind_some]
    rw [if_pos this]
  · simp only [if_neg hN] at hm ⊢
    by_cases h15 : k = 15
    · subst h15
      simp only [if_true] at hm ⊢
      rw [if_neg (by decide), if_neg (by decide), Bool.and_eq_true, decide_eq_true_iff] at hm
      have e : putD S L 15 d = put (S ++ d.data.toList.take 2) L (labs (d.extract 2 d.size)) := by unfold putD; rw [if_neg hN, if_pos rfl]
      rw [e] at hs ⊢
      have hn := may_name hm.2
      obtain ⟨W, g1, g2, _, _, g5⟩ := put_good (hG.more (d.data.toList.take 2)) (labs (d.extract 2 d.size)) hn.ok
      rw [g1] at hs ⊢
      have hl2 : (d.data.toList.take 2).length = 2 := by rw [List.length_take, ba_len]; omega
      have hp2 : (S ++ d.data.toList.take 2).length = S.length + 2 := by rw [List.length_append, hl2]
      have ht := g5 s Y hs
      rw [hp2] at ht
      rw [nm1_name hm.2 ht]
      have hlen : (S ++ d.data.toList.take 2 ++ W).length = S.length + 2 + W.length := by rw [List.length_append, hp2]
      rw [if_neg (by rw [hlen]; omega)]
      simp only [Option.bind_some]
      rw [if_pos (by rw [hlen]; omega)]
      have hd : (s.data.toList.drop S.length).take 2 = d.data.toList.take 2 := by
        rw [hs, List.append_assoc, List.append_assoc, List.drop_left' rfl, List.take_left' hl2]
      rw [hd, extract_list, ← ba_len, List.take_length, List.take_append_drop]
    · simp only [if_neg h15] at hm ⊢
      by_cases h6 : k = 6
      · subst h6
        simp only [if_true] at hm ⊢
        rw [if_neg (by decide), if_neg (by decide)] at hm
        unfold soaB at hm
        rw [decide_eq_true_iff] at hm
        obtain ⟨ha, hb, hsz⟩ := hm
        obtain ⟨a1, a2, a3⟩ := szN_pos ha
        obtain ⟨b1, b2, b3⟩ := szN_pos hb
        have e : putD S L 6 d = ((put (put S L (labs (d.extract 0 (szN d)))).1 (put S L (labs (d.extract 0 (szN d)))).2 (labs ((d.extract (szN d) d.size).extract 0 (szN (d.extract (szN d) d.size))))).1 ++ d.data.toList.drop (szN d + szN (d.extract (szN d) d.size)), (put (put S L (labs (d.extract 0 (szN d)))).1 (put S L (labs (d.extract 0 (szN d)))).2 (labs ((d.extract (szN d) d.size).extract 0 (szN (d.extract (szN d) d.size))))).2) := by
          unfold putD; rw [if_neg hN, if_neg (by decide), if_pos rfl]
        rw [e] at hs ⊢
        simp only at hs ⊢
        generalize szN (d.extract (szN d) d.size) = b at *
        generalize szN d = a at *
        have n1 := may_name a3
        have n2 := may_name b3
        obtain ⟨W, g1, g2, _, g4, g5⟩ := put_good hG (labs (d.extract 0 a)) n1.ok
        rw [← g1] at g4
        obtain ⟨V, f1, f2, _, _, f5⟩ := put_good g4 (labs ((d.extract a d.size).extract 0 b)) n2.ok
        have hT : (d.data.toList.drop (a + b)).length = 20 := by rw [List.length_drop, ba_len]; omega
        have t1 := g5 s (V ++ d.data.toList.drop (a + b) ++ Y) (by rw [hs, f1, g1]; simp)
        have t2 := f5 s (d.data.toList.drop (a + b) ++ Y) (by rw [hs, f1]; simp)
        rw [← g1] at t1
        rw [← f1] at t2
        rw [nm1_name a3 t1]
        simp only [Option.bind_some]
        have l1 : (put S L (labs (d.extract 0 a))).1.length = S.length + W.length := by rw [g1, List.length_append]
        have l2 : (put (put S L (labs (d.extract 0 a))).1 (put S L (labs (d.extract 0 a))).2 (labs ((d.extract a d.size).extract 0 b))).1.length = S.length + W.length + V.length := by rw [f1, List.length_append, l1]
        rw [List.length_append, hT, l2]
        rw [if_pos (by rw [l1]; omega), nm1_name b3 t2]
        simp only [Option.bind_some]
        rw [if_pos (by rw [l2]; omega)]
        have hd : (s.data.toList.drop (put (put S L (labs (d.extract 0 a))).1 (put S L (labs (d.extract 0 a))).2 (labs ((d.extract a d.size).extract 0 b))).1.length).take 20 = d.data.toList.drop (a + b) := by
          rw [hs, List.append_assoc, List.drop_left' rfl, List.take_left' hT]
        rw [hd, ext_list, ext_list, extract_list, ← ba_len d, List.take_length]
        congr 1
        rw [← List.drop_drop, List.append_assoc, List.take_append_drop, List.take_append_drop]
      · simp only [if_neg h6]
        have e : putD S L k d = (S ++ d.data.toList, L) := by unfold putD; rw [if_neg hN, if_neg h15, if_neg h6]
        rw [e] at hs ⊢
        have hd : (s.data.toList.drop S.length).take ((S ++ d.data.toList).length - S.length) = d.data.toList := by
          rw [hs, List.append_assoc, List.drop_left' rfl, List.length_append, Nat.add_sub_cancel_left, List.take_left' rfl]
        rw [hd]
        have hb : (⟨d.data.toList.toArray⟩ : ByteArray) = d := by apply ba_ext; rfl
        rw [hb, if_pos hm0]
end Go.Proofs.YtlphbeaaeeohjaaDoor
