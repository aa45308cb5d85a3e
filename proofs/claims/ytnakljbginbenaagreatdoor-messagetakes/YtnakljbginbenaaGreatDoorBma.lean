/- Joined texts: Rda Rdb Rca Rra. -/
import Derived.Test.YtnakljbginbenaaGreatDoorBwi
import Derived.Test.YtnakljbginbenaaGreatDoorBoc

/- Plain mathematics of resource record data: what data of a type are, how they are put into a pack, and how they are taken. -/
namespace Go.Proofs.YtnakljbginbenaaGreatDoor
open Go

/-- How many bytes the name has with which a string begins; 0: there is none. -/
def szN (s : ByteArray) : Nat := match (List.range 255).find? (fun k => decide (k + 1 ≤ s.size) && mayB (s.extract 0 (k + 1))) with | some k => k + 1 | none => 0
theorem ext_list (s : ByteArray) (k : Nat) : (s.extract 0 k).data.toList = s.data.toList.take k := by rw [extract_list, List.drop_zero]
/-- A name is no begin of another one. -/
theorem wire_prefix : ∀ (a b : List (List UInt8)) (R R' : List UInt8), (∀ l ∈ a, okLb l) → (∀ l ∈ b, okLb l) → wire a ++ R = wire b ++ R' → a = b ∧ R = R'
  | [], [], R, R', _, _, h => ⟨rfl, by simpa [wire] using h⟩
  | [], l :: b, R, R', _, hb, h => by
    have hl := hb l (by simp)
    unfold okLb at hl
    have h1 : (0 : UInt8) = UInt8.ofNat l.length := by
      have := congrArg List.head? h
      simpa [wire, enc1] using this
    have h2 := congrArg UInt8.toNat h1
    rw [UInt8.toNat_ofNat'] at h2
    simp at h2
    omega
  | l :: a, [], R, R', ha, _, h => by
    have hl := ha l (by simp)
    unfold okLb at hl
    have h1 : UInt8.ofNat l.length = (0 : UInt8) := by
      have := congrArg List.head? h
      simpa [wire, enc1] using this
    have h2 := congrArg UInt8.toNat h1
    rw [UInt8.toNat_ofNat'] at h2
    simp at h2
    omega
  | l :: a, m :: b, R, R', ha, hb, h => by
    have hl := ha l (by simp)
    have hm := hb m (by simp)
    unfold okLb at hl hm
    rw [wire_cons, wire_cons, List.append_assoc, List.append_assoc] at h
    have h1 : UInt8.ofNat l.length = UInt8.ofNat m.length := by
      have := congrArg List.head? h
      simpa [enc1] using this
    have h2 := congrArg UInt8.toNat h1
    rw [UInt8.toNat_ofNat', UInt8.toNat_ofNat'] at h2
    have h3 : l.length = m.length := by omega
    have h4 := List.append_inj h (by rw [enc1_len, enc1_len, h3])
    have h5 : l = m := by
      have := h4.1
      unfold enc1 at this
      exact (List.cons.inj this).2
    obtain ⟨h6, h7⟩ := wire_prefix a b R R' (fun l' hl' => ha l' (List.mem_cons_of_mem _ hl')) (fun l' hl' => hb l' (List.mem_cons_of_mem _ hl')) h4.2
    exact ⟨by rw [h5, h6], h7⟩
theorem name_begin {s : ByteArray} {k k' : Nat} (hk : k ≤ s.size) (hk' : k' ≤ s.size) (h : mayB (s.extract 0 k) = true) (h' : mayB (s.extract 0 k') = true) : k = k' := by
  have n1 := may_name h
  have n2 := may_name h'
  have e1 : wire (labs (s.extract 0 k)) ++ s.data.toList.drop k = wire (labs (s.extract 0 k')) ++ s.data.toList.drop k' := by
    rw [← n1.eq, ← n2.eq, ext_list, ext_list, List.take_append_drop, List.take_append_drop]
  obtain ⟨h1, _⟩ := wire_prefix _ _ _ _ n1.ok n2.ok e1
  have z1 : (s.extract 0 k).size = k := by rw [← ba_len, ext_list, List.length_take, ba_len]; omega
  have z2 : (s.extract 0 k').size = k' := by rw [← ba_len, ext_list, List.length_take, ba_len]; omega
  have e2 : (s.extract 0 k).data.toList.length = (s.extract 0 k').data.toList.length := by rw [n1.eq, n2.eq, h1]
  rw [ba_len, ba_len, z1, z2] at e2
  exact e2
theorem szN_yes {s : ByteArray} {k : Nat} (hk : k ≤ s.size) (h : mayB (s.extract 0 k) = true) : szN s = k := by
  have hn := may_name h
  have z1 : (s.extract 0 k).size = k := by rw [← ba_len, ext_list, List.length_take, ba_len]; omega
  have hsz := hn.size
  have hpos := wire_len_pos (labs (s.extract 0 k))
  rw [← hn.eq, ba_len] at hpos
  unfold szN
  cases hf : (List.range 255).find? (fun k => decide (k + 1 ≤ s.size) && mayB (s.extract 0 (k + 1))) with
  | none =>
    rw [List.find?_eq_none] at hf
    have := hf (k - 1) (by simp; omega)
    rw [show k - 1 + 1 = k by omega, h] at this
    simp at this
    omega
  | some j =>
    have h1 := List.find?_some hf
    rw [Bool.and_eq_true, decide_eq_true_iff] at h1
    exact name_begin h1.1 hk h1.2 h
theorem szN_pos {s : ByteArray} (h : 0 < szN s) : szN s ≤ s.size ∧ szN s ≤ 255 ∧ mayB (s.extract 0 (szN s)) = true := by
  unfold szN at *
  cases hf : (List.range 255).find? (fun k => decide (k + 1 ≤ s.size) && mayB (s.extract 0 (k + 1))) with
  | none => rw [hf] at h; simp at h
  | some j =>
    have h1 := List.find?_some hf
    have h2 := List.mem_of_find?_eq_some hf
    rw [Bool.and_eq_true, decide_eq_true_iff] at h1
    have h3 := List.mem_range.1 h2
    exact ⟨h1.1, by simp only; omega, h1.2⟩

/-- Strings, each behind a byte that has its length; one at least. -/
def txtB (l : List UInt8) : Bool := match l with
  | [] => false
  | c :: r => if c.toNat ≤ r.length then (if c.toNat = r.length then true else txtB (r.drop c.toNat)) else false
termination_by l.length
decreasing_by simp only [List.length_drop, List.length_cons]; omega

/-- Two names and twenty bytes. -/
def soaB (d : ByteArray) : Bool := decide (0 < szN d ∧ 0 < szN (d.extract (szN d) d.size) ∧ d.size = szN d + szN (d.extract (szN d) d.size) + 20)
def isN (k : Nat) : Bool := decide (k = 2 ∨ k = 5 ∨ k = 12)
/-- Are these data of that type? -/
def mayD (k : Nat) (d : ByteArray) : Bool :=
  decide (d.size ≤ 65535) && (if k = 1 then decide (d.size = 4) else if k = 28 then decide (d.size = 16) else if isN k = true then mayB d
    else if k = 15 then decide (2 < d.size) && mayB (d.extract 2 d.size) else if k = 6 then soaB d else if k = 16 then txtB d.data.toList else true)

/-- What Put makes of a pack, of data that may be. -/
def putD (S : List UInt8) (L : Kn) (k : Nat) (d : ByteArray) : List UInt8 × Kn :=
  if isN k = true then put S L (labs d)
  else if k = 15 then put (S ++ d.data.toList.take 2) L (labs (d.extract 2 d.size))
  else if k = 6 then
    let a := szN d
    let b := szN (d.extract a d.size)
    let one := put S L (labs (d.extract 0 a))
    let two := put one.1 one.2 (labs ((d.extract a d.size).extract 0 b))
    (two.1 ++ d.data.toList.drop (a + b), two.2)
  else (S ++ d.data.toList, L)
/-- The name at an offset, folded, and the offset behind. -/
def nm1 (s : ByteArray) (p : Nat) : Option (List UInt8 × Nat) := ((tkB s p p).filter fun r => decide (r.1.length ≤ 255)).map fun r => (r.1.map low, r.2)
/-- What Take tells of bytes that there are. -/
def takeD (s : ByteArray) (p m k : Nat) : Option (List UInt8) :=
  if isN k = true then (nm1 s p).bind fun r => if r.2 = p + m then some r.1 else none
  else if k = 15 then (if m < 3 then none else (nm1 s (p + 2)).bind fun r => if r.2 = p + m then some ((s.data.toList.drop p).take 2 ++ r.1) else none)
  else if k = 6 then (nm1 s p).bind fun r => if r.2 ≤ p + m then (nm1 s r.2).bind fun q => if q.2 ≤ p + m ∧ p + m - q.2 = 20 then some (r.1 ++ q.1 ++ (s.data.toList.drop q.2).take 20) else none else none
  else (if mayD k ⟨((s.data.toList.drop p).take m).toArray⟩ = true then some ((s.data.toList.drop p).take m) else none)

theorem nm1_name {s n : ByteArray} {p e : Nat} (hm : mayB n = true) (h : tkB s p p = some (wire (labs n), e)) : nm1 s p = some (n.data.toList, e) := by
  have hn := may_name hm
  have hl : (wire (labs n)).length ≤ 255 := by rw [← hn.eq, ba_len]; exact hn.size
  unfold nm1
  rw [h]
  simp only [Option.filter, hl, decide_true, if_true, Option.map_some]
  rw [map_low_wire _ hn.ok, map_map_low hn.low, hn.eq]
/-- What is put is known, and can be read. -/
theorem putD_good {S : List UInt8} {L : Kn} (hG : Good S L) {k : Nat} {d : ByteArray} (hm : mayD k d = true) : (∃ X, (putD S L k d).1 = S ++ X ∧ X.length ≤ d.size) ∧ Good (putD S L k d).1 (putD S L k d).2 := by
  unfold mayD at hm
  unfold putD
  rw [Bool.and_eq_true] at hm
  have hm := hm.2
  by_cases hN : isN k = true
  · have h1 : k ≠ 1 := by unfold isN at hN; simp at hN; omega
    have h28 : k ≠ 28 := by unfold isN at hN; simp at hN; omega
    rw [if_neg h1, if_neg h28, if_pos hN] at hm
    simp only [if_pos hN]
    have hn := may_name hm
    obtain ⟨W, g1, _, g3, g4, _⟩ := put_good hG (labs d) hn.ok
    rw [← hn.eq, ba_len] at g3
    exact ⟨⟨W, g1, g3⟩, by rw [g1]; exact g4⟩
  · simp only [if_neg hN] at hm ⊢
    by_cases h15 : k = 15
    · subst h15
      simp only [if_true] at hm ⊢
      rw [if_neg (by decide), if_neg (by decide), Bool.and_eq_true, decide_eq_true_iff] at hm
      have hn := may_name hm.2
      obtain ⟨W, g1, _, g3, g4, _⟩ := put_good (hG.more (d.data.toList.take 2)) (labs (d.extract 2 d.size)) hn.ok
      rw [← hn.eq, ba_len, ByteArray.size_extract] at g3
      refine ⟨⟨d.data.toList.take 2 ++ W, by rw [g1, List.append_assoc], ?_⟩, by rw [g1]; exact g4⟩
      rw [List.length_append, List.length_take, ba_len]
      omega
    · simp only [if_neg h15] at hm ⊢
      by_cases h6 : k = 6
      · subst h6
        simp only [if_true] at hm ⊢
        rw [if_neg (by decide), if_neg (by decide)] at hm
        unfold soaB at hm
        rw [decide_eq_true_iff] at hm
        obtain ⟨ha, hb, hs⟩ := hm
        obtain ⟨a1, a2, a3⟩ := szN_pos ha
        obtain ⟨b1, b2, b3⟩ := szN_pos hb
        generalize szN (d.extract (szN d) d.size) = b at *
        generalize szN d = a at *
        have n1 := may_name a3
        have n2 := may_name b3
        have z1 : (d.extract 0 a).size = a := by rw [ByteArray.size_extract]; omega
        have z2 : ((d.extract a d.size).extract 0 b).size = b := by rw [ByteArray.size_extract]; rw [ByteArray.size_extract] at b1 ⊢; omega
        obtain ⟨W, g1, _, g3, g4, _⟩ := put_good hG (labs (d.extract 0 a)) n1.ok
        rw [← n1.eq, ba_len, z1] at g3
        rw [← g1] at g4
        obtain ⟨V, f1, _, f3, f4, _⟩ := put_good g4 (labs ((d.extract a d.size).extract 0 b)) n2.ok
        rw [← n2.eq, ba_len, z2] at f3
        refine ⟨⟨W ++ V ++ d.data.toList.drop (a + b), ?_, ?_⟩, ?_⟩
        · rw [f1, g1]; simp
        · rw [List.length_append, List.length_append, List.length_drop, ba_len]; omega
        · rw [f1]; exact f4.more _
      · simp only [if_neg h6]
        exact ⟨⟨d.data.toList, rfl, by rw [ba_len]; exact Nat.le_refl _⟩, hG.more _⟩
/-- P4.4: what was put is taken. -/
theorem takeD_put {S : List UInt8} {L : Kn} (hG : Good S L) {k : Nat} {d s : ByteArray} (hm : mayD k d = true) (Y : List UInt8) (hs : s.data.toList = (putD S L k d).1 ++ Y) :
    takeD s S.length ((putD S L k d).1.length - S.length) k = some d.data.toList := by
  have hm0 := hm
  unfold mayD at hm
  rw [Bool.and_eq_true] at hm
  have hm := hm.2
  unfold takeD
  by_cases hN : isN k = true
  · have h1 : k ≠ 1 := by unfold isN at hN; simp at hN; omega
    have h28 : k ≠ 28 := by unfold isN at hN; simp at hN; omega
    rw [if_neg h1, if_neg h28, if_pos hN] at hm
    have e : putD S L k d = put S L (labs d) := by unfold putD; rw [if_pos hN]
    rw [e] at hs ⊢
    have hn := may_name hm
    obtain ⟨W, g1, _, _, _, g5⟩ := put_good hG (labs d) hn.ok
    rw [g1] at hs ⊢
    rw [if_pos hN, nm1_name hm (g5 s Y hs)]
    have : (S ++ W).length = S.length + ((S ++ W).length - S.length) := by rw [List.length_append]; omega
    simp only [Option.bind_some]
    rw [if_pos this]
  · simp only [if_neg hN] at hm ⊢
    by_cases h15 : k = 15
    · subst h15
      simp only [if_true] at hm ⊢
      rw [if_neg (by decide), if_neg (by decide), Bool.and_eq_true, decide_eq_true_iff] at hm
      have e : putD S L 15 d = put (S ++ d.data.toList.take 2) L (labs (d.extract 2 d.size)) := by unfold putD; rw [if_neg hN, if_pos rfl]
      rw [e] at hs ⊢
      have hn := may_name hm.2
      obtain ⟨W, g1, g2, _, _, g5⟩ := put_good (hG.more (d.data.toList.take 2)) (labs (d.extract 2 d.size)) hn.ok
      rw [g1] at hs ⊢
      have hl2 : (d.data.toList.take 2).length = 2 := by rw [List.length_take, ba_len]; omega
      have hp2 : (S ++ d.data.toList.take 2).length = S.length + 2 := by rw [List.length_append, hl2]
      have ht := g5 s Y hs
      rw [hp2] at ht
      rw [nm1_name hm.2 ht]
      have hlen : (S ++ d.data.toList.take 2 ++ W).length = S.length + 2 + W.length := by rw [List.length_append, hp2]
      rw [if_neg (by rw [hlen]; omega)]
      simp only [Option.bind_some]
      rw [if_pos (by rw [hlen]; omega)]
      have hd : (s.data.toList.drop S.length).take 2 = d.data.toList.take 2 := by
        rw [hs, List.append_assoc, List.append_assoc, List.drop_left' rfl, List.take_left' hl2]
      rw [hd, extract_list, ← ba_len, List.take_length, List.take_append_drop]
    · simp only [if_neg h15] at hm ⊢
      by_cases h6 : k = 6
      · subst h6
        simp only [if_true] at hm ⊢
        rw [if_neg (by decide), if_neg (by decide)] at hm
        unfold soaB at hm
        rw [decide_eq_true_iff] at hm
        obtain ⟨ha, hb, hsz⟩ := hm
        obtain ⟨a1, a2, a3⟩ := szN_pos ha
        obtain ⟨b1, b2, b3⟩ := szN_pos hb
        have e : putD S L 6 d = ((put (put S L (labs (d.extract 0 (szN d)))).1 (put S L (labs (d.extract 0 (szN d)))).2 (labs ((d.extract (szN d) d.size).extract 0 (szN (d.extract (szN d) d.size))))).1 ++ d.data.toList.drop (szN d + szN (d.extract (szN d) d.size)), (put (put S L (labs (d.extract 0 (szN d)))).1 (put S L (labs (d.extract 0 (szN d)))).2 (labs ((d.extract (szN d) d.size).extract 0 (szN (d.extract (szN d) d.size))))).2) := by
          unfold putD; rw [if_neg hN, if_neg (by decide), if_pos rfl]
        rw [e] at hs ⊢
        simp only at hs ⊢
        generalize szN (d.extract (szN d) d.size) = b at *
        generalize szN d = a at *
        have n1 := may_name a3
        have n2 := may_name b3
        obtain ⟨W, g1, g2, _, g4, g5⟩ := put_good hG (labs (d.extract 0 a)) n1.ok
        rw [← g1] at g4
        obtain ⟨V, f1, f2, _, _, f5⟩ := put_good g4 (labs ((d.extract a d.size).extract 0 b)) n2.ok
        have hT : (d.data.toList.drop (a + b)).length = 20 := by rw [List.length_drop, ba_len]; omega
        have t1 := g5 s (V ++ d.data.toList.drop (a + b) ++ Y) (by rw [hs, f1, g1]; simp)
        have t2 := f5 s (d.data.toList.drop (a + b) ++ Y) (by rw [hs, f1]; simp)
        rw [← g1] at t1
        rw [← f1] at t2
        rw [nm1_name a3 t1]
        simp only [Option.bind_some]
        have l1 : (put S L (labs (d.extract 0 a))).1.length = S.length + W.length := by rw [g1, List.length_append]
        have l2 : (put (put S L (labs (d.extract 0 a))).1 (put S L (labs (d.extract 0 a))).2 (labs ((d.extract a d.size).extract 0 b))).1.length = S.length + W.length + V.length := by rw [f1, List.length_append, l1]
        rw [List.length_append, hT, l2]
        rw [if_pos (by rw [l1]; omega), nm1_name b3 t2]
        simp only [Option.bind_some]
        rw [if_pos (by rw [l2]; omega)]
        have hd : (s.data.toList.drop (put (put S L (labs (d.extract 0 a))).1 (put S L (labs (d.extract 0 a))).2 (labs ((d.extract a d.size).extract 0 b))).1.length).take 20 = d.data.toList.drop (a + b) := by
          rw [hs, List.append_assoc, List.drop_left' rfl, List.take_left' hT]
        rw [hd, ext_list, ext_list, extract_list, ← ba_len d, List.take_length]
        congr 1
        rw [← List.drop_drop, List.append_assoc, List.take_append_drop, List.take_append_drop]
      · simp only [if_neg h6]
        have e : putD S L k d = (S ++ d.data.toList, L) := by unfold putD; rw [if_neg hN, if_neg h15, if_neg h6]
        rw [e] at hs ⊢
        have hd : (s.data.toList.drop S.length).take ((S ++ d.data.toList).length - S.length) = d.data.toList := by
          rw [hs, List.append_assoc, List.drop_left' rfl, List.length_append, Nat.add_sub_cancel_left, List.take_left' rfl]
        rw [hd]
        have hb : (⟨d.data.toList.toArray⟩ : ByteArray) = d := by apply ba_ext; rfl
        rw [hb, if_pos hm0]
end Go.Proofs.YtnakljbginbenaaGreatDoor

/- Plain mathematics of resource record data: what is taken may be, and has just its bytes. -/
namespace Go.Proofs.YtnakljbginbenaaGreatDoor
open Go

theorem nm1_is {s : ByteArray} {p : Nat} {r : List UInt8 × Nat} (h : nm1 s p = some r) : mayB ⟨r.1.toArray⟩ = true ∧ p < r.2 ∧ r.2 ≤ s.size ∧ r.1.length ≤ 255 ∧ 1 ≤ r.1.length := by
  unfold nm1 at h
  rw [Option.map_eq_some_iff] at h
  obtain ⟨q, hq, rfl⟩ := h
  rw [Option.filter_eq_some_iff] at hq
  obtain ⟨hq, hl⟩ := hq
  rw [decide_eq_true_iff] at hl
  obtain ⟨ls, g1, g2, g3, g4⟩ := tkB_name _ _ q hq
  refine ⟨(NameIs.may (ls := ls.map (·.map low)) ⟨?_, ?_, ?_, ?_⟩).1, g3, g4, by simpa using hl, ?_⟩
  · intro l hl
    obtain ⟨x, hx, rfl⟩ := List.mem_map.1 hl
    exact okLb_low (g1 x hx)
  · intro l hl
    obtain ⟨x, hx, rfl⟩ := List.mem_map.1 hl
    rw [List.map_map]
    congr 1
    funext c
    exact low_low c
  · show (q.1.map low) = _
    rw [g2, map_low_wire ls g1]
  · show (q.1.map low).length ≤ 255
    rw [List.length_map]; exact hl
  · show 1 ≤ (q.1.map low).length
    rw [List.length_map, g2]
    exact wire_len_pos ls
theorem mk_size (l : List UInt8) : (⟨l.toArray⟩ : ByteArray).size = l.length := by simp [ByteArray.size]
theorem mk_ext (l : List UInt8) (a b : Nat) : (⟨l.toArray⟩ : ByteArray).extract a b = ⟨((l.take b).drop a).toArray⟩ := by
  apply ba_ext
  rw [extract_list]
/-- What is taken may be. -/
theorem takeD_may {s : ByteArray} {p m k : Nat} (hp : p + m ≤ s.size) {d : List UInt8} (h : takeD s p m k = some d) : mayD k ⟨d.toArray⟩ = true := by
  unfold takeD at h
  by_cases hN : isN k = true
  · rw [if_pos hN, Option.bind_eq_some_iff] at h
    obtain ⟨r, hr, h2⟩ := h
    obtain ⟨a, b, c, e, _⟩ := nm1_is hr
    split at h2
    · cases h2
      have h1 : k ≠ 1 := by unfold isN at hN; simp at hN; omega
      have h28 : k ≠ 28 := by unfold isN at hN; simp at hN; omega
      unfold mayD
      rw [if_neg h1, if_neg h28, if_pos hN, a, mk_size]
      simp
      omega
    · cases h2
  · rw [if_neg hN] at h
    by_cases h15 : k = 15
    · subst h15
      rw [if_pos rfl] at h
      split at h
      · cases h
      · rename_i hm3
        rw [Option.bind_eq_some_iff] at h
        obtain ⟨r, hr, h2⟩ := h
        obtain ⟨a, b, c, e, f⟩ := nm1_is hr
        split at h2
        · cases h2
          have hl : ((s.data.toList.drop p).take 2).length = 2 := by rw [List.length_take, List.length_drop, ba_len]; omega
          unfold mayD
          rw [if_neg (by decide), if_neg (by decide), if_neg hN, if_pos rfl, mk_size, mk_ext, List.length_append, hl]
          have hd : ((((s.data.toList.drop p).take 2 ++ r.1).take (2 + r.1.length)).drop 2) = r.1 := by
            rw [List.take_of_length_le (by rw [List.length_append, hl]; exact Nat.le_refl _), List.drop_left' hl]
          rw [hd, a]
          simp
          omega
        · cases h2
    · rw [if_neg h15] at h
      by_cases h6 : k = 6
      · subst h6
        rw [if_pos rfl, Option.bind_eq_some_iff] at h
        obtain ⟨r, hr, h2⟩ := h
        obtain ⟨a1, a2, a3, a4, a5⟩ := nm1_is hr
        split at h2
        · rw [Option.bind_eq_some_iff] at h2
          obtain ⟨q, hq, h3⟩ := h2
          obtain ⟨b1, b2, b3, b4, b5⟩ := nm1_is hq
          split at h3
          · rename_i hc
            cases h3
            have hl : ((s.data.toList.drop q.2).take 20).length = 20 := by rw [List.length_take, List.length_drop, ba_len]; omega
            generalize (s.data.toList.drop q.2).take 20 = t at *
            have z1 : szN ⟨(r.1 ++ q.1 ++ t).toArray⟩ = r.1.length := by
              refine szN_yes (by rw [mk_size]; simp) ?_
              rw [mk_ext, List.drop_zero, List.append_assoc, List.take_left' rfl]
              exact a1
            have hx : (⟨(r.1 ++ q.1 ++ t).toArray⟩ : ByteArray).extract r.1.length (r.1 ++ q.1 ++ t).length = ⟨(q.1 ++ t).toArray⟩ := by
              rw [mk_ext, List.take_length, List.append_assoc, List.drop_left' rfl]
            have z2 : szN ⟨(q.1 ++ t).toArray⟩ = q.1.length := by
              refine szN_yes (by rw [mk_size]; simp) ?_
              rw [mk_ext, List.drop_zero, List.take_left' rfl]
              exact b1
            unfold mayD
            rw [if_neg (by decide), if_neg (by decide), if_neg hN, if_neg (by decide), if_pos rfl]
            unfold soaB
            rw [mk_size, z1, hx, z2]
            simp
            omega
          · cases h3
        · cases h2
      · rw [if_neg h6] at h
        split at h
        · cases h; assumption
        · cases h
/-- Types of which each has its own number of bytes. -/
def fixedD (k : Nat) : Bool := decide (k = 1 ∨ k = 28 ∨ k = 15 ∨ k = 6) || isN k
/-- With another number of bytes it can't be taken. -/
theorem takeD_exact {s : ByteArray} {p m m' k : Nat} (hk : fixedD k = true) (hp : p + m ≤ s.size) (hp' : p + m' ≤ s.size) {d : List UInt8} (h : takeD s p m k = some d) (hne : m' ≠ m) : takeD s p m' k = none := by
  cases h' : takeD s p m' k with
  | none => rfl
  | some d' =>
    exfalso
    apply hne
    unfold takeD at h h'
    by_cases hN : isN k = true
    · rw [if_pos hN, Option.bind_eq_some_iff] at h h'
      obtain ⟨r, hr, h2⟩ := h
      obtain ⟨r', hr', h2'⟩ := h'
      rw [hr] at hr'
      cases hr'
      split at h2
      · split at h2'
        · omega
        · cases h2'
      · cases h2
    · rw [if_neg hN] at h h'
      by_cases h15 : k = 15
      · subst h15
        rw [if_pos rfl] at h h'
        split at h
        · cases h
        · split at h'
          · cases h'
          · rw [Option.bind_eq_some_iff] at h h'
            obtain ⟨r, hr, h2⟩ := h
            obtain ⟨r', hr', h2'⟩ := h'
            rw [hr] at hr'
            cases hr'
            split at h2
            · split at h2'
              · omega
              · cases h2'
            · cases h2
      · rw [if_neg h15] at h h'
        by_cases h6 : k = 6
        · subst h6
          rw [if_pos rfl, Option.bind_eq_some_iff] at h h'
          obtain ⟨r, hr, h2⟩ := h
          obtain ⟨r', hr', h2'⟩ := h'
          rw [hr] at hr'
          cases hr'
          split at h2
          · split at h2'
            · rw [Option.bind_eq_some_iff] at h2 h2'
              obtain ⟨q, hq, h3⟩ := h2
              obtain ⟨q', hq', h3'⟩ := h2'
              rw [hq] at hq'
              cases hq'
              split at h3
              · split at h3'
                · omega
                · cases h3'
              · cases h3
            · cases h2'
          · cases h2
        · rw [if_neg h6] at h h'
          have hk2 : k = 1 ∨ k = 28 := by
            unfold fixedD at hk
            rw [Bool.or_eq_true] at hk
            rcases hk with hk | hk
            · rw [decide_eq_true_iff] at hk; omega
            · exact absurd hk hN
          have hl : ((s.data.toList.drop p).take m).length = m := by rw [List.length_take, List.length_drop, ba_len]; omega
          have hl' : ((s.data.toList.drop p).take m').length = m' := by rw [List.length_take, List.length_drop, ba_len]; omega
          split at h
          · rename_i g
            split at h'
            · rename_i g'
              unfold mayD at g g'
              rw [Bool.and_eq_true] at g g'
              have g := g.2
              have g' := g'.2
              rcases hk2 with rfl | rfl
              · rw [if_pos rfl, decide_eq_true_iff, mk_size, hl] at g
                rw [if_pos rfl, decide_eq_true_iff, mk_size, hl'] at g'
                omega
              · rw [if_neg (by decide), if_pos rfl, decide_eq_true_iff, mk_size, hl] at g
                rw [if_neg (by decide), if_pos rfl, decide_eq_true_iff, mk_size, hl'] at g'
                omega
            · cases h'
          · cases h
/-- The name in data. -/
def tgtD (k : Nat) (d : ByteArray) : Option ByteArray := if mayD k d = true then (if isN k = true then some d else if k = 15 then some (d.extract 2 d.size) else none) else none
theorem tgtD_name {k : Nat} {d n : ByteArray} (h : tgtD k d = some n) : mayB n = true ∧ n.size ≤ d.size := by
  unfold tgtD at h
  split at h
  · rename_i hm
    unfold mayD at hm
    rw [Bool.and_eq_true] at hm
    have hm := hm.2
    split at h
    · rename_i hN
      cases h
      have h1 : k ≠ 1 := by unfold isN at hN; simp at hN; omega
      have h28 : k ≠ 28 := by unfold isN at hN; simp at hN; omega
      rw [if_neg h1, if_neg h28, if_pos hN] at hm
      exact ⟨hm, Nat.le_refl _⟩
    · rename_i hN
      split at h
      · rename_i h15
        subst h15
        cases h
        rw [if_neg (by decide), if_neg (by decide), if_neg hN, if_pos rfl, Bool.and_eq_true] at hm
        exact ⟨hm.2, by rw [ByteArray.size_extract]; omega⟩
      · cases h
  · cases h
end Go.Proofs.YtnakljbginbenaaGreatDoor

/- Plain mathematics of records: a name that is put depends on a pack's length alone; what is taken of a begin of a string is taken of the whole; numbers in two and four bytes. -/
namespace Go.Proofs.YtnakljbginbenaaGreatDoor
open Go

/-- What a name adds, and what is known then, depend on how long a pack is, not on its bytes. -/
theorem put_same : ∀ (ls : List (List UInt8)) (S S' : List UInt8) (L : Kn), S.length = S'.length → ∃ W L', put S L ls = (S ++ W, L') ∧ put S' L ls = (S' ++ W, L')
  | [], S, S', L, h => ⟨[0], L, put_nil S L, put_nil S' L⟩
  | l :: ls, S, S', L, h => by
    cases hf : fnd L (wire (l :: ls)) with
    | some a => exact ⟨ptr a, L, put_hit hf, put_hit hf⟩
    | none =>
      have hl : lrn S L (wire (l :: ls)) = lrn S' L (wire (l :: ls)) := by unfold lrn; rw [h]
      obtain ⟨W, L', h1, h2⟩ := put_same ls (S ++ enc1 l) (S' ++ enc1 l) (lrn S L (wire (l :: ls))) (by rw [List.length_append, List.length_append, h])
      refine ⟨enc1 l ++ W, L', ?_, ?_⟩
      · rw [put_miss hf, h1, List.append_assoc]
      · rw [put_miss hf, ← hl, h2, List.append_assoc]
theorem putD_same {S S' : List UInt8} (L : Kn) (k : Nat) (d : ByteArray) (h : S.length = S'.length) : ∃ W L', putD S L k d = (S ++ W, L') ∧ putD S' L k d = (S' ++ W, L') := by
  unfold putD
  by_cases hN : isN k = true
  · simp only [if_pos hN]
    exact put_same _ _ _ _ h
  · simp only [if_neg hN]
    by_cases h15 : k = 15
    · simp only [if_pos h15]
      obtain ⟨W, L', h1, h2⟩ := put_same (labs (d.extract 2 d.size)) (S ++ d.data.toList.take 2) (S' ++ d.data.toList.take 2) L (by rw [List.length_append, List.length_append, h])
      exact ⟨d.data.toList.take 2 ++ W, L', by rw [h1, List.append_assoc], by rw [h2, List.append_assoc]⟩
    · simp only [if_neg h15]
      by_cases h6 : k = 6
      · simp only [if_pos h6]
        obtain ⟨W, L', h1, h2⟩ := put_same (labs (d.extract 0 (szN d))) S S' L h
        rw [h1, h2]
        obtain ⟨V, L'', h3, h4⟩ := put_same (labs ((d.extract (szN d) d.size).extract 0 (szN (d.extract (szN d) d.size)))) (S ++ W) (S' ++ W) L' (by rw [List.length_append, List.length_append, h])
        simp only
        rw [h3, h4]
        exact ⟨W ++ (V ++ d.data.toList.drop (szN d + szN (d.extract (szN d) d.size))), L'', by simp, by simp⟩
      · simp only [if_neg h6]
        exact ⟨d.data.toList, L, rfl, rfl⟩

section
variable {s s' : ByteArray} {X : List UInt8}
theorem pre_size (h : s.data.toList = s'.data.toList ++ X) : s'.size ≤ s.size := by rw [← ba_len, ← ba_len, h, List.length_append]; omega
theorem pre_lsz (h : s.data.toList = s'.data.toList ++ X) {p : Nat} (hp : p < s'.size) : lsz s p = lsz s' p := by
  have h1 := lsz_drop hp
  have h2 : s.data.toList.drop p = UInt8.ofNat (lsz s' p) :: (s'.data.toList.drop (p + 1) ++ X) := by
    rw [h, List.drop_append_of_le_length (by rw [ba_len]; omega), h1]
    rfl
  obtain ⟨_, h3, _⟩ := lsz_at h2
  rw [h3, UInt8.toNat_ofNat', Nat.mod_eq_of_lt]
  have : lsz s' p < 256 := by rw [lsz_eq hp]; exact s'[p].toNat_lt
  omega
theorem pre_nxt (h : s.data.toList = s'.data.toList ++ X) {p : Nat} (hp : p < s'.size) : nxt s p = nxt s' p := by unfold nxt; rw [pre_lsz h hp]
theorem pre_isL (h : s.data.toList = s'.data.toList ++ X) {p : Nat} (hl : isL s' p = true) : isL s p = true := by
  have h1 := isL_iff.1 hl
  have := pre_size h
  exact isL_iff.2 ⟨by omega, by rw [pre_lsz h h1.1]; exact h1.2.1, by rw [pre_lsz h h1.1]; exact h1.2.2.1, by rw [pre_nxt h h1.1]; omega⟩
theorem pre_end (h : s.data.toList = s'.data.toList ++ X) : ∀ (m p : Nat), s'.size - p ≤ m → runOk s' p = true → endFrom s p = endFrom s' p := by
  intro m
  induction m with
  | zero =>
    intro p hm hr
    have h1 := runOk_iff.1 hr
    have h2 := endFrom_ge' s' p
    omega
  | succ m ih =>
    intro p hm hr
    by_cases hl : isL s' p = true
    · have h1 := isL_iff.1 hl
      have e := endFrom_cons hl
      rw [endFrom_cons (pre_isL h hl), e, pre_nxt h h1.1]
      refine ih (nxt s' p) (by unfold nxt; omega) ?_
      unfold runOk at hr ⊢
      rw [e] at hr
      exact hr
    · have e := endFrom_nil hl
      have h1 := runOk_iff.1 hr
      rw [e] at h1
      rw [e]
      refine endFrom_nil (fun hl2 => ?_)
      have h2 := isL_iff.1 hl2
      rw [pre_lsz h h1.1] at h2
      omega
theorem pre_run (h : s.data.toList = s'.data.toList ++ X) {p : Nat} (hr : runOk s' p = true) : endFrom s p = endFrom s' p ∧ runOk s p = true := by
  have e := pre_end h _ p (Nat.le_refl _) hr
  have h1 := runOk_iff.1 hr
  have := pre_size h
  exact ⟨e, runOk_iff.2 (by rw [e, pre_lsz h h1.1]; exact ⟨by omega, h1.2⟩)⟩
theorem pre_piece (h : s.data.toList = s'.data.toList ++ X) {p e : Nat} (he : e ≤ s'.size) : piece s p e = piece s' p e := by
  rw [piece_eq, piece_eq, h, List.take_append_of_le_length (by rw [ba_len]; exact he)]
/-- A name of a begin of a string is that of the whole. -/
theorem tkB_pre (h : s.data.toList = s'.data.toList ++ X) : ∀ (n b p : Nat) (r : List UInt8 × Nat), b ≤ n → tkB s' b p = some r → tkB s b p = some r := by
  intro n
  induction n with
  | zero =>
    intro b p r hb hr
    cases h1 : runOk s' p with
    | false => rw [tkB_bad h1] at hr; cases hr
    | true =>
      obtain ⟨e, hr2⟩ := pre_run h h1
      have hi := runOk_iff.1 h1
      by_cases h0 : lsz s' (endFrom s' p) = 0
      · rw [tkB_zero h1 h0] at hr
        rw [tkB_zero hr2 (by rw [e, pre_lsz h hi.1]; exact h0), e, pre_piece h (by omega)]
        exact hr
      · cases hp : ptB s' b (endFrom s' p) with
        | false => rw [tkB_no h1 h0 hp] at hr; cases hr
        | true => have := (ptB_iff.1 hp).2.2; omega
  | succ n ih =>
    intro b p r hb hr
    cases h1 : runOk s' p with
    | false => rw [tkB_bad h1] at hr; cases hr
    | true =>
      obtain ⟨e, hr2⟩ := pre_run h h1
      have hi := runOk_iff.1 h1
      by_cases h0 : lsz s' (endFrom s' p) = 0
      · rw [tkB_zero h1 h0] at hr
        rw [tkB_zero hr2 (by rw [e, pre_lsz h hi.1]; exact h0), e, pre_piece h (by omega)]
        exact hr
      · cases hp : ptB s' b (endFrom s' p) with
        | false => rw [tkB_no h1 h0 hp] at hr; cases hr
        | true =>
          have hq := ptB_iff.1 hp
          have hto : toOf s (endFrom s' p) = toOf s' (endFrom s' p) := by unfold toOf; rw [pre_lsz h hi.1, pre_lsz h hq.1]
          have := pre_size h
          have hp2 : ptB s b (endFrom s p) = true := ptB_iff.2 (by rw [e, hto, pre_lsz h hi.1]; exact ⟨by omega, hq.2.1, hq.2.2⟩)
          rw [tkB_ptr h1 h0 hp, Option.map_eq_some_iff] at hr
          obtain ⟨r', g1, g2⟩ := hr
          have g3 := ih _ _ r' (by omega) g1
          rw [tkB_ptr hr2 (by rw [e, pre_lsz h hi.1]; exact h0) hp2, e, hto, g3, pre_piece h (by omega)]
          simp only [Option.map_some]
          rw [g2]
theorem nm1_pre (h : s.data.toList = s'.data.toList ++ X) {p : Nat} {r : List UInt8 × Nat} (hr : nm1 s' p = some r) : nm1 s p = some r := by
  unfold nm1 at hr ⊢
  rw [Option.map_eq_some_iff] at hr
  obtain ⟨q, hq, g⟩ := hr
  rw [Option.filter_eq_some_iff] at hq
  have h2 := tkB_pre h p p p q (Nat.le_refl _) hq.1
  rw [h2]
  simp only [Option.filter, hq.2, if_true, Option.map_some, g]
end

/-- Numbers in two and in four bytes. -/
def b16 (n : Nat) : List UInt8 := [UInt8.ofNat (n / 256), UInt8.ofNat (n % 256)]
def b32 (n : Nat) : List UInt8 := b16 (n / 65536) ++ b16 (n % 65536)
def g16 (s : ByteArray) (p : Nat) : Nat := 256 * lsz s p + lsz s (p + 1)
def g32 (s : ByteArray) (p : Nat) : Nat := 65536 * g16 s p + g16 s (p + 2)
theorem b16_len (n : Nat) : (b16 n).length = 2 := rfl
theorem b32_len (n : Nat) : (b32 n).length = 4 := rfl
theorem g16_at {s : ByteArray} {p n : Nat} {R : List UInt8} (hn : n < 65536) (h : s.data.toList.drop p = b16 n ++ R) : g16 s p = n ∧ p + 2 ≤ s.size ∧ s.data.toList.drop (p + 2) = R := by
  obtain ⟨h1, h2, h3⟩ := lsz_at (s := s) (p := p) (c := UInt8.ofNat (n / 256)) (R := UInt8.ofNat (n % 256) :: R) h
  obtain ⟨h4, h5, h6⟩ := lsz_at h3
  rw [UInt8.toNat_ofNat'] at h2 h5
  refine ⟨?_, by omega, h6⟩
  unfold g16
  rw [h2, h5]
  omega
theorem g32_at {s : ByteArray} {p n : Nat} {R : List UInt8} (hn : n < 4294967296) (h : s.data.toList.drop p = b32 n ++ R) : g32 s p = n ∧ p + 4 ≤ s.size ∧ s.data.toList.drop (p + 4) = R := by
  unfold b32 at h
  rw [List.append_assoc] at h
  obtain ⟨h1, h2, h3⟩ := g16_at (by omega) h
  obtain ⟨h4, h5, h6⟩ := g16_at (by omega) h3
  refine ⟨?_, by omega, h6⟩
  unfold g32
  rw [h1, h4]
  omega
end Go.Proofs.YtnakljbginbenaaGreatDoor

/- Plain mathematics of questions and records: how they are put into a pack, how they are taken, that what was put is taken, that a part of it can't be taken. -/
namespace Go.Proofs.YtnakljbginbenaaGreatDoor
open Go

/-- A record, in its parts. -/
structure Rc where
  n : ByteArray
  k : Nat
  c : Nat
  t : Nat
  d : ByteArray
/-- Its numbers are such of sixteen and of thirty-two bits. -/
structure Rc.Ok (r : Rc) : Prop where
  k : r.k < 65536
  c : r.c < 65536
  t : r.t < 4294967296
def Rc.zero : Rc := ⟨⟨#[]⟩, 0, 0, 0, ⟨#[]⟩⟩
/-- Its question, as a record without more. -/
def Rc.ask (r : Rc) : Rc := ⟨r.n, r.k, r.c, 0, ⟨#[]⟩⟩
theorem Rc.zero_ok : Rc.zero.Ok := ⟨by decide, by decide, by decide⟩
def mayR (r : Rc) : Bool := mayB r.n && mayD r.k r.d
def putQ (S : List UInt8) (L : Kn) (r : Rc) : List UInt8 × Kn := ((put S L (labs r.n)).1 ++ (b16 r.k ++ b16 r.c), (put S L (labs r.n)).2)
def hdR (S : List UInt8) (L : Kn) (r : Rc) : List UInt8 := (putQ S L r).1 ++ b32 r.t
def dtR (S : List UInt8) (L : Kn) (r : Rc) : List UInt8 × Kn := putD (hdR S L r ++ [0, 0]) (putQ S L r).2 r.k r.d
def putR (S : List UInt8) (L : Kn) (r : Rc) : List UInt8 × Kn := (hdR S L r ++ (b16 ((dtR S L r).1.length - ((hdR S L r).length + 2)) ++ (dtR S L r).1.drop ((hdR S L r).length + 2)), (dtR S L r).2)

theorem putQ_good {S : List UInt8} {L : Kn} (hG : Good S L) {r : Rc} (hm : mayB r.n = true) : (∃ X, (putQ S L r).1 = S ++ X ∧ X.length ≤ 259) ∧ Good (putQ S L r).1 (putQ S L r).2 := by
  have hn := may_name hm
  obtain ⟨W, g1, _, g3, g4, _⟩ := put_good hG (labs r.n) hn.ok
  have hsz := hn.size
  rw [← hn.eq, ba_len] at g3
  unfold putQ
  refine ⟨⟨W ++ (b16 r.k ++ b16 r.c), by rw [g1, List.append_assoc], ?_⟩, ?_⟩
  · rw [List.length_append, List.length_append, b16_len, b16_len]; omega
  · simp only
    rw [g1]
    exact g4.more _
/-- What a record adds: its head, the number of the data's bytes, and the data, as they would have been put behind that number. -/
theorem putR_form {S : List UInt8} {L : Kn} (hG : Good S L) {r : Rc} (hm : mayR r = true) : ∃ W L', W.length ≤ r.d.size ∧ r.d.size ≤ 65535 ∧ dtR S L r = (hdR S L r ++ [0, 0] ++ W, L') ∧ putR S L r = (hdR S L r ++ b16 W.length ++ W, L') ∧ putD (hdR S L r ++ b16 W.length) (putQ S L r).2 r.k r.d = (hdR S L r ++ b16 W.length ++ W, L') ∧ Good (putR S L r).1 (putR S L r).2 := by
  unfold mayR at hm
  rw [Bool.and_eq_true] at hm
  obtain ⟨⟨X, q1, q2⟩, q3⟩ := putQ_good hG hm.1
  have hD : r.d.size ≤ 65535 := by have := hm.2; unfold mayD at this; rw [Bool.and_eq_true, decide_eq_true_iff] at this; exact this.1
  have hgH : Good (hdR S L r ++ [0, 0]) (putQ S L r).2 := by unfold hdR; exact (q3.more _).more _
  obtain ⟨⟨W, w1, w2⟩, _⟩ := putD_good hgH hm.2
  obtain ⟨V, L', v1, v2⟩ := putD_same (S := hdR S L r ++ [0, 0]) (S' := hdR S L r ++ b16 W.length) (putQ S L r).2 r.k r.d (by simp [b16_len])
  have hWV : W = V := by
    rw [v1] at w1
    exact (List.append_cancel_left w1).symm
  subst hWV
  have hd : dtR S L r = (hdR S L r ++ [0, 0] ++ W, L') := v1
  have hp : putR S L r = (hdR S L r ++ b16 W.length ++ W, L') := by
    unfold putR
    rw [hd]
    simp only
    have e1 : (hdR S L r ++ [0, 0] ++ W).length - ((hdR S L r).length + 2) = W.length := by simp; omega
    rw [e1, List.drop_left' (by simp), List.append_assoc]
  have hgR : Good (hdR S L r ++ b16 W.length) (putQ S L r).2 := by unfold hdR; exact (q3.more _).more _
  have g2 := (putD_good hgR hm.2).2
  rw [v2] at g2
  exact ⟨W, L', w2, hD, hd, hp, v2, by rw [hp]; exact g2⟩
theorem putR_good {S : List UInt8} {L : Kn} (hG : Good S L) {r : Rc} (hm : mayR r = true) : (∃ X, (putR S L r).1 = S ++ X ∧ X.length ≤ 265 + r.d.size) ∧ Good (putR S L r).1 (putR S L r).2 := by
  obtain ⟨W, L', w1, w2, w3, w4, w5, w6⟩ := putR_form hG hm
  unfold mayR at hm
  rw [Bool.and_eq_true] at hm
  obtain ⟨⟨X, q1, q2⟩, q3⟩ := putQ_good hG hm.1
  refine ⟨⟨X ++ b32 r.t ++ b16 W.length ++ W, ?_, ?_⟩, w6⟩
  · rw [w4]
    unfold hdR
    rw [q1]
    simp
  · simp only [List.length_append, b16_len, b32_len]
    omega

/-- The question at an offset, and the offset behind. -/
def tkQ (s : ByteArray) (p : Int) : Option (Rc × Nat) := if 0 ≤ p then (nm1 s p.toNat).bind fun r => if r.2 + 4 ≤ s.size then some (⟨⟨r.1.toArray⟩, g16 s r.2, g16 s (r.2 + 2), 0, ⟨#[]⟩⟩, r.2 + 4) else none else none
/-- The record at an offset, and the offset behind. -/
def tkR (s : ByteArray) (p : Int) : Option (Rc × Nat) := (tkQ s p).bind fun q => if q.2 + 6 + g16 s (q.2 + 4) ≤ s.size then (takeD s (q.2 + 6) (g16 s (q.2 + 4)) q.1.k).map fun d => (⟨q.1.n, q.1.k, q.1.c, g32 s q.2, ⟨d.toArray⟩⟩, q.2 + 6 + g16 s (q.2 + 4)) else none

theorem tkQ_put {S : List UInt8} {L : Kn} (hG : Good S L) {r : Rc} (hr : r.Ok) (hm : mayB r.n = true) {s : ByteArray} (Y : List UInt8) (hs : s.data.toList = (putQ S L r).1 ++ Y) : tkQ s S.length = some (r.ask, (putQ S L r).1.length) := by
  have hn := may_name hm
  obtain ⟨W, g1, _, g3, g4, g5⟩ := put_good hG (labs r.n) hn.ok
  unfold putQ at hs ⊢
  simp only at hs ⊢
  rw [g1] at hs ⊢
  have h1 := nm1_name hm (g5 s (b16 r.k ++ b16 r.c ++ Y) (by rw [hs]; simp))
  have hd : s.data.toList.drop (S ++ W).length = b16 r.k ++ (b16 r.c ++ Y) := by rw [hs, List.append_assoc, List.drop_left' rfl, List.append_assoc]
  obtain ⟨e1, e2, e3⟩ := g16_at hr.k hd
  obtain ⟨e4, e5, e6⟩ := g16_at hr.c e3
  unfold tkQ
  rw [if_pos (by omega), Int.toNat_natCast, h1]
  simp only [Option.bind_some]
  rw [if_pos (by omega), e1, e4]
  have hb : (⟨r.n.data.toList.toArray⟩ : ByteArray) = r.n := by apply ba_ext; rfl
  rw [hb]
  simp [Rc.ask, b16_len]
  omega
/-- P5.4: what was put is taken. -/
theorem tkR_put {S : List UInt8} {L : Kn} (hG : Good S L) {r : Rc} (hr : r.Ok) (hm : mayR r = true) {s : ByteArray} (Y : List UInt8) (hs : s.data.toList = (putR S L r).1 ++ Y) : tkR s S.length = some (r, (putR S L r).1.length) := by
  obtain ⟨W, L', w1, w2, w3, w4, w5, w6⟩ := putR_form hG hm
  have hm0 := hm
  unfold mayR at hm
  rw [Bool.and_eq_true] at hm
  obtain ⟨⟨X, q1, q2⟩, q3⟩ := putQ_good hG hm.1
  rw [w4] at hs ⊢
  simp only at hs ⊢
  have hQ := tkQ_put hG hr hm.1 (s := s) (b32 r.t ++ b16 W.length ++ W ++ Y) (by rw [hs]; unfold hdR; simp)
  have hd : s.data.toList.drop (putQ S L r).1.length = b32 r.t ++ (b16 W.length ++ (W ++ Y)) := by
    rw [hs]; unfold hdR; simp
  obtain ⟨e1, e2, e3⟩ := g32_at hr.t hd
  obtain ⟨e4, e5, e6⟩ := g16_at (by omega) e3
  have hlen : s.size = (putQ S L r).1.length + 6 + W.length + Y.length := by rw [← ba_len, hs]; unfold hdR; simp [b32_len, b16_len]; omega
  have hH : (hdR S L r ++ b16 W.length).length = (putQ S L r).1.length + 6 := by unfold hdR; simp [b32_len, b16_len]
  have hgR : Good (hdR S L r ++ b16 W.length) (putQ S L r).2 := by unfold hdR; exact (q3.more _).more _
  have ht := takeD_put hgR hm.2 (s := s) Y (by rw [w5]; exact hs)
  rw [w5] at ht
  have hl2 : (hdR S L r ++ b16 W.length ++ W, L').1.length - (hdR S L r ++ b16 W.length).length = W.length := by simp; omega
  rw [hl2, hH] at ht
  unfold tkR
  rw [hQ]
  simp only [Option.bind_some]
  rw [e4, if_pos (by omega)]
  have ek : r.ask.k = r.k := rfl
  rw [ek, ht, e1]
  simp only [Option.map_some]
  have hb : (⟨r.d.data.toList.toArray⟩ : ByteArray) = r.d := by apply ba_ext; rfl
  rw [hb, List.length_append, hH]
  rfl

theorem g16_lt (s : ByteArray) (p : Nat) (h : p + 2 ≤ s.size) : g16 s p < 65536 := by
  have h1 : lsz s p < 256 := by rw [lsz_eq (by omega)]; exact s[p].toNat_lt
  have h2 : lsz s (p + 1) < 256 := by rw [lsz_eq (by omega)]; exact s[p + 1].toNat_lt
  unfold g16
  omega
theorem g32_lt (s : ByteArray) (p : Nat) (h : p + 4 ≤ s.size) : g32 s p < 4294967296 := by
  have h1 := g16_lt s p (by omega)
  have h2 := g16_lt s (p + 2) (by omega)
  unfold g32
  omega
theorem tkQ_is {s : ByteArray} {p : Int} {r : Rc × Nat} (h : tkQ s p = some r) : r.1.Ok ∧ mayB r.1.n = true ∧ p + 4 < r.2 ∧ r.2 ≤ s.size ∧ r.1.n.size ≤ 255 ∧ r.1 = r.1.ask := by
  unfold tkQ at h
  split at h
  · rename_i h0
    rw [Option.bind_eq_some_iff] at h
    obtain ⟨q, hq, h2⟩ := h
    split at h2
    · rename_i h4
      cases h2
      obtain ⟨a1, a2, a3, a4, a5⟩ := nm1_is hq
      exact ⟨⟨g16_lt _ _ (by omega), g16_lt _ _ (by omega), by show 0 < 4294967296; omega⟩, a1, by simp only; omega, h4, by simp only; rw [mk_size]; exact a4, rfl⟩
    · cases h2
  · cases h
theorem tkR_is {s : ByteArray} {p : Int} {r : Rc × Nat} (h : tkR s p = some r) : r.1.Ok ∧ mayR r.1 = true ∧ p < r.2 ∧ r.2 ≤ s.size := by
  unfold tkR at h
  rw [Option.bind_eq_some_iff] at h
  obtain ⟨q, hq, h2⟩ := h
  obtain ⟨a1, a2, a3, a4, a5, _⟩ := tkQ_is hq
  split at h2
  · rename_i h6
    rw [Option.map_eq_some_iff] at h2
    obtain ⟨d, hd, rfl⟩ := h2
    have hm := takeD_may h6 hd
    exact ⟨⟨a1.k, a1.c, g32_lt _ _ (by omega)⟩, by unfold mayR; simp only; rw [a2, hm]; rfl, by simp only; omega, h6⟩
  · cases h2

section
variable {s s' : ByteArray} {X : List UInt8}
theorem pre_g16 (h : s.data.toList = s'.data.toList ++ X) {p : Nat} (hp : p + 2 ≤ s'.size) : g16 s p = g16 s' p := by unfold g16; rw [pre_lsz h (by omega), pre_lsz h (by omega)]
theorem pre_g32 (h : s.data.toList = s'.data.toList ++ X) {p : Nat} (hp : p + 4 ≤ s'.size) : g32 s p = g32 s' p := by unfold g32; rw [pre_g16 h (by omega), pre_g16 h (by omega)]
theorem pre_part (h : s.data.toList = s'.data.toList ++ X) {p m : Nat} (hp : p + m ≤ s'.size) : (s.data.toList.drop p).take m = (s'.data.toList.drop p).take m := by
  rw [h, List.drop_append_of_le_length (by rw [ba_len]; omega), List.take_append_of_le_length (by rw [List.length_drop, ba_len]; omega)]
theorem takeD_pre (h : s.data.toList = s'.data.toList ++ X) {p m k : Nat} (hp : p + m ≤ s'.size) {d : List UInt8} (hd : takeD s' p m k = some d) : takeD s p m k = some d := by
  unfold takeD at hd ⊢
  by_cases hN : isN k = true
  · rw [if_pos hN, Option.bind_eq_some_iff] at hd
    obtain ⟨r, hr, h2⟩ := hd
    rw [if_pos hN, nm1_pre h hr]
    exact h2
  · rw [if_neg hN] at hd ⊢
    by_cases h15 : k = 15
    · rw [if_pos h15] at hd ⊢
      by_cases h3 : m < 3
      · rw [if_pos h3] at hd; cases hd
      · rw [if_neg h3, Option.bind_eq_some_iff] at hd
        obtain ⟨r, hr, h2⟩ := hd
        rw [if_neg h3, nm1_pre h hr, pre_part h (by omega)]
        exact h2
    · rw [if_neg h15] at hd ⊢
      by_cases h6 : k = 6
      · rw [if_pos h6, Option.bind_eq_some_iff] at hd
        obtain ⟨r, hr, h2⟩ := hd
        rw [if_pos h6, nm1_pre h hr]
        simp only [Option.bind_some]
        by_cases hle : r.2 ≤ p + m
        · rw [if_pos hle, Option.bind_eq_some_iff] at h2
          obtain ⟨q, hq, h3⟩ := h2
          rw [if_pos hle, nm1_pre h hq]
          simp only [Option.bind_some]
          by_cases hc : q.2 ≤ p + m ∧ p + m - q.2 = 20
          · rw [if_pos hc] at h3 ⊢
            rw [pre_part h (by omega)]
            exact h3
          · rw [if_neg hc] at h3; cases h3
        · rw [if_neg hle] at h2; cases h2
      · rw [if_neg h6] at hd ⊢
        rw [pre_part h hp]
        exact hd
theorem tkQ_pre (h : s.data.toList = s'.data.toList ++ X) {p : Int} {r : Rc × Nat} (hr : tkQ s' p = some r) : tkQ s p = some r := by
  have hz := pre_size h
  unfold tkQ at hr ⊢
  split at hr
  · rename_i h0
    rw [Option.bind_eq_some_iff] at hr
    obtain ⟨q, hq, h2⟩ := hr
    split at h2
    · rename_i h4
      rw [if_pos h0, nm1_pre h hq]
      simp only [Option.bind_some]
      rw [if_pos (by omega), pre_g16 h (by omega), pre_g16 h (by omega)]
      exact h2
    · cases h2
  · cases hr
theorem tkR_pre (h : s.data.toList = s'.data.toList ++ X) {p : Int} {r : Rc × Nat} (hr : tkR s' p = some r) : tkR s p = some r := by
  have hz := pre_size h
  unfold tkR at hr ⊢
  rw [Option.bind_eq_some_iff] at hr
  obtain ⟨q, hq, h2⟩ := hr
  rw [tkQ_pre h hq]
  simp only [Option.bind_some]
  split at h2
  · rename_i h6
    rw [Option.map_eq_some_iff] at h2
    obtain ⟨d, hd, rfl⟩ := h2
    rw [pre_g16 h (by omega), pre_g32 h (by omega), if_pos (by omega), takeD_pre h h6 hd]
    rfl
  · cases h2
/-- P5.2: a record that is cut off can't be taken. -/
theorem tkR_cut (h : s.data.toList = s'.data.toList ++ X) {p : Int} {r : Rc × Nat} (hr : tkR s p = some r) (hc : s'.size < r.2) : tkR s' p = none := by
  cases hx : tkR s' p with
  | none => rfl
  | some q =>
    exfalso
    have h1 := tkR_pre h hx
    rw [hr] at h1
    cases h1
    have := (tkR_is hx).2.2.2
    omega
end
/-- Numbers, as octet puts them and reads them. -/
theorem u8_of {a b : Nat} (h : a % 256 = b % 256) : UInt8.ofNat a = UInt8.ofNat b := by
  apply UInt8.toNat_inj.1
  rw [UInt8.toNat_ofNat', UInt8.toNat_ofNat']
  exact h
theorem bstr16 {n : Nat} (h : n < 65536) : (Oc.bstr (n : Int) 2).data.toList = b16 n := by
  show Oc.bytesOf (n : Int) 2 = _
  unfold Oc.bytesOf Oc.byteAt b16
  simp only [List.range, List.range.loop, List.map_cons, List.map_nil, Nat.reduceMul, Nat.reduceSub, Int.reducePow, Int.pow_zero, Int.ediv_one, Nat.mul_zero]
  have e1 : ((n : Int) / 256).toNat = n / 256 := by omega
  have e2 : (n : Int).toNat = n := by omega
  rw [e1, e2, u8_of (show n % 256 = n % 256 % 256 by omega)]
theorem bstr32 {n : Nat} (h : n < 4294967296) : (Oc.bstr (n : Int) 4).data.toList = b32 n := by
  show Oc.bytesOf (n : Int) 4 = _
  unfold Oc.bytesOf Oc.byteAt b32 b16
  simp only [List.range, List.range.loop, List.map_cons, List.map_nil, Nat.reduceMul, Nat.reduceSub, Int.reducePow, Int.pow_zero, Int.ediv_one, Nat.mul_zero, List.cons_append, List.nil_append]
  have e1 : ((n : Int) / 16777216).toNat = n / 16777216 := by omega
  have e2 : ((n : Int) / 65536).toNat = n / 65536 := by omega
  have e3 : ((n : Int) / 256).toNat = n / 256 := by omega
  have e4 : (n : Int).toNat = n := by omega
  rw [e1, e2, e3, e4, u8_of (show n / 16777216 % 256 = n / 65536 / 256 % 256 by omega), u8_of (show n / 65536 % 256 = n / 65536 % 256 % 256 by omega), u8_of (show n / 256 % 256 = n % 65536 / 256 % 256 by omega), u8_of (show n % 256 = n % 65536 % 256 % 256 by omega)]
theorem un16 {s : ByteArray} {p : Nat} (h : p + 2 ≤ s.size) : Oc.un s p 2 = (g16 s p : Nat) := by
  unfold Oc.un
  have hok : Oc.okS s p 2 := ⟨by omega, by omega, by omega⟩
  rw [if_pos hok, Oc.bnum_at2 s p (by omega) (by omega)]
  unfold g16
  rw [lsz_eq (by omega), lsz_eq (by omega)]
  simp
theorem un32 {s : ByteArray} {p : Nat} (h : p + 4 ≤ s.size) : Oc.un s p 4 = (g32 s p : Nat) := by
  rw [Oc.un_four s p (by omega) (by omega), un16 (by omega), show ((p : Int) + 2) = ((p + 2 : Nat) : Int) by omega, un16 (by omega)]
  unfold g32
  omega
end Go.Proofs.YtnakljbginbenaaGreatDoor
