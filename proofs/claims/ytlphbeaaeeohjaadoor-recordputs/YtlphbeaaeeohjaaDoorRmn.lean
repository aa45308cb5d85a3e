/- Plain mathematics of record data: May, Put, Take and Target of the program are the document's. -/
import Derived.Test.YtlphbeaaeeohjaaDoorRmm
namespace Go.Proofs.YtlphbeaaeeohjaaDoor
open Go

theorem ba_mk (d : ByteArray) : (⟨d.data.toList.toArray⟩ : ByteArray) = d := by apply ba_ext; rfl
theorem cat_3 (a b c : ByteArray × Bool) : cat [a, b, c] = a.1.data.toList ++ (b.1.data.toList ++ c.1.data.toList) := by simp [cat]
theorem zp_nil : Zp.1.data.toList = [] := rfl
theorem cat_zz (a : ByteArray × Bool) : cat [a, Zp, Zp] = a.1.data.toList := by rw [cat_3, zp_nil]; simp
theorem takeD_oth {s : ByteArray} {p m k : Nat} (hN : isN k = false) (h15 : k ≠ 15) (h6 : k ≠ 6) : takeD s p m k = if mayD k ⟨((s.data.toList.drop p).take m).toArray⟩ = true then some ((s.data.toList.drop p).take m) else none := by
  unfold takeD
  rw [if_neg (by rw [hN]; decide), if_neg h15, if_neg h6]
theorem mayD_16 (d : ByteArray) : mayD 16 d = (decide (d.size ≤ 65535) && txtB d.data.toList) := by
  unfold mayD
  rw [if_neg (by decide), if_neg (by decide), if_neg (by decide), if_neg (by decide), if_neg (by decide), if_pos rfl]
theorem mayD_1 (d : ByteArray) : mayD 1 d = (decide (d.size ≤ 65535) && decide (d.size = 4)) := by
  unfold mayD
  rw [if_pos rfl]
theorem mayD_28 (d : ByteArray) : mayD 28 d = (decide (d.size ≤ 65535) && decide (d.size = 16)) := by
  unfold mayD
  rw [if_neg (by decide), if_pos rfl]
theorem take_eq {s : ByteArray} {p m : Nat} (k : Nat) (hp : p + m ≤ s.size) (hm : m ≤ 65535) : (spl s p (p + m) k).map cat = takeD s p m k := by
  have he : p + m ≤ p + 65535 := by omega
  have hx : ∀ a b, (s.extract a b).data.toList = (s.data.toList.take b).drop a := fun a b => extract_list s a b
  have hdt : (s.data.toList.take (p + m)).drop p = (s.data.toList.drop p).take m := by rw [List.drop_take]; congr 1; omega
  have hlen : ((s.data.toList.drop p).take m).length = m := by rw [List.length_take, List.length_drop, ba_len]; omega
  rcases kinds k with hN | ⟨hN, h⟩
  · rw [spl_N he hN]
    unfold takeD
    rw [if_pos hN]
    cases nm1 s p with
    | none => rfl
    | some r =>
      simp only [Option.bind_some]
      by_cases h1 : r.2 = p + m
      · rw [if_pos h1, if_pos h1, Option.map_some, cat_zz]
      · rw [if_neg h1, if_neg h1]; rfl
  · have hN' : ¬ isN k = true := by rw [hN]; decide
    rcases h with rfl | rfl | rfl | rfl | rfl | ⟨h15, h6, h16, h1, h28, hl⟩
    · rw [spl_M he]
      unfold takeD
      rw [if_neg hN', if_pos rfl]
      by_cases hm3 : m < 3
      · rw [if_pos hm3]
        split
        · cases hn : nm1 s (p + 2) with
          | none => rfl
          | some r =>
            have := (nm1_is hn).2.1
            simp only [Option.bind_some]
            rw [if_neg (by omega)]
            rfl
        · rfl
      · rw [if_neg hm3, if_pos (by omega)]
        cases nm1 s (p + 2) with
        | none => rfl
        | some r =>
          simp only [Option.bind_some]
          by_cases h1 : r.2 = p + m
          · rw [if_pos h1, if_pos h1, Option.map_some, cat_3, zp_nil]
            simp only [hx, List.append_nil]
            rw [List.drop_take, show p + 2 - p = 2 by omega]
          · rw [if_neg h1, if_neg h1]; rfl
    · rw [spl_S he]
      unfold takeD
      rw [if_neg hN', if_neg (by decide), if_pos rfl]
      cases hn : nm1 s p with
      | none => rfl
      | some r =>
        simp only [Option.bind_some]
        cases hq : nm1 s r.2 with
        | none => split <;> rfl
        | some q =>
          have h1 := (nm1_is hq).2.1
          simp only [Option.bind_some]
          by_cases h2 : q.2 + 20 = p + m
          · rw [if_pos ⟨by omega, h2⟩, if_pos (by omega), if_pos ⟨by omega, by omega⟩, Option.map_some, cat_3]
            simp only [hx]
            rw [List.drop_take, show q.2 + 20 - q.2 = 20 by omega, List.append_assoc]
          · rw [if_neg (fun x => h2 x.2)]
            split
            · rw [if_neg (by omega)]; rfl
            · rfl
    · rw [spl_T he, takeD_oth hN (by decide) (by decide), mayD_16, mk_size, hlen]
      have hi := txt_iff hp _ p (Nat.le_refl _) (by omega)
      rw [hdt] at hi
      by_cases ht : txG s p (p + m) = some (p + m)
      · have h2 := hi.1 ht
        rw [ht]
        simp only [Option.bind_some, if_true, Option.map_some, cat_zz, hx, hdt]
        rw [if_pos (by rw [h2]; simpa using hm)]
      · have h2 : ¬ txtB ((s.data.toList.drop p).take m) = true := fun x => ht (hi.2 x)
        rw [show (if (decide (m ≤ 65535) && txtB ((s.data.toList.drop p).take m)) = true then some ((s.data.toList.drop p).take m) else none) = none from if_neg (by simp only [Bool.and_eq_true]; exact fun x => h2 x.2)]
        cases hq : txG s p (p + m) with
        | none => rfl
        | some q =>
          simp only [Option.bind_some]
          rw [if_neg (fun x => ht (by rw [hq, x]))]
          rfl
    · rw [spl_F he (n := 4) rfl, takeD_oth hN (by decide) (by decide), mayD_1, mk_size ((s.data.toList.drop p).take m), hlen]
      by_cases h4 : m = 4
      · subst h4
        rw [if_pos ⟨hp, rfl⟩, if_pos (by decide), Option.map_some, cat_zz, hx, hdt]
      · rw [if_neg (fun x => h4 (by omega)), if_neg (by simp [h4])]
        rfl
    · rw [spl_F he (n := 16) rfl, takeD_oth hN (by decide) (by decide), mayD_28, mk_size ((s.data.toList.drop p).take m), hlen]
      by_cases h4 : m = 16
      · subst h4
        rw [if_pos ⟨hp, rfl⟩, if_pos (by decide), Option.map_some, cat_zz, hx, hdt]
      · rw [if_neg (fun x => h4 (by omega)), if_neg (by simp [h4])]
        rfl
    · rw [spl_O he (by omega) hp hl, takeD_oth hN h15 h6]
      unfold mayD
      rw [if_neg h1, if_neg h28, if_neg hN', if_neg h15, if_neg h6, if_neg h16, mk_size, hlen, if_pos (by simpa using hm), Option.map_some, cat_zz, hx, hdt]

theorem nm_at {d n : ByteArray} {p : Nat} {R : List UInt8} (hm : mayB n = true) (h : d.data.toList.drop p = n.data.toList ++ R) : nm1 d p = some (n.data.toList, p + n.size) := by
  have hn := may_name hm
  have h2 : tkB d p p = some (wire (labs n), p + (wire (labs n)).length) := tkB_wire (labs n) p R hn.ok (by rw [← hn.eq]; exact h)
  rw [nm1_name hm h2, ← hn.eq, ba_len]
/-- The pieces of data. -/
def form (k : Nat) (d : ByteArray) : List (ByteArray × Bool) :=
  if isN k = true then [(d, true), Zp, Zp]
  else if k = 15 then [(d.extract 0 2, false), (d.extract 2 d.size, true), Zp]
  else if k = 6 then [(d.extract 0 (szN d), true), ((d.extract (szN d) d.size).extract 0 (szN (d.extract (szN d) d.size)), true), (d.extract (szN d + szN (d.extract (szN d) d.size)) d.size, false)]
  else [(d, false), Zp, Zp]
theorem form_cat (k : Nat) (d : ByteArray) : cat (form k d) = d.data.toList := by
  unfold form
  by_cases hN : isN k = true
  · rw [if_pos hN, cat_zz]
  · rw [if_neg hN]
    by_cases h15 : k = 15
    · rw [if_pos h15, cat_3, zp_nil]
      simp only [List.append_nil]
      rw [extract_list, extract_list, ← ba_len d, List.take_length, List.drop_zero, List.take_append_drop]
    · rw [if_neg h15]
      by_cases h6 : k = 6
      · rw [if_pos h6, cat_3]
        simp only
        rw [ext_list, ext_list, extract_list, extract_list, ← ba_len d, List.take_length, ← List.drop_drop, List.take_append_drop, List.take_append_drop]
      · rw [if_neg h6, cat_zz]
theorem pcs_form {k : Nat} {d : ByteArray} (h : mayD k d = true) : pcs k d = some (form k d) := by
  have h0 := h
  have hc := form_cat k d
  unfold mayD at h
  rw [Bool.and_eq_true, decide_eq_true_iff] at h
  obtain ⟨hsz, h⟩ := h
  have he : d.size ≤ 0 + 65535 := by omega
  suffices hs : spl d 0 d.size k = some (form k d) by unfold pcs; rw [hs]; simp only; rw [if_pos hc]
  clear hc h0
  have hd0 : d.data.toList.drop 0 = d.data.toList ++ [] := by simp
  have hself : d.extract 0 d.size = d := by apply ba_ext; rw [ext_list, ← ba_len, List.take_length]
  unfold form
  rcases kinds k with hN | ⟨hN, hk⟩
  · have h1 : k ≠ 1 := by unfold isN at hN; simp at hN; omega
    have h28 : k ≠ 28 := by unfold isN at hN; simp at hN; omega
    rw [if_neg h1, if_neg h28, if_pos hN] at h
    rw [if_pos hN, spl_N he hN, nm_at h hd0]
    simp only [Option.bind_some, Nat.zero_add, if_true]
  · have hN' : ¬ isN k = true := by rw [hN]; decide
    rw [if_neg hN']
    rcases hk with rfl | rfl | rfl | rfl | rfl | ⟨h15, h6, h16, h1, h28, hl⟩
    · rw [if_neg (by decide), if_neg (by decide), if_neg hN', if_pos rfl, Bool.and_eq_true, decide_eq_true_iff] at h
      have hx : (d.extract 2 d.size).data.toList = d.data.toList.drop 2 := by rw [extract_list, ← ba_len, List.take_length]
      have hsz2 : (d.extract 2 d.size).size = d.size - 2 := by rw [ByteArray.size_extract]; omega
      rw [if_pos rfl, spl_M he, if_pos (by omega), Nat.zero_add, nm_at (R := []) h.2 (by rw [hx]; simp)]
      simp only [Option.bind_some]
      rw [if_pos (by rw [hsz2]; omega), ba_mk]
    · rw [if_neg (by decide), if_neg (by decide), if_neg hN', if_neg (by decide), if_pos rfl] at h
      unfold soaB at h
      rw [decide_eq_true_iff] at h
      obtain ⟨ha, hb, hsum⟩ := h
      obtain ⟨a1, a2, a3⟩ := szN_pos ha
      obtain ⟨b1, b2, b3⟩ := szN_pos hb
      rw [if_neg (by decide), if_pos rfl, spl_S he]
      generalize szN (d.extract (szN d) d.size) = b at *
      generalize szN d = a at *
      have x1 : (d.extract 0 a).data.toList = d.data.toList.take a := ext_list d a
      have x2 : (d.extract a d.size).data.toList = d.data.toList.drop a := by rw [extract_list, ← ba_len, List.take_length]
      have x3 : ((d.extract a d.size).extract 0 b).data.toList = (d.data.toList.drop a).take b := by rw [ext_list, x2]
      have z1 : (d.extract 0 a).size = a := by rw [ByteArray.size_extract]; omega
      have z2 : ((d.extract a d.size).extract 0 b).size = b := by rw [← ba_len, x3, List.length_take, List.length_drop, ba_len]; omega
      rw [nm_at (n := d.extract 0 a) (R := d.data.toList.drop a) a3 (by rw [x1]; simp)]
      simp only [Option.bind_some, Nat.zero_add, z1]
      rw [nm_at (n := (d.extract a d.size).extract 0 b) (R := d.data.toList.drop (a + b)) b3 (by rw [x3, ← List.drop_drop, List.take_append_drop])]
      simp only [Option.bind_some, z2]
      rw [if_pos ⟨by omega, by omega⟩, ba_mk, ba_mk, ← hsum]
    · rw [if_neg (by decide), if_neg (by decide), if_neg hN', if_neg (by decide), if_neg (by decide), if_pos rfl] at h
      rw [if_neg (by decide), if_neg (by decide), spl_T he]
      have hi := (txt_iff (s := d) (Nat.le_refl _) _ 0 (Nat.le_refl _) (Nat.zero_le _)).2 (by rw [← ba_len, List.take_length, List.drop_zero]; exact h)
      rw [hi]
      simp only [Option.bind_some, if_true]
      rw [hself]
    · rw [if_pos rfl, decide_eq_true_iff] at h
      rw [if_neg (by decide), if_neg (by decide), spl_F he (n := 4) rfl, if_pos ⟨by omega, by omega⟩, Nat.zero_add, ← h, hself]
    · rw [if_neg (by decide), if_pos rfl, decide_eq_true_iff] at h
      rw [if_neg (by decide), if_neg (by decide), spl_F he (n := 16) rfl, if_pos ⟨by omega, by omega⟩, Nat.zero_add, ← h, hself]
    · rw [if_neg h15, if_neg h6, spl_O he (Nat.zero_le _) (Nat.le_refl _) hl, hself]
/-- P4.1: May. -/
theorem may_eq (k : Nat) (d : ByteArray) : (pcs k d).isSome = mayD k d := by
  cases h : mayD k d with
  | true => rw [pcs_form h]; rfl
  | false =>
    cases hp : pcs k d with
    | none => rfl
    | some l =>
      exfalso
      unfold pcs at hp
      cases hs : spl d 0 d.size k with
      | none => rw [hs] at hp; cases hp
      | some l' =>
        rw [hs] at hp
        simp only at hp
        split at hp
        · rename_i hc
          have hsz : d.size ≤ 65535 := by
            unfold spl at hs
            split at hs
            · cases hs
            · omega
          have ht := take_eq (s := d) (p := 0) (m := d.size) k (by omega) hsz
          rw [Nat.zero_add, hs, Option.map_some, hc] at ht
          have := takeD_may (by omega) ht.symm
          rw [ba_mk, h] at this
          cases this
        · cases hp
/-- P4.1: Put. -/
theorem put_eq (S : List UInt8) (L : Kn) (k : Nat) (d : ByteArray) : ptS S L k d = if mayD k d = true then putD S L k d else (S, L) := by
  have he := may_eq k d
  cases h : mayD k d with
  | false =>
    rw [h] at he
    cases hp : pcs k d with
    | none => unfold ptS; rw [hp]; rfl
    | some l => rw [hp] at he; cases he
  | true =>
    have hf := pcs_form h
    rw [if_pos rfl]
    unfold ptS
    rw [hf]
    simp only
    unfold form putD
    have hz : ∀ (S : List UInt8) (L : Kn), putP S L [Zp, Zp] = (S, L) := by intro S L; simp [putP, Zp]
    have hz1 : ∀ (S : List UInt8) (L : Kn), putP S L [Zp] = (S, L) := by intro S L; simp [putP, Zp]
    unfold mayD at h
    rw [Bool.and_eq_true, decide_eq_true_iff] at h
    obtain ⟨hsz, h⟩ := h
    by_cases hN : isN k = true
    · have h1 : k ≠ 1 := by unfold isN at hN; simp at hN; omega
      have h28 : k ≠ 28 := by unfold isN at hN; simp at hN; omega
      rw [if_neg h1, if_neg h28, if_pos hN] at h
      rw [if_pos hN, if_pos hN, putP, if_pos rfl, hz]
      unfold stp
      rw [if_pos h]
    · rw [if_neg hN, if_neg hN]
      by_cases h15 : k = 15
      · subst h15
        rw [if_neg (by decide), if_neg (by decide), if_neg hN, if_pos rfl, Bool.and_eq_true, decide_eq_true_iff] at h
        rw [if_pos rfl, if_pos rfl, putP, if_neg (fun x => by cases x), putP, if_pos rfl, hz1]
        unfold stp
        rw [if_pos h.2, ext_list]
      · rw [if_neg h15, if_neg h15]
        by_cases h6 : k = 6
        · subst h6
          rw [if_neg (by decide), if_neg (by decide), if_neg hN, if_neg (by decide), if_pos rfl] at h
          unfold soaB at h
          rw [decide_eq_true_iff] at h
          obtain ⟨ha, hb, hsum⟩ := h
          obtain ⟨a1, a2, a3⟩ := szN_pos ha
          obtain ⟨b1, b2, b3⟩ := szN_pos hb
          rw [if_pos rfl, if_pos rfl, putP, if_pos rfl, putP, if_pos rfl, putP, if_neg (fun x => by cases x), putP]
          simp only
          unfold stp
          rw [if_pos a3, if_pos b3, extract_list, ← ba_len d, List.take_length]
        · rw [if_neg h6, if_neg h6, putP, if_neg (fun x => by cases x), hz]
/-- P4.3: Target. -/
theorem tgt_eq (k : Nat) (d : ByteArray) : tgB k d = (tgtD k d).isSome ∧ tgS k d = (tgtD k d).getD ⟨#[]⟩ := by
  unfold tgB tgS tgtD
  cases h : mayD k d with
  | false =>
    have he := may_eq k d
    rw [h] at he
    have hl : tgL k d = [] := by
      unfold tgL
      cases hp : pcs k d with
      | none => rfl
      | some l => rw [hp] at he; cases he
    rw [hl, if_neg (by decide), if_neg (by decide)]
    exact ⟨rfl, rfl⟩
  | true =>
    have hl : tgL k d = form k d := by unfold tgL; rw [pcs_form h]
    rw [hl, if_pos rfl]
    unfold form
    have c1 : ∀ x : ByteArray, nmC [(x, true), Zp, Zp] = 1 ∧ nmL [(x, true), Zp, Zp] = x := fun x => ⟨rfl, rfl⟩
    have c2 : ∀ x y : ByteArray, nmC [(x, false), (y, true), Zp] = 1 ∧ nmL [(x, false), (y, true), Zp] = y := fun x y => ⟨rfl, rfl⟩
    have c3 : ∀ x y z : ByteArray, nmC [(x, true), (y, true), (z, false)] = 2 := fun x y z => rfl
    have c4 : ∀ x : ByteArray, nmC [(x, false), Zp, Zp] = 0 := fun x => rfl
    by_cases hN : isN k = true
    · rw [if_pos hN, if_pos hN, (c1 d).1, (c1 d).2]
      exact ⟨rfl, rfl⟩
    · rw [if_neg hN, if_neg hN]
      by_cases h15 : k = 15
      · rw [if_pos h15, if_pos h15, (c2 _ _).1, (c2 _ _).2]
        exact ⟨rfl, rfl⟩
      · rw [if_neg h15, if_neg h15]
        by_cases h6 : k = 6
        · rw [if_pos h6, c3]
          exact ⟨rfl, rfl⟩
        · rw [if_neg h6, c4]
          exact ⟨rfl, rfl⟩
end Go.Proofs.YtlphbeaaeeohjaaDoor
