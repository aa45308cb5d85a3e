/- Plain mathematics of resource record data: what is taken may be, and has just its bytes. -/
import Derived.Test.YtlphbeaaeeohjaaDoorRda
namespace Go.Proofs.YtlphbeaaeeohjaaDoor
open Go

theorem nm1_is {s : ByteArray} {p : Nat} {r : List UInt8 × Nat} (h : nm1 s p = some r) : mayB ⟨r.1.toArray⟩ = true ∧ p < r.2 ∧ r.2 ≤ s.size ∧ r.1.length ≤ 255 ∧ 1 ≤ r.1.length := by
  unfold nm1 at h
  rw [Option.map_eq_some_iff] at h
  obtain ⟨q, hq, rfl⟩ := h
  rw [Option.filter_eq_some_iff] at hq
  obtain ⟨hq, hl⟩ := hq
  rw [decide_eq_true_iff] at hl
  obtain ⟨ls, g1, g2, g3, g4⟩ := tkB_name _ _ q hq
  refine ⟨(NameIs.may (ls := ls.map (·.map low)) ⟨?_, ?_, ?_, ?_⟩).1, g3, g4, by simpa using hl, ?_⟩
  · intro l hl
    obtain ⟨x, hx, rfl⟩ := List.mem_map.1 hl
    exact okLb_low (g1 x hx)
  · intro l hl
    obtain ⟨x, hx, rfl⟩ := List.mem_map.1 hl
    rw [List.map_map]
    congr 1
    funext c
    exact low_low c
  · show (q.1.map low) = _
    rw [g2, map_low_wire ls g1]
  · show (q.1.map low).length ≤ 255
    rw [List.length_map]; exact hl
  · show 1 ≤ (q.1.map low).length
    rw [List.length_map, g2]
    exact wire_len_pos ls
theorem mk_size (l : List UInt8) : (⟨l.toArray⟩ : ByteArray).size = l.length := by simp [ByteArray.size]
theorem mk_ext (l : List UInt8) (a b : Nat) : (⟨l.toArray⟩ : ByteArray).extract a b = ⟨((l.take b).drop a).toArray⟩ := by
  apply ba_ext
  rw [extract_list]
/-- What is taken may be. -/
theorem takeD_may {s : ByteArray} {p m k : Nat} (hp : p + m ≤ s.size) {d : List UInt8} (h : takeD s p m k = some d) : mayD k ⟨d.toArray⟩ = true := by
  unfold takeD at h
  by_cases hN : isN k = true
  · rw [if_pos hN, Option.bind_eq_some_iff] at h
    obtain ⟨r, hr, h2⟩ := h
    obtain ⟨a, b, c, e, _⟩ := nm1_is hr
    split at h2
    · cases h2
      have h1 : k ≠ 1 := by unfold isN at hN; simp at hN; omega
      have h28 : k ≠ 28 := by unfold isN at hN; simp at hN; omega
      unfold mayD
      rw [if_neg h1, if_neg h28, if_pos hN, a, mk_size]
      simp
      omega
    · cases h2
  · rw [if_neg hN] at h
    by_cases h15 : k = 15
    · subst h15
      rw [if_pos rfl] at h
      split at h
      · cases h
      · rename_i hm3
        rw [Option.bind_eq_some_iff] at h
        obtain ⟨r, hr, h2⟩ := h
        obtain ⟨a, b, c, e, f⟩ := nm1_is hr
        split at h2
        · cases h2
          have hl : ((s.data.toList.drop p).take 2).length = 2 := by rw [List.length_take, List.length_drop, ba_len]; omega
          unfold mayD
          rw [if_neg (by decide), if_neg (by decide), if_neg hN, if_pos rfl, mk_size, mk_ext, List.length_append, hl]
          have hd : ((((s.data.toList.drop p).take 2 ++ r.1).take (2 + r.1.length)).drop 2) = r.1 := by
            rw [List.take_of_length_le (by rw [List.length_append, hl]; exact Nat.le_refl _), List.drop_left' hl]
          rw [hd, a]
          simp
          omega
        · cases h2
    · rw [if_neg h15] at h
      by_cases h6 : k = 6
      · subst h6
        rw [if_pos rfl, Option.bind_eq_some_iff] at h
        obtain ⟨r, hr, h2⟩ := h
        obtain ⟨a1, a2, a3, a4, a5⟩ := nm1_is hr
        split at h2
        · rw [Option.bind_eq_some_iff] at h2
          obtain ⟨q, hq, h3⟩ := h2
          obtain ⟨b1, b2, b3, b4, b5⟩ := nm1_is hq
          split at h3
          · rename_i hc
            cases h3
            have hl : ((s.data.toList.drop q.2).take 20).length = 20 := by rw [List.length_take, List.length_drop, ba_len]; omega
            generalize (s.data.toList.drop q.2).take 20 = t at *
            have z1 : szN ⟨(r.1 ++ q.1 ++ t).toArray⟩ = r.1.length := by
              refine szN_yes (by rw [mk_size]; simp) ?_
              rw [mk_ext, List.drop_zero, List.append_assoc, List.take_left' rfl]
              exact a1
            have hx : (⟨(r.1 ++ q.1 ++ t).toArray⟩ : ByteArray).extract r.1.length (r.1 ++ q.1 ++ t).length = ⟨(q.1 ++ t).toArray⟩ := by
              rw [mk_ext, List.take_length, List.append_assoc, List.drop_left' rfl]
            have z2 : szN ⟨(q.1 ++ t).toArray⟩ = q.1.length := by
              refine szN_yes (by rw [mk_size]; simp) ?_
              rw [mk_ext, List.drop_zero, List.take_left' rfl]
              exact b1
            unfold mayD
            rw [if_neg (by decide), if_neg (by decide), if_neg hN, if_neg (by decide), if_pos rfl]
            unfold soaB
            rw [mk_size, z1, hx, z2]
            simp
            omega
          · cases h3
        · cases h2
      · rw [if_neg h6] at h
        split at h
        · cases h; assumption
        · cases h
/-- Types of which each has its own number of bytes. -/
def fixedD (k : Nat) : Bool := decide (k = 1 ∨ k = 28 ∨ k = 15 ∨ k = 6) || isN k
/-- With another number of bytes it can't be taken. -/
theorem takeD_exact {s : ByteArray} {p m m' k : Nat} (hk : fixedD k = true) (hp : p + m ≤ s.size) (hp' : p + m' ≤ s.size) {d : List UInt8} (h : takeD s p m k = some d) (hne : m' ≠ m) : takeD s p m' k = none := by
  cases h' : takeD s p m' k with
  | none => rfl
  | some d' =>
    exfalso
    apply hne
    unfold takeD at h h'
    by_cases hN : isN k = true
    · rw [if_pos hN, Option.bind_eq_some_iff] at h h'
      obtain ⟨r, hr, h2⟩ := h
      obtain ⟨r', hr', h2'⟩ := h'
      rw [hr] at hr'
      cases hr'
      split at h2
      · split at h2'
        · omega
        · cases h2'
      · cases h2
    · rw [if_neg hN] at h h'
      by_cases h15 : k = 15
      · subst h15
        rw [if_pos rfl] at h h'
        split at h
        · cases h
        · split at h'
          · cases h'
          · rw [Option.bind_eq_some_iff] at h h'
            obtain ⟨r, hr, h2⟩ := h
            obtain ⟨r', hr', h2'⟩ := h'
            rw [hr] at hr'
            cases hr'
            split at h2
            · split at h2'
              · omega
              · cases h2'
            · cases h2
      · rw [if_neg h15] at h h'
        by_cases h6 : k = 6
        · subst h6
          rw [if_pos rfl, Option.bind_eq_some_iff] at h h'
          obtain ⟨r, hr, h2⟩ := h
          obtain ⟨r', hr', h2'⟩ := h'
          rw [hr] at hr'
          cases hr'
          split at h2
          · split at h2'
            · rw [Option.bind_eq_some_iff] at h2 h2'
              obtain ⟨q, hq, h3⟩ := h2
              obtain ⟨q', hq', h3'⟩ := h2'
              rw [hq] at hq'
              cases hq'
              split at h3
              · split at h3'
                · omega
                · cases h3'
              · cases h3
            · cases h2'
          · cases h2
        · rw [if_neg h6] at h h'
          have hk2 : k = 1 ∨ k = 28 := by
            unfold fixedD at hk
            rw [Bool.or_eq_true] at hk
            rcases hk with hk | hk
            · rw [decide_eq_true_iff] at hk; omega
            · exact absurd hk hN
          have hl : ((s.data.toList.drop p).take m).length = m := by rw [List.length_take, List.length_drop, ba_len]; omega
          have hl' : ((s.data.toList.drop p).take m').length = m' := by rw [List.length_take, List.length_drop, ba_len]; omega
          split at h
          · rename_i g
            split at h'
            · rename_i g'
              unfold mayD at g g'
              rw [Bool.and_eq_true] at g g'
              have g := g.2
              have g' := g'.2
              rcases hk2 with rfl | rfl
              · rw [if_pos rfl, decide_eq_true_iff, mk_size, hl] at g
                rw [if_pos rfl, decide_eq_true_iff, mk_size, hl'] at g'
                omega
              · rw [if_neg (by decide), if_pos rfl, decide_eq_true_iff, mk_size, hl] at g
                rw [if_neg (by decide), if_pos rfl, decide_eq_true_iff, mk_size, hl'] at g'
                omega
            · cases h'
          · cases h
/-- The name in data. -/
def tgtD (k : Nat) (d : ByteArray) : Option ByteArray := if mayD k d = true then (if isN k = true then some d else if k = 15 then some (d.extract 2 d.size) else none) else none
theorem tgtD_name {k : Nat} {d n : ByteArray} (h : tgtD k d = some n) : mayB n = true ∧ n.size ≤ d.size := by
  unfold tgtD at h
  split at h
  · rename_i hm
    unfold mayD at hm
    rw [Bool.and_eq_true] at hm
    have hm := hm.2
    split at h
    · rename_i hN
      cases h
      have h1 : k ≠ 1 := by unfold isN at hN; simp at hN; omega
      have h28 : k ≠ 28 := by unfold isN at hN; simp at hN; omega
      rw [if_neg h1, if_neg h28, if_pos hN] at hm
      exact ⟨hm, Nat.le_refl _⟩
    · rename_i hN
      split at h
      · rename_i h15
        subst h15
        cases h
        rw [if_neg (by decide), if_neg (by decide), if_neg hN, if_pos rfl, Bool.and_eq_true] at hm
        exact ⟨hm.2, by rw [ByteArray.size_extract]; omega⟩
      · cases h
  · cases h
end Go.Proofs.YtlphbeaaeeohjaaDoor
