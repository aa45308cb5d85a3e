/- All, with its slice's block; a round of the hand: who is told how often. -/
import Derived.Test.YtpoienhmnaeaiaaSop
namespace Go.Proofs.Ytpoienhmnaeaiaa
open Go.RowKit
set_option linter.unusedVariables false

theorem fresh_own {w : World} {B : Nat} {e : TypeId} {k n cap : Nat} {p : Addr} {xs : List Value} (h : w.ownsRow B e k (.slice (some p) n cap) n xs) : B ≤ p.block := by
  rcases h.2 with ⟨h1, _⟩ | ⟨g, cap', cur, h1, h2, _⟩
  · cases h1
  · cases h1; exact h2
theorem Ns.fp {k : IntKind} {g b : Nat} {w w' : World} {A : Option Addr} {l : List Nat} (h : Ns k w A l) (hf : Fp g b w w') (hA : ∀ p, A = some p → g < p.block) : Ns k w' A l := fun j hj => by
  obtain ⟨c, off, h1, h2⟩ := h j hj
  exact ⟨c, off, h1, (World.cell?_of_block (a := ⟨c, off + j, none⟩) (hf.high c (hA _ h1) (cell_size h2))).trans h2⟩
set_option maxRecDepth 100000 in
set_option maxHeartbeats 1000000 in
theorem all_fresh {w : World} {g b : Nat} {M : Ms} (h : Sp w g b M) : Calls Try.prog 15 #[.pointer (some ⟨g, 0, none⟩)] w fun e w' => ∃ A cap, e = .returned (.slice A (allM M).length cap) ∧ Ns .i64 w' A (allM M) ∧ Below w.heap.size w w' ∧ ∀ p, A = some p → w.heap.size ≤ p.block := by
  obtain ⟨i0, hi, hz0, hz1, hz2⟩ := el_of elI
  have HC := Lib.hid (cap_any h)
  have HS := Lib.hid h
  have h64 := h.ok.n64
  unfold allM
  clear h
  generalize hn : M.c.length = n at *
  have HN := Lib.hid hn
  clear hn
  go_enter Try.func15, Try.ntmps15
  go_wp2_with (go_at_call 17; with_reducible (refine HC.out.mono ?_); rintro e w1 ⟨rfl, rfl⟩)
  go_loopw [3, 4, 7] (fun v _ x wr => ∃ j : Nat, j ≤ n ∧ x = .int .i64 j ∧ wr.ownsRow w1.heap.size 3 1 v (allC M.c j).length (vals (allC M.c j)) ∧ Below w1.heap.size w1 wr) (fun _ _ x _ => n - (intOf x).toNat)
  case atStart => exact ⟨0, Nat.zero_le _, rfl, World.ownsRow_nil _ _ _ _, Below.refl _ _⟩
  case round =>
    obtain ⟨j, hj, rfl, hown, hbel⟩ := hrel
    obtain ⟨Av, cv, rfl⟩ := ownR_form hown
    by_cases hlt : j < n
    · have d1 : decide ((j : Int) < n) = true := by simp; omega
      have hS := HS.out.keep hbel
      have hjn : j < M.c.length := by rw [HN.out]; exact hlt
      have c0 := hS.c0
      have e1 := hS.e1 hjn
      rw [HN.out] at c0
      have s0 : (0 : Int) ≤ (j : Nat) := by omega
      have s1 : (j : Int) < (n : Nat) := by omega
      have hle := allC_le M.c j
      cases hu : us M.c j with
      | false =>
        rw [hu] at e1
        have ht2 : allC M.c (j + 1) = allC M.c j := by rw [allC_succ, hu]; rfl
        have HT2 := Lib.hid ht2
        have HO := Lib.hid (And.intro hown hbel)
        clear hown hbel hS hu ht2
        go_wp2_with fail
        go_roundw
        case rel => exact ⟨j + 1, hlt, by go_num, by rw [HT2.out]; exact HO.out.1, HO.out.2⟩
        case measure => simp [intOf]; omega
      | true =>
        rw [hu] at e1
        have ht2 : allC M.c (j + 1) = allC M.c j ++ [j] := by rw [allC_succ, hu]; rfl
        have HT2 := Lib.hid ht2
        have ho3 := hown.alloc (Obj.cells #[.int .i64 (j : Nat)] 3)
        have hb3 := hbel.alloc hbel.size (Obj.cells #[.int .i64 (j : Nat)] 3)
        have HO3 := Lib.hid ho3
        have HB3 := Lib.hid hb3
        have HV := Lib.hid (vals_snoc (allC M.c j) j)
        clear hown hbel hS hu ho3 hb3 ht2
        generalize allC M.c j = l at *
        go_wp2_with (at_builtin; (refine wpList_append_own _ rfl _ _ 37 rfl w1.heap.size 3 i0 (.int .i64 0) 1 8 Try.underlying37 hi hz0 hz1 hz2 rfl (by decide) _ _ _ rfl HO3.out ⟨wr.heap.size, 0, none⟩ 1 1 [Value.int .i64 (j : Nat)] rfl rfl (newI wr j) ?q3 ?q4 ?q5 HB3.out.size ?_))
        case q3 => intro u hu; simp at hu; subst hu; rfl
        case q4 => unfold maxLen; omega
        case q5 => omega
        intro v' w3 hown2 hgrow hnil
        have hb4 := HB3.out.grown hgrow HB3.out.size (fun k hk => (HO3.out.lt k hk).1)
        rw [← HV.out, show l.length + 1 = (l ++ [j]).length by simp, ← HT2.out] at hown2
        have HF := Lib.hid (And.intro hown2 hb4)
        clear hown2 hgrow hnil hb4
        go_wp2_with fail
        go_roundw
        case rel => exact ⟨j + 1, hlt, by go_num, HF.out.1, HF.out.2⟩
        case measure => simp [intOf]; omega
    · obtain rfl : j = n := by omega
      have d1 : decide ((j : Int) < j) = false := by simp
      have hfr : ∀ p, Av = some p → w1.heap.size ≤ p.block := fun p hp => by
        subst hp
        exact fresh_own hown
      have HF := Lib.hid (And.intro (ns_own hown) (And.intro hbel hfr))
      clear hown hbel hfr
      go_wp2_with fail
      go_ret
      exact ⟨Av, cv, rfl, HF.out.1, HF.out.2⟩


/-- Eight counts. -/
def c8 (S : Nat → Nat) : Array Value := ((List.range 8).map fun j => Value.int .i64 (S j : Nat)).toArray
theorem c8_at (S : Nat → Nat) (j : Nat) (h : j < 8) : (c8 S)[j]? = some (.int .i64 (S j : Nat)) := by simp [c8, h]
theorem c8_set (S : Nat → Nat) (j : Nat) (h : j < 8) : (c8 S).setIfInBounds j (.int .i64 ((S j + 1 : Nat) : Int)) = c8 (fun i => if i = j then S i + 1 else S i) := by
  apply Array.ext_getElem?
  intro i
  rw [Array.getElem?_setIfInBounds]
  by_cases hi : i < 8
  · rw [c8_at _ i hi, c8_at _ i hi]
    by_cases e : j = i
    · subst e; simp [c8, hi]
    · rw [if_neg e, if_neg (Ne.symm e)]
  · have e : j ≠ i := by omega
    rw [if_neg e]
    simp [c8, hi]
theorem count_none {a : Nat} : ∀ {l : List Nat}, a ∉ l → l.count a = 0
  | [], _ => rfl
  | b :: l, h => by
    simp only [List.mem_cons, not_or] at h
    have : (b == a) = false := by simpa using (Ne.symm h.1)
    rw [List.count_cons, count_none h.2, this]
    rfl
theorem count_one {a : Nat} : ∀ {l : List Nat}, l.Nodup → a ∈ l → l.count a = 1
  | [], _, h => by cases h
  | b :: l, hn, h => by
    rw [List.nodup_cons] at hn
    rcases List.mem_cons.1 h with h | h
    · subst h
      rw [List.count_cons, count_none hn.1]
      simp
    · have : (b == a) = false := by
        simp
        intro e
        subst e
        exact hn.1 h
      rw [List.count_cons, count_one hn.2 h, this]
      rfl
/-- So many have been told: m rounds, and those of A. -/
structure Rd (M : Ms) (F : List Nat) (q : Nat) (S : Nat → Nat) : Prop where
  st : Still M
  w : ∃ m A B, F = A ++ B ∧ fQ (rotQ M) = B ++ A ∧ q = m * F.length + A.length ∧ (B ≠ [] ∨ F = []) ∧ ∀ j ∈ F, S j = m + A.count j
  le : ∀ j, S j ≤ q
theorem rd_begin {M : Ms} (h : Still M) : Rd M (fQ (rotQ M)) 0 (fun _ => 0) := by
  refine ⟨h, ⟨0, [], fQ (rotQ M), rfl, by simp, by simp, ?_, fun j _ => by simp⟩, fun _ => Nat.le_refl _⟩
  cases fQ (rotQ M) with
  | nil => exact .inr rfl
  | cons a t => exact .inl (by simp)
theorem rd_step {M : Ms} (hok : M.Ok) {F : List Nat} (hn : F.Nodup) (hF : F ≠ []) {q v : Nat} {S : Nat → Nat} (h : Rd M F q S) (hv : (vicM M).2 = some v) : Rd (vicM M).1 F (q + 1) (fun i => if i = v then S i + 1 else S i) := by
  obtain ⟨m, A, B, h1, h2, h3, h4, h5⟩ := h.w
  have hle : ∀ j, (if j = v then S j + 1 else S j) ≤ q + 1 := fun j => by
    have := h.le j
    split <;> omega
  rcases h4 with h4 | h4
  · match B, h4 with
    | x :: B', _ =>
      rw [List.cons_append] at h2
      obtain ⟨e1, e2, e3⟩ := still_vic hok h.st h2 hv
      subst e1
      rw [List.append_assoc] at e3
      by_cases hB : B' = []
      · subst hB
        rw [List.nil_append] at e3
        refine ⟨e2, ⟨m + 1, [], F, rfl, by rw [e3, List.append_nil, h1], ?_, .inl hF, fun j hj => ?_⟩, hle⟩
        · rw [h3, h1]; simp [Nat.add_mul]; omega
        · have hc : F.count j = 1 := count_one hn hj
          rw [h1, List.count_append] at hc
          rw [h5 j hj]
          simp only [List.count_nil, List.count_cons, Nat.add_zero] at hc ⊢
          by_cases e : j = v
          · subst e; simp at hc ⊢; omega
          · rw [if_neg e]
            have : (v == j) = false := by simpa using (Ne.symm e)
            rw [this] at hc
            simp at hc
            omega
      · refine ⟨e2, ⟨m, A ++ [v], B', by rw [h1]; simp, e3, by rw [h3]; simp; omega, .inl hB, fun j hj => ?_⟩, hle⟩
        rw [h5 j hj, List.count_append]
        by_cases e : j = v
        · subst e; simp; omega
        · rw [if_neg e]
          have : (v == j) = false := by simpa using (Ne.symm e)
          simp [List.count_cons, this]
  · exact absurd h4 hF
theorem rd_end {M : Ms} {F : List Nat} {S : Nat → Nat} (h : Rd M F (3 * F.length) S) : ∀ j ∈ F, S j = 3 := by
  obtain ⟨m, A, B, h1, h2, h3, h4, h5⟩ := h.w
  intro j hj
  have hF : 0 < F.length := List.length_pos_of_mem hj
  rcases h4 with h4 | h4
  · have hB : 0 < B.length := List.length_pos_iff.2 h4
    have hl : F.length = A.length + B.length := by rw [h1]; simp
    have hm : m = 3 := by
      rcases Nat.lt_trichotomy m 3 with hlt | e | hgt
      · have : m * F.length ≤ 2 * F.length := Nat.mul_le_mul_right _ (by omega)
        omega
      · exact e
      · have : 4 * F.length ≤ m * F.length := Nat.mul_le_mul_right _ (by omega)
        omega
    subst hm
    have hA : A = [] := List.eq_nil_of_length_eq_zero (by omega)
    rw [h5 j hj, hA]
    simp
  · rw [h4] at hj; cases hj
theorem all_nodup (M : Ms) : (allM M).Nodup := List.Pairwise.filter _ List.nodup_range
theorem fq_nodup (M : Ms) : (fQ (rotQ M)).Nodup := by
  obtain ⟨A, B, h1, h2⟩ := fQ_rot M
  have := all_nodup M
  rw [h1, List.nodup_append] at this
  rw [h2, List.nodup_append]
  exact ⟨this.2.1, this.1, fun a ha b hb e => this.2.2 b hb a ha e.symm⟩
theorem fq_mem {M : Ms} {j : Nat} : j ∈ fQ (rotQ M) ↔ j ∈ allM M := by
  obtain ⟨A, B, h1, h2⟩ := fQ_rot M
  rw [h1, h2]
  simp [or_comm]
theorem vicB_all {M : Ms} (hok : M.Ok) : vicB M = decide ((0 : Int) < ((allM M).length : Nat)) := by
  by_cases h : allM M = []
  · unfold vicB
    rw [vicM_none hok h, h]
    rfl
  · obtain ⟨v, hv⟩ := vicM_some hok h
    rw [vicB_of hv]
    have := List.length_pos_iff.2 h
    symm
    simp
    omega
end Go.Proofs.Ytpoienhmnaeaiaa
