/- A range over the map of entries; what a question is as a key. -/
import Derived.Test.YtnmgeoeppfdnhaaEmj
namespace Go.Proofs.Ytnmgeoeppfdnhaa
open Go.RowKit
open Go.Maps (Keyed IsMap Tidy)
set_option linter.unusedVariables false
set_option linter.unusedSimpArgs false

theorem str_lits (d : Nat) {v : Value} {l : List Lit} (h : Try.prog.keyLits (d + 1) 9 [v] = some l) : ∃ s, v = .string s ∧ s.size ≤ maxLen := by
  simp only [Program.keyLits, Try.underlying9] at h
  cases v <;> simp at h
  exact ⟨_, rfl, h.1⟩
theorem u16_lits (d : Nat) {v : Value} {l : List Lit} (h : Try.prog.keyLits (d + 1) 23 [v] = some l) : ∃ k : Nat, v = .int .u16 (k : Nat) ∧ k < 65536 := by
  simp only [Program.keyLits, Try.underlying23] at h
  cases v <;> simp at h
  rename_i k n
  obtain ⟨⟨rfl, hw⟩, _⟩ := h
  simp [Lit.wf, IntKind.min, IntKind.max, IntKind.signed, IntKind.bits] at hw
  exact ⟨n.toNat, by congr 1; omega, by omega⟩
theorem q_lits (d : Nat) {a b c : Value} {l : List Lit} (h : Try.prog.keyLits (d + 2) 25 [a, b, c] = some l) : ∃ la lb lc, Try.prog.keyLits (d + 1) 9 [a] = some la ∧ Try.prog.keyLits (d + 1) 23 [b] = some lb ∧ Try.prog.keyLits (d + 1) 23 [c] = some lc := by
  unfold Program.keyLits at h
  simp only [Try.underlying25, cellsQ] at h
  generalize hk : Try.prog.keyLits (d + 1) = K at *
  simp [cellsS, cellsU] at h
  cases h1 : K 9 [a] with
  | none => rw [h1] at h; simp at h
  | some la =>
    cases h2 : K 23 [b] with
    | none => rw [h1, h2] at h; simp at h
    | some lb =>
      cases h3 : K 23 [c] with
      | none => rw [h1, h2, h3] at h; simp at h
      | some lc => exact ⟨la, lb, lc, rfl, rfl, rfl⟩
theorem keyOf_q_inv {key : Value} {kl : Lit} (h : keyOf Try.prog 25 key = some kl) : ∃ q : Qu, key = qV q := by
  obtain ⟨m, hm⟩ : ∃ m, Try.prog.types.size + 1 = m + 2 := ⟨Try.prog.types.size - 1, by
    have h0 : 0 < Try.prog.types.size := Nat.lt_of_le_of_lt (Nat.zero_le _) rowQ
    generalize Try.prog.types.size = z at *
    omega⟩
  unfold keyOf at h
  rw [Try.underlying25] at h
  simp only [keyTypeQ, Bool.true_and] at h
  split at h
  · rename_i hf
    cases key with
    | agg cs =>
      simp [Value.formed, Try.underlying25, cellsQ] at hf
      obtain ⟨l⟩ := cs
      match l, hf with
      | [a, b, c], _ =>
        rw [hm] at h
        simp only [Value.cells] at h
        obtain ⟨ls, h1, _⟩ := Option.map_eq_some_iff.1 h
        obtain ⟨la, lb, lc, ha, hb, hc⟩ := q_lits m h1
        obtain ⟨s, rfl, _⟩ := str_lits m ha
        obtain ⟨k1, rfl, _⟩ := u16_lits m hb
        obtain ⟨k2, rfl, _⟩ := u16_lits m hc
        exact ⟨⟨s, k1, k2⟩, rfl⟩
    | _ => simp [Value.formed, Try.underlying25] at hf
  · cases h

/-- A range over block b's entries: done have come. -/
def EmR (w : World) (b r N : Nat) (f : Qu → Option Ev) (done : List Qu) (cnt : Nat) : Prop :=
  ∃ (D : DataW Value) (left : Lit → Bool), w.ranges Try.prog 25 heldE b r N D left cnt ∧ Ents D f ∧ Maps.size D = N ∧ ∀ q l, keyOf Try.prog 25 (qV q) = some l → left l = ((f q).isSome && !decide (q ∈ done))
section
variable {w w' : World} {b r N cnt : Nat} {f : Qu → Option Ev} {done : List Qu}
theorem EmR.kept {row : Option Nat} (h : EmR w b r N f done cnt) (hg : w.grownBy w' row) (hb : some b ≠ row) (hr : some r ≠ row) : EmR w' b r N f done cnt :=
  let ⟨D, left, h0, h1⟩ := h
  ⟨D, left, h0.kept hg hb hr, h1⟩
theorem EmR.em (h : EmR w b r N f done cnt) : Em w b N f :=
  let ⟨D, left, h0, h1, h2, _⟩ := h
  ⟨D, h0.owns, h1, h2⟩
theorem EmR.left_eq (h : EmR w b r N f done cnt) : w.rangeLeft b r = cnt := let ⟨_, _, h0, _⟩ := h; h0.left_eq
theorem EmR.ne (h : EmR w b r N f done cnt) : r ≠ b := let ⟨_, _, h0, _⟩ := h; h0.ne
theorem EmR.lt (h : EmR w b r N f done cnt) : r < w.heap.size := let ⟨_, _, h0, _⟩ := h; h0.lt
end
section
variable {ops : Array Oper} {rest : List Oper} {o : Oper} {a : Act} {Q : Exit → Act → World → Prop} {w : World} {b r N cnt : Nat} {f : Qu → Option Ev} {done : List Qu}
theorem wpList_em_range (hg : o.guard = none) (m : Operand) (hop : o.op = Op.range 57 m) (hm : a.eval m = .map (some b)) (hI : Em w b N f)
    (hK : ∀ w', EmR w' b w.heap.size N f [] N → w.grownBy w' none → w'.heap.size = w.heap.size + 1 → wpList Try.prog ops Q rest (a.put o.dst (.pointer (some ⟨w.heap.size, 0, none⟩))) w') : wpList Try.prog ops Q (o :: rest) a w := by
  obtain ⟨D, h0, T, hs⟩ := hI
  refine wpList_range_own w hg m _ hop _ _ lawQ Try.underlying57 heldE b N D hm h0 fun w' h1 h2 h3 => hK w' ⟨D, _, by rw [← hs] at h1 ⊢; exact h1, T, hs, fun q l hl => ?_⟩ h2 h3
  rw [T.has q l hl]
  simp
theorem wpList_em_next (hg : o.guard = none) (it : Operand) (hop : o.op = Op.next it false) (hit : a.eval it = .pointer (some ⟨r, 0, none⟩)) (h : EmR w b r N f done cnt)
    (hDone : (∀ q, q.Fine → (f q).isSome = true → q ∈ done) → wpList Try.prog ops Q rest (a.put o.dst (.tuple #[.bool false])) w)
    (hMore : ∀ (q : Qu) (x : Ev) (w' : World) (cnt' : Nat), f q = some x → q ∉ done → EmR w' b r N f (done ++ [q]) cnt' → cnt' < cnt → w.grownBy w' (some r) → w'.heap.size = w.heap.size → (Instr.entry (.pointer (some ⟨r, 0, none⟩))).run Try.prog w' = .ok (.tuple #[qV q, evV x]) w' →
      wpList Try.prog ops Q rest (a.put o.dst (.tuple #[.bool true, qV q, evV x])) w') : wpList Try.prog ops Q (o :: rest) a w := by
  obtain ⟨D, left, h0, T, hs, hl⟩ := h
  refine wpList_next_ranges w hg it hop _ lawQ heldE qV (fun v : Value => v) (fun key kl hk => keyOf_q_inv hk) (fun v y _ => ⟨v, rfl⟩) b r N D left cnt hit h0 (fun _ hz => hDone fun q hq hf => ?_) ?_
  · obtain ⟨l, hk⟩ := key_q hq
    have h1 := hl q l hk
    rw [hz, hf] at h1
    simpa using h1.symm
  · intro q c kl y w' cnt' hk hlk hy hat hrg hlt hgr hsz hen
    have h1 := hl q kl hk
    rw [hlk] at h1
    have h2 : (f q).isSome = true ∧ q ∉ done := by simpa using h1.symm
    cases hf : f q with
    | none => rw [hf] at h2; exact absurd h2.1 (by simp)
    | some x =>
      have h3 := hat (.lit (.bool false))
      rw [T.at_ q kl _ hk, hf] at h3
      have h4 := heldE_inv (d := y.1) (ps := y.2) hy
      rw [h4] at h3
      have h5 : c = evV x := by simpa using h3.symm
      subst h5
      refine hMore q x w' cnt' hf h2.2 ⟨D, _, hrg, T, hs, fun q' l' hk' => ?_⟩ hlt hgr hsz hen
      show (left l' && !l'.sameKey kl) = _
      rw [hl q' l' hk']
      by_cases e : q' = q
      · subst e
        rw [hk] at hk'
        cases hk'
        rw [WideAt.sameKey_self (lawQ.key hk)]
        simp
      · have h6 : l'.sameKey kl = false := by
          cases hs : l'.sameKey kl with
          | false => rfl
          | true => exact absurd (WideAt.sameKey_eq hs) (lit_apart hk' hk e)
        rw [h6]
        simp [e]
end
end Go.Proofs.Ytnmgeoeppfdnhaa
