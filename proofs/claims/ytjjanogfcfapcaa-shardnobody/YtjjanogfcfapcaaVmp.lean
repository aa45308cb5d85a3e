/- The map of places: questions to the numbers of their slots. -/
import Derived.Test.YtjjanogfcfapcaaVmc
import Derived.DeepKeys4
import Derived.Maps.OwnSet
import Derived.Maps.RangeWalk
namespace Go.Proofs.Ytjjanogfcfapcaa
open Go.RowKit
open Go.Maps (Keyed IsMap Tidy)
set_option linter.unusedVariables false

structure Qu.Fine (q : Qu) : Prop where
  n : q.n.size ≤ maxLen
  k : q.k < 65536
  c : q.c < 65536
theorem laidQ : laidOutB Try.prog = true := by kernel_rfl
theorem rowQ : (35 : TypeId) < Try.prog.types.size := of_decide_eq_true (by kernel_rfl)
theorem deepQ : Try.prog.keyTypeAt 3 35 = true := by kernel_rfl
theorem law0 : WideMaps.KeyLaw Try.prog 35 := deep_law_laid laidQ (m := 3) (k := 35) (Nat.le_of_ble_eq_true rfl) rowQ deepQ (by rw [Try.underlying35])
theorem lawQ : Keyed Try.prog 35 := Keyed.of_law law0
theorem wf_u16 {k : Nat} (h : k < 65536) : (Lit.int .u16 (k : Nat)).wf = true := by
  simp [Lit.wf, IntKind.min, IntKind.max, IntKind.signed, IntKind.bits]
  omega
theorem keyTypeQ : Try.prog.keyType 35 = true := by kernel_rfl
theorem cellsQ : Try.prog.cellsOf 35 = 3 := by kernel_rfl
theorem cellsS : Try.prog.cellsOf 9 = 1 := by kernel_rfl
theorem cellsU : Try.prog.cellsOf 33 = 1 := by kernel_rfl
theorem key_q {q : Qu} (h : q.Fine) : ∃ l, keyOf Try.prog 35 (qV q) = some l := by
  obtain ⟨m, hm⟩ : ∃ m, Try.prog.types.size + 1 = m + 2 := ⟨Try.prog.types.size - 1, by
    have h0 : 0 < Try.prog.types.size := Nat.lt_of_le_of_lt (Nat.zero_le _) rowQ
    generalize Try.prog.types.size = z at *
    omega⟩
  have hf : (qV q).formed Try.prog 35 = true := by simp [Value.formed, qV, Try.underlying35, cellsQ]
  unfold keyOf
  rw [Try.underlying35]
  simp only [keyTypeQ, hf, Bool.and_self, if_true]
  rw [hm]
  simp only [Program.keyLits, Try.underlying35, qV, Value.cells, cellsQ]
  simp [cellsS, cellsU, Try.underlying9, Try.underlying33, wf_u16 h.k, wf_u16 h.c, h.n]
theorem qV_inj {a b : Qu} (h : qV a = qV b) : a = b := by
  obtain ⟨an, ak, ac⟩ := a
  obtain ⟨bn, bk, bc⟩ := b
  simp only [qV, Value.agg.injEq, Array.mk.injEq, List.cons.injEq, Value.string.injEq, Value.int.injEq, true_and, and_true] at h
  obtain ⟨rfl, h2, h3⟩ := h
  have e2 : ak = bk := by omega
  have e3 : ac = bc := by omega
  subst e2
  subst e3
  rfl
/-- The map's datum holds just the places that f tells. -/
structure Places (D : DataW Unit) (f : Qu → Option Nat) : Prop where
  tidy : Tidy D
  has : ∀ q l, keyOf Try.prog 35 (qV q) = some l → Maps.has D l = (f q).isSome
  at_ : ∀ q l z, keyOf Try.prog 35 (qV q) = some l → D.atKey l z = match f q with | some i => .lit (.int .i64 (i : Nat)) | none => z
theorem places_nil : Places (.map []) (fun _ => none) := ⟨Maps.tidy_empty, fun _ _ _ => rfl, fun _ _ _ _ => rfl⟩
theorem lit_apart {a b : Qu} {la lb : Lit} (ha : keyOf Try.prog 35 (qV a) = some la) (hb : keyOf Try.prog 35 (qV b) = some lb) (h : a ≠ b) : la ≠ lb := fun e => h (qV_inj (lawQ.inj ha (by rw [e]; exact hb)))
theorem Places.put {D : DataW Unit} {f : Qu → Option Nat} (h : Places D f) {q : Qu} {l : Lit} (hq : keyOf Try.prog 35 (qV q) = some l) (i : Nat) : Places (D.put l (.lit (.int .i64 (i : Nat)))) (fun x => if x = q then some i else f x) := by
  have hl := lawQ.key hq
  refine ⟨h.tidy.put hl _, fun x lx hx => ?_, fun x lx z hx => ?_⟩
  · by_cases e : x = q
    · subst e
      rw [hq] at hx
      cases hx
      rw [if_pos rfl, Maps.has_put_same h.tidy.isMap hl]
      rfl
    · rw [if_neg e, Maps.has_put_other (lit_apart hx hq e), h.has x lx hx]
  · by_cases e : x = q
    · subst e
      rw [hq] at hx
      cases hx
      rw [if_pos rfl, Maps.atKey_put_same h.tidy.isMap hl]
    · rw [if_neg e, Maps.atKey_put_other (lit_apart hx hq e), h.at_ x lx z hx]
theorem Places.del {D : DataW Unit} {f : Qu → Option Nat} (h : Places D f) {q : Qu} {l : Lit} (hq : keyOf Try.prog 35 (qV q) = some l) : Places (D.del l) (fun x => if x = q then none else f x) := by
  refine ⟨h.tidy.del _, fun x lx hx => ?_, fun x lx z hx => ?_⟩
  · by_cases e : x = q
    · subst e
      rw [hq] at hx
      cases hx
      rw [if_pos rfl, Maps.has_del_same]
      rfl
    · rw [if_neg e, Maps.has_del_other (lit_apart hx hq e), h.has x lx hx]
  · by_cases e : x = q
    · subst e
      rw [hq] at hx
      cases hx
      rw [if_pos rfl, Maps.atKey_del_same]
    · rw [if_neg e, Maps.atKey_del_other (lit_apart hx hq e), h.at_ x lx z hx]
theorem Places.congr {D : DataW Unit} {f f' : Qu → Option Nat} (h : Places D f) (e : ∀ q, f q = f' q) : Places D f' := by rw [← show f = f' from funext e]; exact h
/-- Block b is the map of N places. -/
def Pm (w : World) (b N : Nat) (f : Qu → Option Nat) : Prop := ∃ D : DataW Unit, w.ownsMap Try.prog 35 (plainElem Try.prog 3) b N D ∧ Places D f ∧ Maps.size D = N
section
variable {w w' : World} {b N : Nat} {f f' : Qu → Option Nat}
theorem pm_made (w : World) : Pm (w.alloc (.map #[] 0)) w.heap.size 0 (fun _ => none) := ⟨_, World.ownsMap_made w _ _ _, places_nil, rfl⟩
theorem Pm.lt (h : Pm w b N f) : b < w.heap.size := let ⟨_, o, _⟩ := h; o.lt
theorem Pm.block (h : Pm w b N f) (hb : w'.heap[b]? = w.heap[b]?) : Pm w' b N f := let ⟨D, ⟨es, c, h0, h1⟩, t⟩ := h; ⟨D, ⟨es, c, hb.trans h0, h1⟩, t⟩
theorem Pm.congr (h : Pm w b N f) (e : ∀ q, f q = f' q) : Pm w b N f' := let ⟨D, h0, t, s⟩ := h; ⟨D, h0, t.congr e, s⟩
/-- A block of cells is no map. -/
theorem Pm.no_cell (h : Pm w b N f) {k i : Nat} {v : Value} (hc : w.cell? ⟨k, i, none⟩ = some v) : k ≠ b := fun e => by
  obtain ⟨_, ⟨es, c, h0, _⟩, _⟩ := h
  rw [e] at hc
  simp [World.cell?, h0] at hc
theorem zeroI (w : World) : (zeroValue 3).run Try.prog w = .ok (.int .i64 0) w := by kernel_rfl
theorem Pm.look (h : Pm w b N f) {q : Qu} (hq : q.Fine) : (Instr.lookup 69 (.map (some b)) (qV q) true).run Try.prog w = .ok (.tuple #[.int .i64 (((f q).getD 0 : Nat) : Int), .bool (f q).isSome]) w := by
  obtain ⟨D, h0, T, _⟩ := h
  obtain ⟨l, hl⟩ := key_q hq
  obtain ⟨v, ps, h1, h2⟩ := h0.look_ok lawQ Try.underlying69 (zeroI w) (plainElem_int Try.underlying3 (by decide)) hl
  obtain ⟨c, rfl, hc, hwc⟩ := plainElem_int_inv Try.underlying3 h2
  have hc1 := congrArg Prod.fst hc
  simp only at hc1
  rw [T.at_ q l _ hl] at hc1
  rw [h1, T.has q l hl]
  cases hf : f q with
  | none => rw [hf] at hc1; cases hc1; rfl
  | some i => rw [hf] at hc1; cases hc1; rfl
end
section
variable {ops : Array Oper} {rest : List Oper} {o : Oper} {a : Act} {Q : Exit → Act → World → Prop} {w : World} {b N : Nat} {f : Qu → Option Nat}
theorem tight {w' : World} {N' : Nat} {D : DataW Unit} {f' : Qu → Option Nat} (h : w'.ownsMap Try.prog 35 (plainElem Try.prog 3) b N' D) (T : Places D f') : Pm w' b (Maps.size D) f' := by
  obtain ⟨es, c, h0, F, hs, hD⟩ := h
  refine ⟨D, ⟨es, c, h0, F, ?_, hD⟩, T, rfl⟩
  rw [hD, Maps.size_eq, length_read]
  exact Nat.le_refl _
theorem wpList_pm_put (hg : o.guard = none) (m x v : Operand) (hop : o.op = Op.mapUpdate 69 m x v) (q : Qu) (hq : q.Fine) (i : Nat) (hi : i < 1000) (hm : a.eval m = .map (some b)) (hI : Pm w b N f) (hn : N < 1000) (hx : a.eval x = qV q) (hv : a.eval v = .int .i64 (i : Nat))
    (hK : ∀ w', Pm w' b (if (f q).isSome then N else N + 1) (fun x => if x = q then some i else f x) → w.mapTurned w' b → wpList Try.prog ops Q rest (a.put o.dst undef) w') : wpList Try.prog ops Q (o :: rest) a w := by
  obtain ⟨D, h0, T, hs⟩ := hI
  obtain ⟨l, hl⟩ := key_q hq
  refine wpList_mapUpdate_in w hg m x v _ hop _ _ lawQ Try.underlying69 (plainElem Try.prog 3) b N D hm h0 (by unfold maxLen; omega) _ _ _ hx hv hl _ _ (plainElem_int Try.underlying3 (by simp [Lit.wf, IntKind.min, IntKind.max, IntKind.signed, IntKind.bits]; omega)) fun w' h1 h2 => hK w' ?_ h2
  have h3 := tight h1 (T.put hl i)
  rw [Maps.size_put T.tidy, T.has q l hl, hs] at h3
  exact h3
theorem wpList_pm_del (hg : o.guard = none) (m x : Operand) (hop : o.op = Op.call { callee := Callee.builtin Builtin.delete, args := #[m, x], argTypes := #[69, 35] }) (q : Qu) (hq : q.Fine) (hm : a.eval m = .map (some b)) (hI : Pm w b N f) (hx : a.eval x = qV q)
    (hK : ∀ w', Pm w' b (if (f q).isSome then N - 1 else N) (fun x => if x = q then none else f x) → w.mapTurned w' b → wpList Try.prog ops Q rest (a.put o.dst (.tuple #[])) w') : wpList Try.prog ops Q (o :: rest) a w := by
  obtain ⟨D, h0, T, hs⟩ := hI
  obtain ⟨l, hl⟩ := key_q hq
  refine wpList_delete_own w hg m x _ _ hop _ lawQ Try.underlying69 (plainElem Try.prog 3) b N D hm h0 _ _ hx hl fun w' h1 h2 => hK w' ?_ h2
  have h3 := tight h1 (T.del hl)
  have a1 := Maps.size_del (k := l) T.tidy
  rw [T.has q l hl, hs] at a1
  have e : Maps.size (D.del l) = if (f q).isSome then N - 1 else N := by
    split
    · rename_i h4; rw [if_pos h4] at a1; omega
    · rename_i h4; rw [if_neg h4] at a1; omega
  rw [e] at h3
  exact h3
end
end Go.Proofs.Ytjjanogfcfapcaa
