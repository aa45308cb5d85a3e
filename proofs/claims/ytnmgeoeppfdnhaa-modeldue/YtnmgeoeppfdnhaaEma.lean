/- The map of entries: questions to entries, each held as it is. -/
import Derived.Test.YtnmgeoeppfdnhaaBqa
import Derived.Maps.OwnSet
import Derived.Maps.RangeWalk
namespace Go.Proofs.Ytnmgeoeppfdnhaa
open Go.RowKit
open Go.Maps (Keyed IsMap Tidy)
set_option linter.unusedVariables false

/-- How an entry in the map reads: as itself. -/
def heldE (v : Value) : Option (DataW Value × List MemPlace) := some (.held v, [])
theorem heldE_inv {v : Value} {d : DataW Value} {ps : List MemPlace} (h : heldE v = some (d, ps)) : d = .held v := by
  unfold heldE at h
  cases h
  rfl
/-- The map's datum holds just the entries that f tells. -/
structure Ents (D : DataW Value) (f : Qu → Option Ev) : Prop where
  tidy : Tidy D
  has : ∀ q l, keyOf Try.prog 25 (qV q) = some l → Maps.has D l = (f q).isSome
  at_ : ∀ q l z, keyOf Try.prog 25 (qV q) = some l → D.atKey l z = match f q with | some x => .held (evV x) | none => z
theorem ents_nil : Ents (.map []) (fun _ => none) := ⟨Maps.tidy_empty, fun _ _ _ => rfl, fun _ _ _ _ => rfl⟩
theorem Ents.put {D : DataW Value} {f : Qu → Option Ev} (h : Ents D f) {q : Qu} {l : Lit} (hq : keyOf Try.prog 25 (qV q) = some l) (e : Ev) : Ents (D.put l (.held (evV e))) (fun x => if x = q then some e else f x) := by
  have hl := lawQ.key hq
  refine ⟨h.tidy.put hl _, fun x lx hx => ?_, fun x lx z hx => ?_⟩
  · by_cases e : x = q
    · subst e
      rw [hq] at hx
      cases hx
      rw [if_pos rfl, Maps.has_put_same h.tidy.isMap hl]
      rfl
    · rw [if_neg e, Maps.has_put_other (lit_apart hx hq e), h.has x lx hx]
  · by_cases e : x = q
    · subst e
      rw [hq] at hx
      cases hx
      rw [if_pos rfl, Maps.atKey_put_same h.tidy.isMap hl]
    · rw [if_neg e, Maps.atKey_put_other (lit_apart hx hq e), h.at_ x lx z hx]
theorem Ents.del {D : DataW Value} {f : Qu → Option Ev} (h : Ents D f) {q : Qu} {l : Lit} (hq : keyOf Try.prog 25 (qV q) = some l) : Ents (D.del l) (fun x => if x = q then none else f x) := by
  refine ⟨h.tidy.del _, fun x lx hx => ?_, fun x lx z hx => ?_⟩
  · by_cases e : x = q
    · subst e
      rw [hq] at hx
      cases hx
      rw [if_pos rfl, Maps.has_del_same]
      rfl
    · rw [if_neg e, Maps.has_del_other (lit_apart hx hq e), h.has x lx hx]
  · by_cases e : x = q
    · subst e
      rw [hq] at hx
      cases hx
      rw [if_pos rfl, Maps.atKey_del_same]
    · rw [if_neg e, Maps.atKey_del_other (lit_apart hx hq e), h.at_ x lx z hx]
theorem Ents.congr {D : DataW Value} {f f' : Qu → Option Ev} (h : Ents D f) (e : ∀ q, f q = f' q) : Ents D f' := by rw [← show f = f' from funext e]; exact h
/-- Block b is the map of N entries. -/
def Em (w : World) (b N : Nat) (f : Qu → Option Ev) : Prop := ∃ D : DataW Value, w.ownsMap Try.prog 25 heldE b N D ∧ Ents D f ∧ Maps.size D = N
section
variable {w w' : World} {b N : Nat} {f f' : Qu → Option Ev}
theorem em_made (w : World) : Em (w.alloc (.map #[] 0)) w.heap.size 0 (fun _ => none) := ⟨_, World.ownsMap_made w _ _ _, ents_nil, rfl⟩
theorem Em.lt (h : Em w b N f) : b < w.heap.size := let ⟨_, o, _⟩ := h; o.lt
theorem Em.block (h : Em w b N f) (hb : w'.heap[b]? = w.heap[b]?) : Em w' b N f := let ⟨D, ⟨es, c, h0, h1⟩, t⟩ := h; ⟨D, ⟨es, c, hb.trans h0, h1⟩, t⟩
theorem Em.congr (h : Em w b N f) (e : ∀ q, f q = f' q) : Em w b N f' := let ⟨D, h0, t, s⟩ := h; ⟨D, h0, t.congr e, s⟩
theorem Em.no_cell (h : Em w b N f) {k i : Nat} {v : Value} (hc : w.cell? ⟨k, i, none⟩ = some v) : k ≠ b := fun e => by
  obtain ⟨_, ⟨es, c, h0, _⟩, _⟩ := h
  rw [e] at hc
  simp [World.cell?, h0] at hc
theorem zeroEv (w : World) : (zeroValue 35).run Try.prog w = .ok (evV default) w := by kernel_rfl
theorem Em.look (h : Em w b N f) {q : Qu} (hq : q.Fine) : (Instr.lookup 57 (.map (some b)) (qV q) true).run Try.prog w = .ok (.tuple #[evV ((f q).getD default), .bool (f q).isSome]) w := by
  obtain ⟨D, h0, T, _⟩ := h
  obtain ⟨l, hl⟩ := key_q hq
  obtain ⟨v, ps, h1, h2⟩ := h0.look_ok lawQ Try.underlying57 (zeroEv w) (zd := .held (evV default)) (zp := []) rfl hl
  have hc := heldE_inv h2
  rw [T.at_ q l _ hl] at hc
  rw [h1, T.has q l hl]
  cases hf : f q with
  | none => rw [hf] at hc; cases hc; rfl
  | some x => rw [hf] at hc; cases hc; rfl
theorem Em.len (h : Em w b N f) (ty : TypeId) : (Builtin.len_ #[57] ty #[.map (some b)]).run Try.prog w = .ok (.int .i64 (N : Nat)) w := by
  obtain ⟨D, h0, T, hs⟩ := h
  rw [h0.len Try.underlying57 ty, hs]
end
section
variable {ops : Array Oper} {rest : List Oper} {o : Oper} {a : Act} {Q : Exit → Act → World → Prop} {w : World} {b N : Nat} {f : Qu → Option Ev}
theorem em_tight {w' : World} {N' : Nat} {D : DataW Value} {f' : Qu → Option Ev} (h : w'.ownsMap Try.prog 25 heldE b N' D) (T : Ents D f') : Em w' b (Maps.size D) f' := by
  obtain ⟨es, c, h0, F, hs, hD⟩ := h
  refine ⟨D, ⟨es, c, h0, F, ?_, hD⟩, T, rfl⟩
  rw [hD, Maps.size_eq, length_read]
  exact Nat.le_refl _
theorem wpList_em_put (hg : o.guard = none) (m x v : Operand) (hop : o.op = Op.mapUpdate 57 m x v) (q : Qu) (hq : q.Fine) (e : Ev) (hm : a.eval m = .map (some b)) (hI : Em w b N f) (hn : N < 1000) (hx : a.eval x = qV q) (hv : a.eval v = evV e)
    (hK : ∀ w', Em w' b (if (f q).isSome then N else N + 1) (fun x => if x = q then some e else f x) → w.mapTurned w' b → wpList Try.prog ops Q rest (a.put o.dst undef) w') : wpList Try.prog ops Q (o :: rest) a w := by
  obtain ⟨D, h0, T, hs⟩ := hI
  obtain ⟨l, hl⟩ := key_q hq
  refine wpList_mapUpdate_in w hg m x v _ hop _ _ lawQ Try.underlying57 heldE b N D hm h0 (by unfold maxLen; omega) _ _ _ hx hv hl (.held (evV e)) [] rfl fun w' h1 h2 => hK w' ?_ h2
  have h3 := em_tight h1 (T.put hl e)
  rw [Maps.size_put T.tidy, T.has q l hl, hs] at h3
  exact h3
theorem wpList_em_del (hg : o.guard = none) (m x : Operand) (hop : o.op = Op.call { callee := Callee.builtin Builtin.delete, args := #[m, x], argTypes := #[57, 25] }) (q : Qu) (hq : q.Fine) (hm : a.eval m = .map (some b)) (hI : Em w b N f) (hx : a.eval x = qV q)
    (hK : ∀ w', Em w' b (if (f q).isSome then N - 1 else N) (fun x => if x = q then none else f x) → w.mapTurned w' b → wpList Try.prog ops Q rest (a.put o.dst (.tuple #[])) w') : wpList Try.prog ops Q (o :: rest) a w := by
  obtain ⟨D, h0, T, hs⟩ := hI
  obtain ⟨l, hl⟩ := key_q hq
  refine wpList_delete_own w hg m x _ _ hop _ lawQ Try.underlying57 heldE b N D hm h0 _ _ hx hl fun w' h1 h2 => hK w' ?_ h2
  have h3 := em_tight h1 (T.del hl)
  have a1 := Maps.size_del (k := l) T.tidy
  rw [T.has q l hl, hs] at a1
  have e : Maps.size (D.del l) = if (f q).isSome then N - 1 else N := by
    split
    · rename_i h4; rw [if_pos h4] at a1; omega
    · rename_i h4; rw [if_neg h4] at a1; omega
  rw [e] at h3
  exact h3
end
end Go.Proofs.Ytnmgeoeppfdnhaa
