/- What a pack is in memory; the contracts of wire.New, Add, Len and Out. -/
import Derived.Test.YtlphbeaaeeohjaaDoorRew
import Derived.Test.YtlphbeaaeeohjaaDoorOcd
import Derived.Test.YtlphbeaaeeohjaaDoorWma
import Derived.Maps.OwnSet
import Derived.Lib.AppendStr
namespace Go.Proofs.YtlphbeaaeeohjaaDoor
open Go.RowKit Go.Maps
set_option linter.unusedVariables false

/-- Blocks that are neither bytes nor a pack stay as they are. -/
def Kp (w w' : World) : Prop := ∀ (g : Nat) (cur : Array Value) (t : TypeId) (f : Nat × Nat), t ≠ 5 → t ≠ 77 → w.heap[g]? = some (.cells cur t f) → w'.heap[g]? = some (.cells cur t f)
theorem Kp.refl (w : World) : Kp w w := fun _ _ _ _ _ _ h => h
theorem Kp.trans {a b c : World} (h : Kp a b) (k : Kp b c) : Kp a c := fun g cur t f h1 h2 h3 => k g cur t f h1 h2 (h g cur t f h1 h2 h3)
theorem heap_lt {w : World} {g : Nat} {o : Obj} (h : w.heap[g]? = some o) : g < w.heap.size := (Array.getElem?_eq_some_iff.1 h).1
theorem Kp.below {w w' : World} (h : Below w.heap.size w w') : Kp w w' := fun g cur t f _ _ hg => (h.block g (heap_lt hg)).trans hg
theorem grown_set (w : World) (a : Addr) (u : Value) : w.grownBy (w.setCell a u) (some a.block) :=
  ⟨rfl, rfl, rfl, by simp, fun k _ hne => Below.heap_setCell w a u k (fun e => hne (by rw [e]))⟩
/-- A turn of one block that is bytes, or a pack. -/
theorem Kp.grown {w w' : World} {row : Option Nat} (hg : w.grownBy w' row) (hr : ∀ g, row = some g → (∃ cur f, w.heap[g]? = some (.cells cur 5 f)) ∨ (∃ cur f, w.heap[g]? = some (.cells cur 77 f)) ∨ (∃ es c, w.heap[g]? = some (.map es c))) : Kp w w' := by
  intro g cur t f h5 hP h
  rw [hg.block g (heap_lt h) (fun e => ?_)]
  · exact h
  · rcases hr g e.symm with ⟨c, f', h'⟩ | ⟨c, f', h'⟩ | ⟨c, f', h'⟩ <;> rw [h] at h' <;> cases h'
    · exact h5 rfl
    · exact hP rfl

/-- The known names in a map. -/
def IsM (B : Nat) (mv : Value) (L : Kn) (w : World) : Prop :=
  (mv = .map none ∧ L = []) ∨ ∃ b n, ∃ D : DataW Unit, mv = .map (some b) ∧ B ≤ b ∧ w.ownsMap Tryd.prog 9 (plainElem Tryd.prog 3) b n D ∧ n ≤ L.length ∧
    ∀ k, has D (.string k) = (fnd L k).isSome ∧ ∀ a, fnd L k = some a → D.atKey (.string k) (.lit (.int .i64 0)) = .lit (.int .i64 (a : Nat))
/-- A pack in a block holds these bytes, and knows these names. -/
def IsP (B b : Nat) (S : List UInt8) (L : Kn) (w : World) : Prop :=
  B ≤ b ∧ ∃ v mv, w.heap[b]? = some (.cells #[v, mv] 77 (0, 0)) ∧ w.ownsRow B 5 1 v S.length (Lib.byteCells S) ∧ IsM B mv L w

theorem row_is {w : World} {B : Nat} {v : Value} {n : Nat} {xs : List Value} (h : w.ownsRow B 5 1 v n xs) : ∀ g, v.ownBlock = some g → B ≤ g ∧ ∃ cur, w.heap[g]? = some (.cells cur 5 (0, 0)) := by
  intro g hg
  rcases h.2 with ⟨rfl, _⟩ | ⟨g', cap, cur, rfl, hb, hgg, _⟩
  · cases hg
  · cases hg
    exact ⟨hb, cur, hgg⟩
theorem IsM.kept {B : Nat} {mv : Value} {L : Kn} {w w' : World} {row : Option Nat} (h : IsM B mv L w) (hg : w.grownBy w' row) (hr : ∀ g, row = some g → ∃ cur t f, w.heap[g]? = some (.cells cur t f)) : IsM B mv L w' := by
  rcases h with h | ⟨b, n, D, rfl, hB, hown, rest⟩
  · exact .inl h
  · refine .inr ⟨b, n, D, rfl, hB, hown.kept hg (fun e => ?_), rest⟩
    obtain ⟨cur, t, f, h1⟩ := hr b e.symm
    obtain ⟨es, c, h2, _⟩ := hown
    rw [h1] at h2
    cases h2
theorem IsM.below {B : Nat} {mv : Value} {L : Kn} {w w' : World} (h : IsM B mv L w) (hb : Below w.heap.size w w') : IsM B mv L w' := by
  rcases h with h | ⟨b, n, D, rfl, hB, hown, rest⟩
  · exact .inl h
  · exact .inr ⟨b, n, D, rfl, hB, hown.kept (row := none) ⟨hb.os, hb.tape, hb.output, hb.size, fun k hk _ => hb.block k hk⟩ (by simp), rest⟩
theorem IsP.below {B b : Nat} {S : List UInt8} {L : Kn} {w w' : World} (h : IsP B b S L w) (hb : Below w.heap.size w w') : IsP B b S L w' := by
  obtain ⟨h1, v, mv, h2, h3, h4⟩ := h
  exact ⟨h1, v, mv, (hb.block b (heap_lt h2)).trans h2, h3.kept (row := none) ⟨hb.os, hb.tape, hb.output, hb.size, fun k hk _ => hb.block k hk⟩ (by cases v.ownBlock <;> simp), h4.below hb⟩
theorem IsP.lt {B b : Nat} {S : List UInt8} {L : Kn} {w : World} (h : IsP B b S L w) : b < w.heap.size := by
  obtain ⟨h1, v, mv, h2, _⟩ := h
  exact heap_lt h2
theorem blk_cell {w : World} {b : Nat} {cs : Array Value} {t : TypeId} (h : w.heap[b]? = some (.cells cs t (0, 0))) (i : Nat) : w.cell? ⟨b, i, none⟩ = cs[i]? := cell_of_row w b i cs t (0, 0) h
theorem blk_frozen {w : World} {b : Nat} {cs : Array Value} {t : TypeId} (h : w.heap[b]? = some (.cells cs t (0, 0))) (i : Nat) : w.frozen? ⟨b, i, none⟩ = false := by simp [World.frozen?, h]
theorem blk_set {w : World} {b : Nat} {cs : Array Value} {t : TypeId} (h : w.heap[b]? = some (.cells cs t (0, 0))) (i : Nat) (u : Value) : (w.setCell ⟨b, i, none⟩ u).heap[b]? = some (.cells (cs.setIfInBounds i u) t (0, 0)) := Oc.Blk.set_ h i u

set_option maxHeartbeats 400000 in
theorem add_any (B b : Nat) (S : List UInt8) (L : Kn) (s : ByteArray) (w : World) (h : IsP B b S L w) (hl : S.length + s.size ≤ 140737488355328) (hB : B ≤ w.heap.size) :
    Calls Tryd.prog 45 #[.pointer (some ⟨b, 0, none⟩), .string s] w fun e w' => e = .returned (.tuple #[]) ∧ IsP B b (S ++ s.data.toList) L w' ∧ Below B w w' ∧ Kp w w' := by
  obtain ⟨hBb, v, mv, hb, hrow, hm⟩ := h
  obtain ⟨A, cap, rfl⟩ := own_form hrow
  obtain ⟨i0, hi, hz0, hz1, hz2⟩ := info_parts info5
  have c0 : w.cell? ⟨b, 0, none⟩ = some (.slice A S.length cap) := blk_cell hb 0
  have hne : ∀ g, (Value.slice A S.length cap).ownBlock = some g → g ≠ b := fun g hg e => by
    obtain ⟨_, cur, h1⟩ := row_is hrow g hg
    rw [e, hb] at h1
    cases h1
  have HNE := Lib.hid hne
  have HB := Lib.hid hb
  clear hne hb
  go_enter Tryd.func45, Tryd.ntmps45
  go_wp2_with (at_builtin; refine Lib.wpList_append_own_string _ rfl _ _ 74 9 rfl B 5 i0 Tryd.underlying74 Tryd.underlying9 hi hz0 hz1 hz2 (.slice A S.length cap) _ _ rfl hrow s rfl (by unfold maxLen; omega) hl hB ?_; intro v' w1 hown' hgrow _; obtain ⟨A', cap', rfl⟩ := own_form hown'; have HB1 := Lib.hid ((hgrow.block b (heap_lt HB.out) (fun e => HNE.out b e.symm rfl)).trans HB.out); have c1 : w1.cell? ⟨b, 0, none⟩ = some (.slice A S.length cap) := blk_cell HB1.out 0; have f1 : w1.frozen? ⟨b, 0, none⟩ = false := blk_frozen HB1.out 0)
  go_end0
  have hb1 := HB1.out
  have hm1 : IsM B mv L w1 := hm.kept hgrow (fun g hg => by obtain ⟨_, cur, h1⟩ := row_is hrow g hg; exact ⟨cur, 5, (0, 0), h1⟩)
  have hset := grown_set w1 ⟨b, 0, none⟩ (.slice A' (S.length + s.size) cap')
  refine ⟨rfl, ⟨hBb, .slice A' (S.length + s.size) cap', mv, blk_set hb1 0 _, ?_, hm1.kept hset (fun g hg => by cases hg; exact ⟨_, _, _, hb1⟩)⟩, ?_, ?_⟩
  · have h1 := hown'.kept hset (by
      cases hv : (Value.slice A' (S.length + s.size) cap').ownBlock with
      | none => exact .inl rfl
      | some g =>
        refine .inr (fun e => ?_)
        obtain ⟨_, cur, h2⟩ := row_is hown' g hv
        cases e
        rw [hb1] at h2
        cases h2)
    rw [List.length_append, ba_len, Lib.byteCells_append, ← Lib.strCells_eq]
    exact h1
  · exact ((Below.refl B w).grown hgrow hB (fun k hk => (row_is hrow k hk).1)).setCell hBb _
  · refine (Kp.grown hgrow (fun g hg => ?_)).trans (Kp.grown hset (fun g hg => ?_))
    · obtain ⟨_, cur, h1⟩ := row_is hrow g hg; exact .inl ⟨cur, _, h1⟩
    · cases hg; exact .inr (.inl ⟨_, _, hb1⟩)

theorem add_nil (s : ByteArray) (w : World) : Calls Tryd.prog 45 #[.pointer none, .string s] w fun e w' => e = .returned (.tuple #[]) ∧ w = w' := by
  go_enter Tryd.func45, Tryd.ntmps45
  go_wp2_with fail
  go_end0
  exact ⟨rfl, rfl⟩

theorem new_any (w : World) : Calls Tryd.prog 21 #[] w fun e w' => e = .returned (.pointer (some ⟨w.heap.size, 0, none⟩)) ∧ IsP w.heap.size w.heap.size [] [] w' ∧ Below w.heap.size w w' := by
  go_enter Tryd.func21, Tryd.ntmps21
  go_wp2_with fail
  go_ret
  exact ⟨rfl, ⟨Nat.le_refl _, .slice none 0 0, .map none, World.alloc_heap_new w _, World.ownsRow_nil _ _ _ _, .inl ⟨rfl, rfl⟩⟩, (Below.refl _ _).alloc (Nat.le_refl _) _⟩

theorem len_any (B b : Nat) (S : List UInt8) (L : Kn) (w : World) (h : IsP B b S L w) :
    Calls Tryd.prog 27 #[.pointer (some ⟨b, 0, none⟩)] w fun e w' => e = .returned (.int .i64 (S.length : Nat)) ∧ w = w' := by
  obtain ⟨hBb, v, mv, hb, hrow, hm⟩ := h
  obtain ⟨A, cap, rfl⟩ := own_form hrow
  have c0 := blk_cell hb 0
  simp at c0
  go_enter Tryd.func27, Tryd.ntmps27
  go_wp2_with fail
  go_ret
  exact ⟨rfl, rfl⟩
theorem len_nil (w : World) : Calls Tryd.prog 27 #[.pointer none] w fun e w' => e = .returned (.int .i64 0) ∧ w = w' := by
  go_enter Tryd.func27, Tryd.ntmps27
  go_wp2_with fail
  go_ret
  exact ⟨rfl, rfl⟩
theorem out_any (B b : Nat) (S : List UInt8) (L : Kn) (w : World) (h : IsP B b S L w) :
    Calls Tryd.prog 26 #[.pointer (some ⟨b, 0, none⟩)] w fun e w' => e = .returned (.string ⟨S.toArray⟩) ∧ w = w' := by
  obtain ⟨hBb, v, mv, hb, hrow, hm⟩ := h
  have hcv := conv_own hrow
  obtain ⟨A, cap, rfl⟩ := own_form hrow
  have c0 := blk_cell hb 0
  simp at c0
  go_enter Tryd.func26, Tryd.ntmps26
  go_wp2_with fail
  go_ret
  exact ⟨rfl, rfl⟩
theorem out_nil (w : World) : Calls Tryd.prog 26 #[.pointer none] w fun e w' => e = .returned (.string ⟨#[]⟩) ∧ w = w' := by
  go_enter Tryd.func26, Tryd.ntmps26
  go_wp2_with fail
  go_ret
  exact ⟨rfl, rfl⟩
end Go.Proofs.YtlphbeaaeeohjaaDoor
