/- Slices of items (derricklaw04.Item) and of strings as arguments are read. -/
import Derived.Test.YtccmppnindkgfaaDoorLim
import Derived.Test.YtccmppnindkgfaaDoorLad
import Derived.ProofKit
import Derived.OpenShut
import Derived.Deep.SlicePairs
import Derived.Deep.Strs
import Derived.Carry
namespace Go.Proofs.YtccmppnindkgfaaDoor
open Go.ChangeShapes Go.WideShapes Go.ChangeAt Go.RowKit Go.Deep
set_option linter.unusedVariables false
theorem laidOut : laidOutB Tryd.prog = true := by kernel_rfl
theorem readT : Tryd.prog.readableRec 33 = true := by kernel_rfl
theorem sizeT : 33 < Tryd.prog.types.size := by decide +kernel
theorem readL : Tryd.prog.readableRec 46 = true := by kernel_rfl
theorem sizeL : 46 < Tryd.prog.types.size := by decide +kernel
theorem cells9' : Tryd.prog.cellsOf 9 = 1 := by kernel_rfl
theorem bytes9 : Tryd.prog.bytesOf 9 = 16 := by kernel_rfl
theorem cell_lt {w : World} {p : Addr} {v : Value} (h : w.cell? p = some v) : p.block < w.heap.size := by
  rcases Nat.lt_or_ge p.block w.heap.size with h1 | h1
  · exact h1
  · unfold World.cell? at h
    rw [Array.getElem?_eq_none h1] at h
    cases h

set_option maxRecDepth 100000 in
theorem open_lbs {H : Type} {enc : TypeId × Value → H} {W : World} {base : Nat} {v : Value} {d : DataW H} {ps : List MemPlace} (hok : Value.okWide Tryd.prog W .any base 46 v) (h : DataW.Trod enc Tryd.prog W 0 (fun _ => true) true 46 v d ps) :
    ∃ (A : Option Addr) (cap : Nat) (ls : List ByteArray), v = .slice A ls.length cap ∧ Go.Proofs.YtccmppnindkgfaaDoor.Strs W A ls ∧ (ls = [] ∨ ∃ el sp, d = .slice el sp ∧ el.length = ls.length) := by
  obtain ⟨a0, len, cap, rfl⟩ := okWide_slice Tryd.underlying46 hok
  obtain ⟨fuel, hf⟩ := h
  rcases open_strs Tryd.underlying46 Tryd.underlying9 cells9' hf with ⟨hcs, hx⟩ | ⟨a, len', cap', m, Sx, hcs, _, hl, hm, hmm, hx, hcell⟩
  · simp [Value.cells] at hcs
    obtain ⟨rfl, rfl, rfl⟩ := hcs
    exact ⟨none, 0, [], rfl, fun j hj => absurd hj (by simp), .inl rfl⟩
  · simp [Value.cells] at hcs
    obtain ⟨rfl, rfl, rfl⟩ := hcs
    simp only [if_true] at hmm
    simp only [Prod.mk.injEq] at hx
    refine ⟨some a, cap, (List.range len).map Sx, by simp, fun j hj => ?_, .inr ⟨_, _, hx.1, by simp⟩⟩
    have hj' : j < len := by simpa using hj
    have hc := (hcell j (by omega)).1
    refine ⟨a, rfl, ?_, by simpa using hc⟩
    have := cell_lt hc
    rwa [add_block] at this

set_option maxRecDepth 100000 in
theorem open_items {H : Type} {enc : TypeId × Value → H} {W : World} {base : Nat} {v : Value} {d : DataW H} {ps0 : List MemPlace} (hok : Value.okWide Tryd.prog W .any base 33 v) (h : DataW.Trod enc Tryd.prog W 0 (fun _ => true) true 33 v d ps0) :
    ∃ (A : Option Addr) (cap : Nat) (l : List (Nat × ByteArray)), v = .slice A l.length cap ∧ Items W A l ∧ l.length ≤ 9223372036854775807 ∧ ∀ p ∈ l, p.1 < 65536 ∧ p.2.size ≤ 9223372036854775807 := by
  obtain ⟨a0, len, cap, rfl⟩ := okWide_slice Tryd.underlying33 hok
  obtain ⟨fuel, hf⟩ := h
  rcases open_slice_pairs Tryd.underlying33 Tryd.underlying40 (by kernel_rfl) rfl rfl (by kernel_rfl) (by kernel_rfl) hf with ⟨hcs, hx⟩ | ⟨a, len', cap', m, n, V0, V1, D0, D1, P0, P1, hcs, _, hl, hm, hmm, hx, hcell⟩
  · simp [Value.cells] at hcs
    obtain ⟨rfl, rfl, rfl⟩ := hcs
    exact ⟨none, 0, [], rfl, fun j hj => absurd hj (by simp), by simp, fun p hp => by cases hp⟩
  · simp [Value.cells] at hcs
    obtain ⟨rfl, rfl, rfl⟩ := hcs
    simp only [if_true] at hmm
    have each : ∀ i, i < m → ∃ q : Nat × ByteArray, V0 i = .int .u16 (q.1 : Nat) ∧ V1 i = .string q.2 ∧ q.1 < 65536 ∧ q.2.size ≤ maxLen := fun i hi => by
      obtain ⟨h1, h2, h3, h4⟩ := hcell i hi
      obtain ⟨z, g1, _, g2⟩ := DataW.trod_int Tryd.underlying22 h3
      obtain ⟨k, rfl, hk⟩ := nat_u16 g2
      obtain ⟨s, g3, _, g5⟩ := DataW.trod_string Tryd.underlying9 h4
      exact ⟨(k, s), by simpa using g1, by simpa using g3, hk, g5⟩
    obtain ⟨Q, hQ⟩ := choose_lt each
    refine ⟨some a, cap, (List.range len).map Q, by simp, fun j hj => ?_, by simp; unfold maxLen at hm; omega, fun p hp => ?_⟩
    · have hj' : j < len := by simpa using hj
      obtain ⟨h1, h2, _⟩ := hcell j (by omega)
      obtain ⟨g1, g2, _⟩ := hQ j (by omega)
      rw [g1] at h1
      rw [g2] at h2
      have hlt := cell_lt h1
      rw [add_block] at hlt
      obtain ⟨sb, so, spot⟩ := a
      have hspot : spot = none := by simpa [Addr.add] using World.cell?_spot (hcell 0 (by omega)).1
      subst hspot
      rw [add_plain] at h1 h2
      exact ⟨sb, so, rfl, hlt, by simpa using h1, by simpa [Nat.add_assoc] using h2⟩
    · obtain ⟨i, hi, rfl⟩ := List.mem_map.1 hp
      have hi' := List.mem_range.1 hi
      have := (hQ i (by omega)).2.2
      unfold maxLen at this
      exact ⟨this.1, by omega⟩
end Go.Proofs.YtccmppnindkgfaaDoor
