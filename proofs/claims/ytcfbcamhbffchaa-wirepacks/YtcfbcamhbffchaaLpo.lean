/- A slice of parts (derricklaw03.Part) as an argument is read. -/
import Derived.Test.YtcfbcamhbffchaaLpt
import Derived.ProofKit
import Derived.OpenShut
import Derived.Deep.SlicePairs
import Derived.Deep.Strs
import Derived.Carry
namespace Go.Proofs.Ytcfbcamhbffchaa
open Go.ChangeShapes Go.WideShapes Go.ChangeAt Go.RowKit Go.Deep
set_option linter.unusedVariables false
theorem laidOut : laidOutB Try.prog = true := by kernel_rfl
theorem readP : Try.prog.readableRec 22 = true := by kernel_rfl
theorem sizeP : 22 < Try.prog.types.size := by decide +kernel
theorem cell_lt {w : World} {p : Addr} {v : Value} (h : w.cell? p = some v) : p.block < w.heap.size := by
  rcases Nat.lt_or_ge p.block w.heap.size with h1 | h1
  · exact h1
  · unfold World.cell? at h
    rw [Array.getElem?_eq_none h1] at h
    cases h

set_option maxRecDepth 100000 in
theorem open_parts {H : Type} {enc : TypeId × Value → H} {W : World} {base : Nat} {v : Value} {d : DataW H} {ps0 : List MemPlace} (hok : Value.okWide Try.prog W .any base 22 v) (h : DataW.Trod enc Try.prog W 0 (fun _ => true) true 22 v d ps0) :
    ∃ (A : Option Addr) (cap : Nat) (ps : List (ByteArray × Bool)), v = .slice A ps.length cap ∧ Parts W A ps ∧ ps.length ≤ 9223372036854775807 ∧ ∀ p ∈ ps, p.1.size ≤ 9223372036854775807 := by
  obtain ⟨a0, len, cap, rfl⟩ := okWide_slice Try.underlying22 hok
  obtain ⟨fuel, hf⟩ := h
  rcases open_slice_pairs Try.underlying22 Try.underlying34 (by kernel_rfl) rfl rfl (by kernel_rfl) (by kernel_rfl) hf with ⟨hcs, hx⟩ | ⟨a, len', cap', m, n, V0, V1, D0, D1, P0, P1, hcs, _, hl, hm, hmm, hx, hcell⟩
  · simp [Value.cells] at hcs
    obtain ⟨rfl, rfl, rfl⟩ := hcs
    exact ⟨none, 0, [], rfl, fun j hj => absurd hj (by simp), by simp, fun p hp => by cases hp⟩
  · simp [Value.cells] at hcs
    obtain ⟨rfl, rfl, rfl⟩ := hcs
    simp only [if_true] at hmm
    have each : ∀ i, i < m → ∃ q : ByteArray × Bool, V0 i = .string q.1 ∧ V1 i = .bool q.2 ∧ q.1.size ≤ maxLen := fun i hi => by
      obtain ⟨h1, h2, h3, h4⟩ := hcell i hi
      obtain ⟨s, g1, _, g3⟩ := DataW.trod_string Try.underlying9 h3
      obtain ⟨b, g4, _⟩ := DataW.trod_bool Try.underlying4 h4
      exact ⟨(s, b), by simpa using g1, by simpa using g4, g3⟩
    obtain ⟨Q, hQ⟩ := choose_lt each
    refine ⟨some a, cap, (List.range len).map Q, by simp, fun j hj => ?_, by simp; unfold maxLen at hm; omega, fun p hp => ?_⟩
    · have hj' : j < len := by simpa using hj
      obtain ⟨h1, h2, _⟩ := hcell j (by omega)
      obtain ⟨g1, g2, _⟩ := hQ j (by omega)
      rw [g1] at h1
      rw [g2] at h2
      have hlt := cell_lt h1
      rw [add_block] at hlt
      obtain ⟨sb, so, spot⟩ := a
      have hspot : spot = none := by simpa [Addr.add] using World.cell?_spot (hcell 0 (by omega)).1
      subst hspot
      rw [add_plain] at h1 h2
      exact ⟨sb, so, rfl, hlt, by simpa using h1, by simpa [Nat.add_assoc] using h2⟩
    · obtain ⟨i, hi, rfl⟩ := List.mem_map.1 hp
      have hi' := List.mem_range.1 hi
      have := (hQ i (by omega)).2.2
      unfold maxLen at this
      omega
end Go.Proofs.Ytcfbcamhbffchaa
