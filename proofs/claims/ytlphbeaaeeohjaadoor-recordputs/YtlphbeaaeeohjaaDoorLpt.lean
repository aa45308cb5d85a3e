/- A slice of parts (derricklaw03.Part) that comes in as an argument; the contract of derricklaw03.few. -/
import Derived.Test.YtlphbeaaeeohjaaDoorWsh
import Derived.Deep.SlicePairs
import Derived.Carry
namespace Go.Proofs.YtlphbeaaeeohjaaDoor
open Go.RowKit
set_option linter.unusedVariables false

/-- A slice's parts: each a string, and whether it is raw. -/
def Parts (w : World) (A : Option Addr) (ps : List (ByteArray × Bool)) : Prop :=
  ∀ j (h : j < ps.length), ∃ b off : Nat, A = some ⟨b, off, none⟩ ∧ b < w.heap.size ∧ w.cell? ⟨b, off + j * 2, none⟩ = some (.string ps[j].1) ∧ w.cell? ⟨b, off + j * 2 + 1, none⟩ = some (.bool ps[j].2)
theorem Parts.below {w w' : World} {A : Option Addr} {ps : List (ByteArray × Bool)} (h : Parts w A ps) (hb : Below w.heap.size w w') : Parts w' A ps := fun j hj => by
  obtain ⟨b, off, h1, h2, h3, h4⟩ := h j hj
  exact ⟨b, off, h1, Nat.lt_of_lt_of_le h2 hb.size, (hb.cell (by exact h2)).trans h3, (hb.cell (by exact h2)).trans h4⟩

def okP (p : ByteArray × Bool) : Bool := decide (p.1.size ≤ 400)
def fewB (ps : List (ByteArray × Bool)) : Bool := (ps.take 41).all okP && decide (ps.length ≤ 40)
theorem few_yes {ps : List (ByteArray × Bool)} (h : fewB ps = true) : ps.length ≤ 40 ∧ ∀ p ∈ ps, p.1.size ≤ 400 := by
  unfold fewB at h
  rw [Bool.and_eq_true, decide_eq_true_iff] at h
  refine ⟨h.2, fun p hp => ?_⟩
  rw [List.take_of_length_le (by omega)] at h
  simpa [okP] using List.all_eq_true.1 h.1 p hp

end Go.Proofs.YtlphbeaaeeohjaaDoor
