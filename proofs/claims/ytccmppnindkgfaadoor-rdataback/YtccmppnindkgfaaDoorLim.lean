/- A slice of items (derricklaw04.Item): its types and data in memory. -/
import Derived.Test.YtccmppnindkgfaaDoorWpa
namespace Go.Proofs.YtccmppnindkgfaaDoor
open Go.RowKit
set_option linter.unusedVariables false

/-- A slice's items: each a type, and its data. -/
def Items (w : World) (A : Option Addr) (l : List (Nat × ByteArray)) : Prop :=
  ∀ j (h : j < l.length), ∃ b off : Nat, A = some ⟨b, off, none⟩ ∧ b < w.heap.size ∧ w.cell? ⟨b, off + j * 2, none⟩ = some (.int .u16 (l[j].1 : Nat)) ∧ w.cell? ⟨b, off + j * 2 + 1, none⟩ = some (.string l[j].2)
theorem Items.below {w w' : World} {A : Option Addr} {l : List (Nat × ByteArray)} (h : Items w A l) (hb : Below w.heap.size w w') : Items w' A l := fun j hj => by
  obtain ⟨b, off, h1, h2, h3, h4⟩ := h j hj
  exact ⟨b, off, h1, Nat.lt_of_lt_of_le h2 hb.size, (hb.cell (by exact h2)).trans h3, (hb.cell (by exact h2)).trans h4⟩
/-- The cells of one item, in every later world. -/
theorem Items.cells {w : World} {A : Option Addr} {l : List (Nat × ByteArray)} (h : Items w A l) (j : Nat) (hj : j < l.length) :
    ∃ b off, A = some ⟨b, off, none⟩ ∧ b < w.heap.size ∧ ∀ W, Below w.heap.size w W → W.cell? ⟨b, off + j * 2, none⟩ = some (.int .u16 (l[j].1 : Nat)) ∧ W.cell? ⟨b, off + j * 2 + 1, none⟩ = some (.string l[j].2) := by
  obtain ⟨b, off, h1, h2, h3, h4⟩ := h j hj
  exact ⟨b, off, h1, h2, fun W hW => ⟨(hW.cell (p := ⟨b, off + j * 2, none⟩) h2).trans h3, (hW.cell (p := ⟨b, off + j * 2 + 1, none⟩) h2).trans h4⟩⟩
end Go.Proofs.YtccmppnindkgfaaDoor
