/- The walk of derricklaw06.MessageVery: what is taken may be, and put again it is taken again as the same, if that isn't too long. -/
import Derived.Test.YtnakljbginbenaaGreatDoorMmp
import Derived.Test.YtnakljbginbenaaGreatDoorMmn
namespace Go.Proofs.YtnakljbginbenaaGreatDoor
open Go.RowKit
set_option linter.unusedVariables false

/-- A message in a box of its own. -/
def bxM (w : World) (m : Ms) (d : Ad) : World := (w.alloc (Obj.cells (msV zMs zAd) 26)).setRow w.heap.size (msV m d)
theorem bx_zero (w : World) : (w.alloc (Obj.cells (msV zMs zAd) 26)).heap[w.heap.size]? = some (.cells (msV zMs zAd) 26 (0, 0)) := World.alloc_heap_new w _
theorem bx_at (w : World) (m : Ms) (d : Ad) : (bxM w m d).heap[w.heap.size]? = some (.cells (msV m d) 26 (0, 0)) := setRow_heap _ _ _ _ _ _ (bx_zero w)
theorem bx_below (w : World) (m : Ms) (d : Ad) : Below w.heap.size w (bxM w m d) := setRow_below ((Below.refl w.heap.size w).alloc (Nat.le_refl _) _) (Nat.le_refl _) _
theorem tm_yes {s : ByteArray} (h : okT s = true) : tmM s = msT s ∧ tmE s = 0 := ⟨if_pos h, if_pos h⟩
theorem tm_no {s : ByteArray} (h : okT s = false) : tmM s = zMs ∧ tmE s = 2 := by unfold tmM tmE; rw [h]; exact ⟨rfl, rfl⟩
theorem may_sm {l : List Rc} (hl : l.length ≤ 6000) (h : ∀ r ∈ l, r.Ok ∧ mayR r = true) : Sm l := ⟨hl, fun r hr => by
  obtain ⟨h1, h2⟩ := h r hr
  unfold mayR at h2
  rw [Bool.and_eq_true] at h2
  have h3 := (may_name h2.1).size
  have h4 := h2.2
  unfold mayD at h4
  rw [Bool.and_eq_true, decide_eq_true_iff] at h4
  exact ⟨by omega, h4.1, h1⟩⟩
theorem Tk.sm {s : ByteArray} (t : Tk s) (hs : s.size ≤ 1500) : SmM (msT s) := by
  obtain ⟨h1, h2, h3, h4⟩ := t.may
  have h5 : (msT s).recs.length = (msT s).an.length + ((msT s).ns.length + (msT s).ar.length) := by unfold Ms.recs; rw [List.length_append, List.length_append]
  refine ⟨⟨by omega, fun r hr => ?_⟩, may_sm (by omega) (fun r hr => ⟨h2.an r hr, h1.an.2 r hr⟩), may_sm (by omega) (fun r hr => ⟨h2.ns r hr, h1.ns.2 r hr⟩), may_sm (by omega) (fun r hr => ⟨h2.ar r hr, h1.ar.2 r hr⟩)⟩
  obtain ⟨k1, k2⟩ := h2.q r hr
  have k3 := (may_name (h1.q.2 r hr)).size
  refine ⟨by omega, ?_, k1⟩
  rw [k2]
  show (⟨#[]⟩ : ByteArray).size ≤ _
  decide
theorem SmM.big {m : Ms} (h : SmM m) : m.q.length ≤ 9223372036854775807 ∧ m.an.length ≤ 9223372036854775807 ∧ m.ns.length ≤ 9223372036854775807 ∧ m.ar.length ≤ 9223372036854775807 := by
  have h1 := h.q.len; have h2 := h.an.len; have h3 := h.ns.len; have h4 := h.ar.len
  omega

end Go.Proofs.YtnakljbginbenaaGreatDoor
