/- Deeds (derricklaw11.Deed), slices of them, and slices of ints, as arguments are read. Made ahead for stage 11. -/
import Derived.Test.YtdhahienhlknoaaWhc
import Derived.ProofKit
import Derived.OpenShut
import Derived.Deep.Slices
import Derived.Deep.SlicePairs
import Derived.Carry
namespace Go.Proofs.Ytdhahienhlknoaa
open Go.ChangeShapes Go.WideShapes Go.ChangeAt Go.RowKit Go.Deep
set_option linter.unusedVariables false
theorem laidOut : laidOutB Try.prog = true := by kernel_rfl
theorem readD : Try.prog.readableRec 32 = true := by kernel_rfl
theorem sizeD : 32 < Try.prog.types.size := by decide +kernel
theorem readZ : Try.prog.readableRec 22 = true := by kernel_rfl
theorem sizeZ : 22 < Try.prog.types.size := by decide +kernel
theorem cellD : Try.prog.cellsOf 32 = 3 := by kernel_rfl
theorem cellT : Try.prog.cellsOf 30 = 1 := by kernel_rfl
theorem cellI : Try.prog.cellsOf 3 = 1 := by kernel_rfl
/-- A deed: its kind, an id, a time. -/
structure De where
  k : Int
  i : Int
  t : Nat
def df (d : De) : List Value := [.int .i64 d.k, .int .i64 d.i, .int .u64 (d.t : Nat)]
instance : Inhabited De := ⟨⟨0, 0, 0⟩⟩
/-- A slice of deeds. -/
structure Ds (w : World) (A : Option Addr) (cap : Nat) (l : List De) : Prop where
  has : ∀ j (h : j < l.length), ∃ b off, A = some ⟨b, off, none⟩ ∧ b < w.heap.size ∧ w.cell? ⟨b, off + j * 3, none⟩ = some (.int .i64 l[j].k) ∧ w.cell? ⟨b, off + j * 3 + 1, none⟩ = some (.int .i64 l[j].i) ∧ w.cell? ⟨b, off + j * 3 + 2, none⟩ = some (.int .u64 (l[j].t : Nat))
  small : ∀ d ∈ l, d.t < 18446744073709551616
  wi : ∀ d ∈ l, (Lit.int .i64 d.i).wf = true
theorem cell_size {w : World} {p : Addr} {v : Value} (h : w.cell? p = some v) : p.block < w.heap.size := by
  rcases Nat.lt_or_ge p.block w.heap.size with h1 | h1
  · exact h1
  · unfold World.cell? at h
    rw [Array.getElem?_eq_none h1] at h
    cases h
theorem nat_u64 {n : Int} (h : (Lit.int .u64 n).wf = true) : ∃ k : Nat, n = k ∧ k < 18446744073709551616 := by
  simp [Lit.wf, IntKind.min, IntKind.max, IntKind.signed, IntKind.bits] at h
  exact ⟨n.toNat, by omega, by omega⟩
theorem cell_lt {w : World} {p : Addr} {v : Value} (h : w.cell? p = some v) : p.block < w.heap.size := cell_size h
section
variable {H : Type} {enc : TypeId × Value → H} {w : World} {base : Nat} {sp : Nat → Bool} {held : Bool}
set_option maxRecDepth 100000 in
theorem deed_cells {fuel : Nat} {cs : List Value} {x : DataW H × List MemPlace} (h : DataW.trod enc Try.prog w base sp held fuel 32 cs = some x) :
    ∃ d : De, cs = df d ∧ d.t < 18446744073709551616 ∧ (Lit.int .i64 d.i).wf = true := by
  obtain ⟨xs, n, _, _, hlen, hxl, hf⟩ := DataW.trod_struct Try.underlying32 h
  rw [cellD] at hlen
  have hxl' : xs.length = 3 := hxl
  have h0 : DataW.trod enc Try.prog w base sp held n 3 ((cs.drop 0).take (Try.prog.cellsOf 3)) = xs[0]? := hf 0 _ rfl
  have h1 : DataW.trod enc Try.prog w base sp held n 3 ((cs.drop 1).take (Try.prog.cellsOf 3)) = xs[1]? := hf 1 _ rfl
  have h2 : DataW.trod enc Try.prog w base sp held n 30 ((cs.drop 2).take (Try.prog.cellsOf 30)) = xs[2]? := hf 2 _ rfl
  rw [List.getElem?_eq_getElem (by omega), cellI] at h0 h1
  rw [List.getElem?_eq_getElem (by omega), cellT] at h2
  match cs, hlen with
  | [v0, v1, v2], _ =>
    obtain ⟨a0, e0, _, s0⟩ := DataW.trod_int Try.underlying3 h0
    obtain ⟨a1, e1, _, s1⟩ := DataW.trod_int Try.underlying3 h1
    obtain ⟨a2, e2, _, s2⟩ := DataW.trod_int Try.underlying30 h2
    obtain ⟨k, rfl, hk⟩ := nat_u64 s2
    simp at e0 e1 e2
    exact ⟨⟨a0, a1, k⟩, by rw [e0, e1, e2]; rfl, hk, s1⟩
end
section
variable {H : Type} {enc : TypeId × Value → H} {W : World}
theorem deeds_cell {fuel : Nat} {c : Value} {x : DataW H × List MemPlace} (hf : DataW.trod enc Try.prog W 0 (fun _ => true) true fuel 22 [c] = some x) : ∃ A cap l, c = .slice A l.length cap ∧ Ds W A cap l := by
  rcases open_slice Try.underlying22 hf with ⟨hcs, hx⟩ | ⟨a, len, cap, m, n, D, Pl, hcs, _, hl, hm, hmm, hx, hi⟩
  · simp at hcs
    subst hcs
    exact ⟨none, 0, [], rfl, ⟨fun j h => absurd h (by simp), fun d h => (by cases h), fun d h => (by cases h)⟩⟩
  · simp at hcs
    subst hcs
    simp only [if_true] at hmm
    rw [cellD] at hi
    have each : ∀ i, i < len → ∃ d : De, W.cells? 0 (a.add (i * 3)) 3 = some (df d) ∧ d.t < 18446744073709551616 ∧ (Lit.int .i64 d.i).wf = true := fun i hil => by
      obtain ⟨cs', g1, g2⟩ := hi i (by omega)
      obtain ⟨d, rfl, hd⟩ := deed_cells g2
      exact ⟨d, g1, hd⟩
    obtain ⟨Q, hQ⟩ := choose_lt each
    refine ⟨some a, cap, (List.range len).map Q, by simp, ⟨fun j hj => ?_, fun d hd => (by obtain ⟨i, hi', rfl⟩ := List.mem_map.1 hd; exact (hQ i (List.mem_range.1 hi')).2.1), fun d hd => (by obtain ⟨i, hi', rfl⟩ := List.mem_map.1 hd; exact (hQ i (List.mem_range.1 hi')).2.2)⟩⟩
    rw [List.length_map, List.length_range] at hj
    simp only [List.getElem_map, List.getElem_range]
    obtain ⟨_, _, hat⟩ := World.cells?_some (hQ j hj).1
    obtain ⟨sb, so, spot⟩ := a
    have q0 := hat 0 (by omega)
    have q1 := hat 1 (by omega)
    have q2 := hat 2 (by omega)
    obtain ⟨_, _, hatz⟩ := World.cells?_some (hQ 0 (by omega)).1
    have qz := hatz 0 (by omega)
    have hspot : spot = none := by simpa [Addr.add] using World.cell?_spot (qz.trans rfl)
    clear qz hatz
    subst hspot
    rw [add_plain, add_plain] at q0 q1 q2
    exact ⟨sb, so, rfl, cell_lt (q0.trans rfl), q0.trans rfl, q1.trans rfl, q2.trans rfl⟩
end
theorem open_deeds {H : Type} {enc : TypeId × Value → H} {W : World} {base : Nat} {v : Value} {d : DataW H} {ps : List MemPlace} (hok : Value.okWide Try.prog W .any base 22 v) (h : DataW.Trod enc Try.prog W 0 (fun _ => true) true 22 v d ps) :
    ∃ A cap l, v = .slice A l.length cap ∧ Ds W A cap l := by
  obtain ⟨a0, len, cap, rfl⟩ := okWide_slice Try.underlying22 hok
  obtain ⟨fuel, hf⟩ := h
  exact deeds_cell hf
/-- A slice of ints that came in. -/
theorem ints_cell {H : Type} {enc : TypeId × Value → H} {W : World} {fuel : Nat} {c : Value} {x : DataW H × List MemPlace} (hf : DataW.trod enc Try.prog W 0 (fun _ => true) true fuel 43 [c] = some x) : ∃ A cap l, c = .slice A l.length cap ∧ NsI W A l ∧ ∀ i ∈ l, (Lit.int .i64 i).wf = true := by
  rcases open_ints Try.underlying43 Try.underlying3 cellI hf with ⟨hcs, hx⟩ | ⟨a, len, cap, zs, hcs, _, hl, hm, hz, _, hat, hwf⟩
  · simp at hcs
    subst hcs
    exact ⟨none, 0, [], rfl, fun j h => absurd h (by simp), fun i h => (by cases h)⟩
  · simp at hcs
    subst hcs
    simp only [if_true] at hz
    have hlen : (zs.take len).length = len := by rw [List.length_take]; omega
    refine ⟨some a, cap, zs.take len, by rw [hlen], fun j hj => ?_, fun i hi => hwf i (List.mem_of_mem_take hi)⟩
    have hj' : j < len := by rw [hlen] at hj; exact hj
    obtain ⟨sb, so, spot⟩ := a
    have q := hat j (by omega)
    have hspot : spot = none := by simpa [Addr.add] using World.cell?_spot (hat 0 (by omega))
    subst hspot
    rw [add_plain] at q
    refine ⟨sb, so, rfl, cell_lt q, ?_⟩
    rw [q]
    simp [List.getElem_take, List.getD_eq_getElem?_getD, List.getElem?_eq_getElem (show j < zs.length by omega)]
theorem open_is {H : Type} {enc : TypeId × Value → H} {W : World} {base : Nat} {v : Value} {d : DataW H} {ps : List MemPlace} (hok : Value.okWide Try.prog W .any base 43 v) (h : DataW.Trod enc Try.prog W 0 (fun _ => true) true 43 v d ps) :
    ∃ A cap l, v = .slice A l.length cap ∧ NsI W A l ∧ ∀ i ∈ l, (Lit.int .i64 i).wf = true := by
  obtain ⟨a0, len, cap, rfl⟩ := okWide_slice Try.underlying43 hok
  obtain ⟨fuel, hf⟩ := h
  exact ints_cell hf
theorem ba_len (s : ByteArray) : s.data.toList.length = s.size := by simp
theorem nat_u8 {n : Int} (h : (Lit.int .u8 n).wf = true) : ∃ k : Nat, n = k ∧ k < 256 := by
  simp [Lit.wf, IntKind.min, IntKind.max, IntKind.signed, IntKind.bits] at h
  exact ⟨n.toNat, by omega, by omega⟩
end Go.Proofs.Ytdhahienhlknoaa
