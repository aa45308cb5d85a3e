/- Deeds (derricklaw10.Deed), and slices of them, as arguments are read. -/
import Derived.Test.YtpoienhmnaeaiaaSon
import Derived.ProofKit
import Derived.OpenShut
import Derived.Deep.Slices
import Derived.Deep.SlicePairs
import Derived.Carry
namespace Go.Proofs.Ytpoienhmnaeaiaa
open Go.ChangeShapes Go.WideShapes Go.ChangeAt Go.RowKit Go.Deep
set_option linter.unusedVariables false
theorem laidOut : laidOutB Try.prog = true := by kernel_rfl
theorem readD : Try.prog.readableRec 35 = true := by kernel_rfl
theorem sizeD : 35 < Try.prog.types.size := by decide +kernel
theorem readZ : Try.prog.readableRec 22 = true := by kernel_rfl
theorem sizeZ : 22 < Try.prog.types.size := by decide +kernel
theorem cellD : Try.prog.cellsOf 35 = 3 := by kernel_rfl
theorem cellT : Try.prog.cellsOf 9 = 1 := by kernel_rfl
theorem cellI : Try.prog.cellsOf 3 = 1 := by kernel_rfl
def df (d : De) : List Value := [.int .i64 d.k, .int .i64 d.i, .string d.x]
instance : Inhabited De := ⟨⟨0, 0, ⟨#[]⟩⟩⟩
theorem cell_lt {w : World} {p : Addr} {v : Value} (h : w.cell? p = some v) : p.block < w.heap.size := cell_size h
section
variable {H : Type} {enc : TypeId × Value → H} {w : World} {base : Nat} {sp : Nat → Bool} {held : Bool}
set_option maxRecDepth 100000 in
theorem deed_cells {fuel : Nat} {cs : List Value} {x : DataW H × List MemPlace} (h : DataW.trod enc Try.prog w base sp held fuel 35 cs = some x) :
    ∃ d : De, cs = df d := by
  obtain ⟨xs, n, _, _, hlen, hxl, hf⟩ := DataW.trod_struct Try.underlying35 h
  rw [cellD] at hlen
  have hxl' : xs.length = 3 := hxl
  have h0 : DataW.trod enc Try.prog w base sp held n 3 ((cs.drop 0).take (Try.prog.cellsOf 3)) = xs[0]? := hf 0 _ rfl
  have h1 : DataW.trod enc Try.prog w base sp held n 3 ((cs.drop 1).take (Try.prog.cellsOf 3)) = xs[1]? := hf 1 _ rfl
  have h2 : DataW.trod enc Try.prog w base sp held n 9 ((cs.drop 2).take (Try.prog.cellsOf 9)) = xs[2]? := hf 2 _ rfl
  rw [List.getElem?_eq_getElem (by omega), cellI] at h0 h1
  rw [List.getElem?_eq_getElem (by omega), cellT] at h2
  match cs, hlen with
  | [v0, v1, v2], _ =>
    obtain ⟨a0, e0, _, s0⟩ := DataW.trod_int Try.underlying3 h0
    obtain ⟨a1, e1, _, s1⟩ := DataW.trod_int Try.underlying3 h1
    obtain ⟨a2, e2, _, s2⟩ := DataW.trod_string Try.underlying9 h2
    simp at e0 e1 e2
    exact ⟨⟨a0, a1, a2⟩, by rw [e0, e1, e2]; rfl⟩
end
section
variable {H : Type} {enc : TypeId × Value → H} {W : World}
theorem deeds_cell {fuel : Nat} {c : Value} {x : DataW H × List MemPlace} (hf : DataW.trod enc Try.prog W 0 (fun _ => true) true fuel 22 [c] = some x) : ∃ A cap l, c = .slice A l.length cap ∧ Ds W A cap l := by
  rcases open_slice Try.underlying22 hf with ⟨hcs, hx⟩ | ⟨a, len, cap, m, n, D, Pl, hcs, _, hl, hm, hmm, hx, hi⟩
  · simp at hcs
    subst hcs
    exact ⟨none, 0, [], rfl, ⟨fun j h => absurd h (by simp)⟩⟩
  · simp at hcs
    subst hcs
    simp only [if_true] at hmm
    rw [cellD] at hi
    have each : ∀ i, i < len → ∃ d : De, W.cells? 0 (a.add (i * 3)) 3 = some (df d) := fun i hil => by
      obtain ⟨cs', g1, g2⟩ := hi i (by omega)
      obtain ⟨d, rfl⟩ := deed_cells g2
      exact ⟨d, g1⟩
    obtain ⟨Q, hQ⟩ := choose_lt each
    refine ⟨some a, cap, (List.range len).map Q, by simp, ⟨fun j hj => ?_⟩⟩
    rw [List.length_map, List.length_range] at hj
    simp only [List.getElem_map, List.getElem_range]
    obtain ⟨_, _, hat⟩ := World.cells?_some (hQ j hj)
    obtain ⟨sb, so, spot⟩ := a
    have q0 := hat 0 (by omega)
    have q1 := hat 1 (by omega)
    have q2 := hat 2 (by omega)
    obtain ⟨_, _, hatz⟩ := World.cells?_some (hQ 0 (by omega))
    have qz := hatz 0 (by omega)
    have hspot : spot = none := by simpa [Addr.add] using World.cell?_spot (qz.trans rfl)
    clear qz hatz
    subst hspot
    rw [add_plain, add_plain] at q0 q1 q2
    exact ⟨sb, so, rfl, cell_lt (q0.trans rfl), q0.trans rfl, q1.trans rfl, q2.trans rfl⟩
end
theorem open_deeds {H : Type} {enc : TypeId × Value → H} {W : World} {base : Nat} {v : Value} {d : DataW H} {ps : List MemPlace} (hok : Value.okWide Try.prog W .any base 22 v) (h : DataW.Trod enc Try.prog W 0 (fun _ => true) true 22 v d ps) :
    ∃ A cap l, v = .slice A l.length cap ∧ Ds W A cap l := by
  obtain ⟨a0, len, cap, rfl⟩ := okWide_slice Try.underlying22 hok
  obtain ⟨fuel, hf⟩ := h
  exact deeds_cell hf
theorem open_deed {H : Type} {enc : TypeId × Value → H} {W : World} {base : Nat} {v : Value} {d : DataW H} {ps : List MemPlace} (hok : Value.okWide Try.prog W .any base 35 v) (h : DataW.Trod enc Try.prog W 0 (fun _ => true) true 35 v d ps) :
    ∃ k i x, v = .agg #[.int .i64 k, .int .i64 i, .string x] := by
  obtain ⟨cs, rfl, hsz⟩ := okWide_struct Try.underlying35 hok
  obtain ⟨fuel, hf⟩ := h
  obtain ⟨r, hr⟩ := deed_cells hf
  refine ⟨r.k, r.i, r.x, ?_⟩
  have : cs.toList = [.int .i64 r.k, .int .i64 r.i, .string r.x] := by simpa [Value.cells, df] using hr
  rw [← this]
theorem ba_len (s : ByteArray) : s.data.toList.length = s.size := by simp
theorem nat_u8 {n : Int} (h : (Lit.int .u8 n).wf = true) : ∃ k : Nat, n = k ∧ k < 256 := by
  simp [Lit.wf, IntKind.min, IntKind.max, IntKind.signed, IntKind.bits] at h
  exact ⟨n.toNat, by omega, by omega⟩
end Go.Proofs.Ytpoienhmnaeaiaa
