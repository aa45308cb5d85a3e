/- Records (api.RR) as arguments are read: one by value, and slices of them; slices of bools. -/
import Derived.Test.YtlphbeaaeeohjaaDoorRra
import Derived.Test.YtlphbeaaeeohjaaDoorLad
import Derived.ProofKit
import Derived.OpenShut
import Derived.Deep.Slices
import Derived.Deep.SlicePairs
import Derived.Carry
namespace Go.Proofs.YtlphbeaaeeohjaaDoor
open Go.ChangeShapes Go.WideShapes Go.ChangeAt Go.RowKit Go.Deep
set_option linter.unusedVariables false
theorem laidOut : laidOutB Tryd.prog = true := by kernel_rfl
theorem readR : Tryd.prog.readableRec 25 = true := by kernel_rfl
theorem sizeR : 25 < Tryd.prog.types.size := by decide +kernel
theorem readQ : Tryd.prog.readableRec 43 = true := by kernel_rfl
theorem sizeQ : 43 < Tryd.prog.types.size := by decide +kernel
theorem readO : Tryd.prog.readableRec 44 = true := by kernel_rfl
theorem sizeO : 44 < Tryd.prog.types.size := by decide +kernel
theorem cell25 : Tryd.prog.cellsOf 25 = 5 := by kernel_rfl
theorem cell9 : Tryd.prog.cellsOf 9 = 1 := by kernel_rfl
theorem cell22 : Tryd.prog.cellsOf 22 = 1 := by kernel_rfl
theorem cell23 : Tryd.prog.cellsOf 23 = 1 := by kernel_rfl
theorem cell4 : Tryd.prog.cellsOf 4 = 1 := by kernel_rfl
theorem nat_u32 {n : Int} (h : (Lit.int .u32 n).wf = true) : ∃ k : Nat, n = k ∧ k < 4294967296 := by
  simp [Lit.wf, IntKind.min, IntKind.max, IntKind.signed, IntKind.bits] at h
  exact ⟨n.toNat, by omega, by omega⟩
theorem cell_lt {w : World} {p : Addr} {v : Value} (h : w.cell? p = some v) : p.block < w.heap.size := by
  rcases Nat.lt_or_ge p.block w.heap.size with h1 | h1
  · exact h1
  · unfold World.cell? at h
    rw [Array.getElem?_eq_none h1] at h
    cases h
section
variable {H : Type} {enc : TypeId × Value → H} {w : World} {base : Nat} {sp : Nat → Bool} {held : Bool}
set_option maxRecDepth 100000 in
theorem rr_cells {fuel : Nat} {cs : List Value} {x : DataW H × List MemPlace} (h : DataW.trod enc Tryd.prog w base sp held fuel 25 cs = some x) :
    ∃ r : Rc, cs = [.string r.n, .int .u16 (r.k : Nat), .int .u16 (r.c : Nat), .int .u32 (r.t : Nat), .string r.d] ∧ r.Ok ∧ r.n.size ≤ maxLen ∧ r.d.size ≤ maxLen := by
  obtain ⟨xs, n, _, _, hlen, hxl, hf⟩ := DataW.trod_struct Tryd.underlying25 h
  rw [cell25] at hlen
  have hxl' : xs.length = 5 := hxl
  have h0 : DataW.trod enc Tryd.prog w base sp held n 9 ((cs.drop 0).take (Tryd.prog.cellsOf 9)) = xs[0]? := hf 0 _ rfl
  have h1 : DataW.trod enc Tryd.prog w base sp held n 22 ((cs.drop 1).take (Tryd.prog.cellsOf 22)) = xs[1]? := hf 1 _ rfl
  have h2 : DataW.trod enc Tryd.prog w base sp held n 22 ((cs.drop 2).take (Tryd.prog.cellsOf 22)) = xs[2]? := hf 2 _ rfl
  have h3 : DataW.trod enc Tryd.prog w base sp held n 23 ((cs.drop 3).take (Tryd.prog.cellsOf 23)) = xs[3]? := hf 3 _ rfl
  have h4 : DataW.trod enc Tryd.prog w base sp held n 9 ((cs.drop 4).take (Tryd.prog.cellsOf 9)) = xs[4]? := hf 4 _ rfl
  rw [List.getElem?_eq_getElem (by omega), cell9] at h0 h4
  rw [List.getElem?_eq_getElem (by omega), cell22] at h1 h2
  rw [List.getElem?_eq_getElem (by omega), cell23] at h3
  match cs, hlen with
  | [v0, v1, v2, v3, v4], _ =>
    obtain ⟨a0, e0, _, s0⟩ := DataW.trod_string Tryd.underlying9 h0
    obtain ⟨a1, e1, _, s1⟩ := DataW.trod_int Tryd.underlying22 h1
    obtain ⟨a2, e2, _, s2⟩ := DataW.trod_int Tryd.underlying22 h2
    obtain ⟨a3, e3, _, s3⟩ := DataW.trod_int Tryd.underlying23 h3
    obtain ⟨a4, e4, _, s4⟩ := DataW.trod_string Tryd.underlying9 h4
    obtain ⟨k, rfl, hk⟩ := nat_u16 s1
    obtain ⟨c, rfl, hc⟩ := nat_u16 s2
    obtain ⟨t, rfl, ht⟩ := nat_u32 s3
    simp at e0 e1 e2 e3 e4
    exact ⟨⟨a0, k, c, t, a4⟩, by rw [e0, e1, e2, e3, e4], ⟨hk, hc, ht⟩, s0, s4⟩
end
set_option maxRecDepth 100000 in
theorem open_rr {H : Type} {enc : TypeId × Value → H} {W : World} {base : Nat} {v : Value} {d : DataW H} {ps : List MemPlace} (hok : Value.okWide Tryd.prog W .any base 25 v) (h : DataW.Trod enc Tryd.prog W 0 (fun _ => true) true 25 v d ps) :
    ∃ r : Rc, v = .agg #[.string r.n, .int .u16 (r.k : Nat), .int .u16 (r.c : Nat), .int .u32 (r.t : Nat), .string r.d] ∧ r.Ok := by
  obtain ⟨cs, rfl, hsz⟩ := okWide_struct Tryd.underlying25 hok
  obtain ⟨fuel, hf⟩ := h
  obtain ⟨r, hr, hok', _⟩ := rr_cells hf
  refine ⟨r, ?_, hok'⟩
  have : cs.toList = [.string r.n, .int .u16 (r.k : Nat), .int .u16 (r.c : Nat), .int .u32 (r.t : Nat), .string r.d] := by simpa [Value.cells] using hr
  rw [← this]

/-- A record in five cells of memory. -/
def R5 (w : World) (b o : Nat) (r : Rc) : Prop := w.cell? ⟨b, o, none⟩ = some (.string r.n) ∧ w.cell? ⟨b, o + 1, none⟩ = some (.int .u16 (r.k : Nat)) ∧ w.cell? ⟨b, o + 2, none⟩ = some (.int .u16 (r.c : Nat)) ∧ w.cell? ⟨b, o + 3, none⟩ = some (.int .u32 (r.t : Nat)) ∧ w.cell? ⟨b, o + 4, none⟩ = some (.string r.d)
/-- A slice's records, and a slice's bools. -/
def Recs (w : World) (A : Option Addr) (l : List Rc) : Prop := ∀ j (h : j < l.length), ∃ b off : Nat, A = some ⟨b, off, none⟩ ∧ b < w.heap.size ∧ R5 w b (off + j * 5) l[j]
def Bools (w : World) (A : Option Addr) (l : List Bool) : Prop := ∀ j (h : j < l.length), ∃ b off : Nat, A = some ⟨b, off, none⟩ ∧ b < w.heap.size ∧ w.cell? ⟨b, off + j, none⟩ = some (.bool l[j])
theorem R5.below {B : Nat} {w w' : World} {b o : Nat} {r : Rc} (h : R5 w b o r) (hb : Below B w w') (hlt : b < B) : R5 w' b o r :=
  ⟨(hb.cell (p := ⟨b, o, none⟩) hlt).trans h.1, (hb.cell (p := ⟨b, o + 1, none⟩) hlt).trans h.2.1, (hb.cell (p := ⟨b, o + 2, none⟩) hlt).trans h.2.2.1, (hb.cell (p := ⟨b, o + 3, none⟩) hlt).trans h.2.2.2.1, (hb.cell (p := ⟨b, o + 4, none⟩) hlt).trans h.2.2.2.2⟩

instance : Inhabited Rc := ⟨Rc.zero⟩
set_option maxRecDepth 100000 in
theorem open_rrs {H : Type} {enc : TypeId × Value → H} {W : World} {base : Nat} {v : Value} {d : DataW H} {ps : List MemPlace} (hok : Value.okWide Tryd.prog W .any base 43 v) (h : DataW.Trod enc Tryd.prog W 0 (fun _ => true) true 43 v d ps) :
    ∃ (A : Option Addr) (cap : Nat) (l : List Rc), v = .slice A l.length cap ∧ Recs W A l ∧ l.length ≤ 9223372036854775807 ∧ ∀ r ∈ l, r.Ok := by
  obtain ⟨a0, len, cap, rfl⟩ := okWide_slice Tryd.underlying43 hok
  obtain ⟨fuel, hf⟩ := h
  rcases open_slice Tryd.underlying43 hf with ⟨hcs, hx⟩ | ⟨a, len', cap', m, n, D, Pl, hcs, _, hl, hm, hmm, hx, hi⟩
  · simp [Value.cells] at hcs
    obtain ⟨rfl, rfl, rfl⟩ := hcs
    exact ⟨none, 0, [], rfl, fun j hj => absurd hj (by simp), by simp, fun p hp => by cases hp⟩
  · simp [Value.cells] at hcs
    obtain ⟨rfl, rfl, rfl⟩ := hcs
    simp only [if_true] at hmm
    rw [cell25] at hi
    have each : ∀ i, i < m → ∃ r : Rc, r.Ok ∧ ∃ cs', W.cells? 0 (a.add (i * 5)) 5 = some cs' ∧ cs' = [.string r.n, .int .u16 (r.k : Nat), .int .u16 (r.c : Nat), .int .u32 (r.t : Nat), .string r.d] := fun i him => by
      obtain ⟨cs', h1, h2⟩ := hi i him
      obtain ⟨r, h3, h4, _⟩ := rr_cells h2
      exact ⟨r, h4, cs', h1, h3⟩
    obtain ⟨Q, hQ⟩ := choose_lt each
    refine ⟨some a, cap, (List.range len).map Q, by simp, fun j hj => ?_, by simp; unfold maxLen at hm; omega, fun p hp => ?_⟩
    · have hj' : j < len := by simpa using hj
      obtain ⟨_, cs', h1, rfl⟩ := hQ j (by omega)
      obtain ⟨_, hcl, hat⟩ := World.cells?_some h1
      have q0 := hat 0 (by omega)
      have q1 := hat 1 (by omega)
      have q2 := hat 2 (by omega)
      have q3 := hat 3 (by omega)
      have q4 := hat 4 (by omega)
      obtain ⟨_, cz, hz1, rfl⟩ := hQ 0 (by omega)
      obtain ⟨_, _, hatz⟩ := World.cells?_some hz1
      have qz := hatz 0 (by omega)
      obtain ⟨sb, so, spot⟩ := a
      have hspot : spot = none := by simpa [Addr.add] using World.cell?_spot qz
      subst hspot
      rw [add_plain, add_plain] at q0 q1 q2 q3 q4
      have hlt := cell_lt q0
      refine ⟨sb, so, rfl, hlt, ?_⟩
      simp only [List.getElem_map, List.getElem_range]
      exact ⟨by simpa using q0, by simpa using q1, by simpa using q2, by simpa using q3, by simpa using q4⟩
    · obtain ⟨i, hi', rfl⟩ := List.mem_map.1 hp
      have := List.mem_range.1 hi'
      exact (hQ i (by omega)).1

set_option maxRecDepth 100000 in
theorem open_bools {H : Type} {enc : TypeId × Value → H} {W : World} {base : Nat} {v : Value} {d : DataW H} {ps : List MemPlace} (hok : Value.okWide Tryd.prog W .any base 44 v) (h : DataW.Trod enc Tryd.prog W 0 (fun _ => true) true 44 v d ps) :
    ∃ (A : Option Addr) (cap : Nat) (l : List Bool), v = .slice A l.length cap ∧ Bools W A l ∧ l.length ≤ 9223372036854775807 := by
  obtain ⟨a0, len, cap, rfl⟩ := okWide_slice Tryd.underlying44 hok
  obtain ⟨fuel, hf⟩ := h
  rcases open_slice Tryd.underlying44 hf with ⟨hcs, hx⟩ | ⟨a, len', cap', m, n, D, Pl, hcs, _, hl, hm, hmm, hx, hi⟩
  · simp [Value.cells] at hcs
    obtain ⟨rfl, rfl, rfl⟩ := hcs
    exact ⟨none, 0, [], rfl, fun j hj => absurd hj (by simp), by simp⟩
  · simp [Value.cells] at hcs
    obtain ⟨rfl, rfl, rfl⟩ := hcs
    simp only [if_true] at hmm
    rw [cell4] at hi
    have each : ∀ i, i < m → ∃ b : Bool, W.cells? 0 (a.add (i * 1)) 1 = some [.bool b] := fun i him => by
      obtain ⟨cs', h1, h2⟩ := hi i him
      obtain ⟨b, rfl, _⟩ := DataW.trod_bool Tryd.underlying4 h2
      exact ⟨b, h1⟩
    obtain ⟨Q, hQ⟩ := choose_lt each
    refine ⟨some a, cap, (List.range len).map Q, by simp, fun j hj => ?_, by simp; unfold maxLen at hm; omega⟩
    have hj' : j < len := by simpa using hj
    obtain ⟨_, hcl, hat⟩ := World.cells?_some (hQ j (by omega))
    have q0 := hat 0 (by omega)
    obtain ⟨_, _, hatz⟩ := World.cells?_some (hQ 0 (by omega))
    have qz := hatz 0 (by omega)
    obtain ⟨sb, so, spot⟩ := a
    have hspot : spot = none := by simpa [Addr.add] using World.cell?_spot qz
    subst hspot
    rw [add_plain, add_plain] at q0
    have hlt := cell_lt q0
    refine ⟨sb, so, rfl, hlt, ?_⟩
    simp only [List.getElem_map, List.getElem_range]
    simpa using q0
end Go.Proofs.YtlphbeaaeeohjaaDoor
