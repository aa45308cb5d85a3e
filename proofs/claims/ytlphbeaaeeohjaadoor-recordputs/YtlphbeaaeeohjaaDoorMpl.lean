/- Records as arguments, the mathematics of packs, and the walk of derricklaw05.RecordPuts (texts of their own, joined). -/
import Derived.Test.YtlphbeaaeeohjaaDoorRpa
import Derived.Test.YtlphbeaaeeohjaaDoorRows
import Derived.ProofKit
import Derived.LaidMore
import Derived.OpenShut
import Derived.ShutString
import Derived.ChangeOld
import Derived.Stop.Joined
import Derived.Stop.LaidErr
import Derived.Lib.LaidTab
import Derived.SevenTiedAt
import Derived.SizedLaws
import Derived.Test.YtlphbeaaeeohjaaDoorRra
import Derived.Deep.Slices
import Derived.Deep.SlicePairs
import Derived.Carry
import Derived.Test.YtlphbeaaeeohjaaDoorRqs
import Derived.Test.YtlphbeaaeeohjaaDoorMpq
import Derived.Deep.QuietTactic
import Derived.BigQuiet

namespace Go.Proofs.YtlphbeaaeeohjaaDoor
open Go.ChangeShapes Go.WideShapes Go.ChangeAt Go.RowKit

theorem own : ownKnob Tryd.prog.godebug = none := by kernel_rfl
theorem gLay : Tryd.prog.globalNamed "derrick/rdata.layouts" = some 0 := by kernel_rfl
theorem tLay : (Tryd.prog.globals[0]?).map (·.type) = some 153 := by kernel_rfl
theorem c105 : Tryd.prog.cellsOf 153 = 32 := by kernel_rfl
theorem c104 : Tryd.prog.cellsOf 152 = 4 := by kernel_rfl
theorem c81 : Tryd.prog.cellsOf 143 = 3 := by kernel_rfl
theorem c80 : Tryd.prog.cellsOf 142 = 1 := by kernel_rfl
theorem c22 : Tryd.prog.cellsOf 22 = 1 := by kernel_rfl
theorem door_shaped (os : Os) (args : Array Value) : ((World.doorLaid Tryd.prog 400 os).forCall (fun _ _ => 0) ⟨#[], args, []⟩).Shaped Tryd.checked.prog := World.shaped_of_RefB (by kernel_rfl) (by kernel_rfl)
theorem door_met (os : Os) (args : Array Value) : laidMetH Tryd.prog Rows.recordVeryRow.laid ((World.doorLaid Tryd.prog 400 os).forCall (fun _ _ => 0) ⟨#[], args, []⟩).memory :=
  laidMetH_of_parts3 (fuel := 8) (laidMet_of_run' 8 (by kernel_rfl) (by kernel_rfl)) (by kernel_rfl) (by kernel_rfl)
theorem nat_u16 {n : Int} (h : (Lit.int .u16 n).wf = true) : ∃ k : Nat, n = k ∧ k < 65536 := by
  simp [Lit.wf, IntKind.min, IntKind.max, IntKind.signed, IntKind.bits] at h
  exact ⟨n.toNat, by omega, by omega⟩
theorem nat_u8 {n : Int} (h : (Lit.int .u8 n).wf = true) : ∃ k : Nat, n = k ∧ k < 256 := by
  simp [Lit.wf, IntKind.min, IntKind.max, IntKind.signed, IntKind.bits] at h
  exact ⟨n.toNat, by omega, by omega⟩
/-- A row of the table. -/
def rowD {H : Type} (r : Int × Int × Int × Int) : DataW H := .agg [.lit (.int .u16 r.1), Lib.tabData .i64 [r.2.1, r.2.2.1, r.2.2.2]]
theorem row_of {H : Type} {enc : TypeId × Value → H} {w : World} {base : Nat} {sp : Nat → Bool} {held : Bool} {fuel : Nat} {cs : List Value} {r : Int × Int × Int × Int} {q : List MemPlace}
    (h : DataW.trod enc Tryd.prog w base sp held fuel 152 cs = some (rowD r, q)) : cs = [.int .u16 r.1, .int .i64 r.2.1, .int .i64 r.2.2.1, .int .i64 r.2.2.2] := by
  obtain ⟨xs, n, rfl, hx, hlen, hxl, hf⟩ := DataW.trod_struct Tryd.underlying152 h
  rw [c104] at hlen
  have h0 : DataW.trod enc Tryd.prog w base sp held n 22 ((cs.drop 0).take (Tryd.prog.cellsOf 22)) = xs[0]? := hf 0 _ rfl
  have h1 : DataW.trod enc Tryd.prog w base sp held n 143 ((cs.drop 1).take (Tryd.prog.cellsOf 143)) = xs[1]? := hf 1 _ rfl
  rw [c22] at h0
  rw [c81] at h1
  have hd := congrArg Prod.fst hx
  simp only [rowD, DataW.agg.injEq] at hd
  have d0 : (xs.map (·.1))[0]? = some (.lit (.int .u16 r.1)) := by rw [← hd]; rfl
  have d1 : (xs.map (·.1))[1]? = some (Lib.tabData .i64 [r.2.1, r.2.2.1, r.2.2.2]) := by rw [← hd]; rfl
  rw [List.getElem?_map, Option.map_eq_some_iff] at d0 d1
  obtain ⟨x0, e0, f0⟩ := d0
  obtain ⟨x1, e1, f1⟩ := d1
  rw [e0] at h0
  rw [e1] at h1
  obtain ⟨z, hz, rfl, _⟩ := DataW.trod_int Tryd.underlying22 h0
  have hzr : z = r.1 := by
    simp only [DataW.lit.injEq, Lit.int.injEq, true_and] at f0
    exact f0
  obtain ⟨y, pl⟩ := x1
  simp only at f1
  subst f1
  have ht := Lib.cells_of_tab Tryd.underlying143 Tryd.underlying142 c80 c81 h1
  have hcs : cs = (cs.drop 0).take 1 ++ (cs.drop 1).take 3 := by
    rw [List.drop_zero, List.take_of_length_le (l := cs.drop 1) (by rw [List.length_drop]; omega), List.take_append_drop]
  rw [hcs, hz, ht, hzr]
  rfl
theorem lay_rows : (Rows.laid_derrick_rdata_layouts : DataW Unit) = .agg ((List.range 8).map fun i => rowD (layR i)) := rfl
theorem four_rows : ∀ (f : Nat → List Value) (n : Nat) (cs : List Value), cs.length = 4 * n → (∀ i, i < n → (cs.drop (i * 4)).take 4 = f i) → cs = (List.range n).flatMap f
  | f, 0, cs, h, _ => by
    rw [List.eq_nil_of_length_eq_zero h]; rfl
  | f, n + 1, cs, h, hf => by
    have h1 := four_rows f n (cs.take (4 * n)) (by rw [List.length_take]; omega) (fun i hi => by
      rw [List.drop_take, List.take_take, show min 4 (4 * n - i * 4) = 4 by omega]
      exact hf i (by omega))
    have h2 := hf n (by omega)
    rw [List.range_succ, List.flatMap_append, ← h1]
    simp only [List.flatMap_cons, List.flatMap_nil, List.append_nil]
    rw [← h2, List.take_of_length_le (l := cs.drop (n * 4)) (by rw [List.length_drop]; omega), show n * 4 = 4 * n by omega, List.take_append_drop]
theorem lay_cells {w : World} {base : Nat} {sp : Nat → Bool} {held : Bool} {fuel : Nat} {cs : List Value} {q : List MemPlace}
    (h : DataW.trod (fun _ => ()) Tryd.prog w base sp held fuel 153 cs = some (Rows.laid_derrick_rdata_layouts, q)) : cs = layC := by
  obtain ⟨xs, n, rfl, hx, hlen, hxl, hf⟩ := DataW.trod_array Tryd.underlying153 h
  rw [c105] at hlen
  have hd := congrArg Prod.fst hx
  rw [lay_rows] at hd
  simp only [DataW.agg.injEq] at hd
  refine four_rows rowV 8 cs hlen (fun i hi => ?_)
  have hi2 := hf i hi
  rw [c104] at hi2
  have di : (xs.map (·.1))[i]? = some (rowD (layR i)) := by rw [← hd]; simp [hi]
  rw [List.getElem?_map, Option.map_eq_some_iff] at di
  obtain ⟨⟨y, pl⟩, e1, f1⟩ := di
  simp only at f1
  subst f1
  rw [e1] at hi2
  exact row_of hi2
theorem lay_of {W : World} (h : laidMetH Tryd.prog Rows.recordVeryRow.laid W) : Lay W := by
  rw [MakeChecks.laidMetH_plain _ _ _ (by kernel_rfl)] at h
  obtain ⟨ps, ⟨g', t', cs, fuel, p, q, hg', ht', hvar, hd, _, _⟩, _⟩ := h
  obtain rfl := Option.some.inj (gLay.symm.trans hg')
  obtain rfl := Option.some.inj (tLay.symm.trans ht')
  have hc := lay_cells hd
  unfold World.var? at hvar
  rw [gLay, Option.bind_some] at hvar
  split at hvar
  · rename_i cs' t f hh
    cases hvar
    refine ⟨t, f, ?_⟩
    rw [hh, ← hc]
  · cases hvar
end Go.Proofs.YtlphbeaaeeohjaaDoor

namespace Go.Proofs.YtlphbeaaeeohjaaDoor
open Go.ChangeShapes Go.WideShapes Go.ChangeAt Go.RowKit Go.Deep
set_option linter.unusedVariables false
theorem laidOut : laidOutB Tryd.prog = true := by kernel_rfl
theorem readR : Tryd.prog.readableRec 25 = true := by kernel_rfl
theorem sizeR : 25 < Tryd.prog.types.size := by decide +kernel
theorem readQ : Tryd.prog.readableRec 43 = true := by kernel_rfl
theorem sizeQ : 43 < Tryd.prog.types.size := by decide +kernel
theorem readO : Tryd.prog.readableRec 44 = true := by kernel_rfl
theorem sizeO : 44 < Tryd.prog.types.size := by decide +kernel
theorem cell25 : Tryd.prog.cellsOf 25 = 5 := by kernel_rfl
theorem cell9 : Tryd.prog.cellsOf 9 = 1 := by kernel_rfl
theorem cell22 : Tryd.prog.cellsOf 22 = 1 := by kernel_rfl
theorem cell23 : Tryd.prog.cellsOf 23 = 1 := by kernel_rfl
theorem cell4 : Tryd.prog.cellsOf 4 = 1 := by kernel_rfl
theorem nat_u32 {n : Int} (h : (Lit.int .u32 n).wf = true) : ∃ k : Nat, n = k ∧ k < 4294967296 := by
  simp [Lit.wf, IntKind.min, IntKind.max, IntKind.signed, IntKind.bits] at h
  exact ⟨n.toNat, by omega, by omega⟩
theorem cell_lt {w : World} {p : Addr} {v : Value} (h : w.cell? p = some v) : p.block < w.heap.size := by
  rcases Nat.lt_or_ge p.block w.heap.size with h1 | h1
  · exact h1
  · unfold World.cell? at h
    rw [Array.getElem?_eq_none h1] at h
    cases h
section
variable {H : Type} {enc : TypeId × Value → H} {w : World} {base : Nat} {sp : Nat → Bool} {held : Bool}
set_option maxRecDepth 100000 in
theorem rr_cells {fuel : Nat} {cs : List Value} {x : DataW H × List MemPlace} (h : DataW.trod enc Tryd.prog w base sp held fuel 25 cs = some x) :
    ∃ r : Rc, cs = [.string r.n, .int .u16 (r.k : Nat), .int .u16 (r.c : Nat), .int .u32 (r.t : Nat), .string r.d] ∧ r.Ok ∧ r.n.size ≤ maxLen ∧ r.d.size ≤ maxLen := by
  obtain ⟨xs, n, _, _, hlen, hxl, hf⟩ := DataW.trod_struct Tryd.underlying25 h
  rw [cell25] at hlen
  have hxl' : xs.length = 5 := hxl
  have h0 : DataW.trod enc Tryd.prog w base sp held n 9 ((cs.drop 0).take (Tryd.prog.cellsOf 9)) = xs[0]? := hf 0 _ rfl
  have h1 : DataW.trod enc Tryd.prog w base sp held n 22 ((cs.drop 1).take (Tryd.prog.cellsOf 22)) = xs[1]? := hf 1 _ rfl
  have h2 : DataW.trod enc Tryd.prog w base sp held n 22 ((cs.drop 2).take (Tryd.prog.cellsOf 22)) = xs[2]? := hf 2 _ rfl
  have h3 : DataW.trod enc Tryd.prog w base sp held n 23 ((cs.drop 3).take (Tryd.prog.cellsOf 23)) = xs[3]? := hf 3 _ rfl
  have h4 : DataW.trod enc Tryd.prog w base sp held n 9 ((cs.drop 4).take (Tryd.prog.cellsOf 9)) = xs[4]? := hf 4 _ rfl
  rw [List.getElem?_eq_getElem (by omega), cell9] at h0 h4
  rw [List.getElem?_eq_getElem (by omega), cell22] at h1 h2
  rw [List.getElem?_eq_getElem (by omega), cell23] at h3
  match cs, hlen with
  | [v0, v1, v2, v3, v4], _ =>
    obtain ⟨a0, e0, _, s0⟩ := DataW.trod_string Tryd.underlying9 h0
    obtain ⟨a1, e1, _, s1⟩ := DataW.trod_int Tryd.underlying22 h1
    obtain ⟨a2, e2, _, s2⟩ := DataW.trod_int Tryd.underlying22 h2
    obtain ⟨a3, e3, _, s3⟩ := DataW.trod_int Tryd.underlying23 h3
    obtain ⟨a4, e4, _, s4⟩ := DataW.trod_string Tryd.underlying9 h4
    obtain ⟨k, rfl, hk⟩ := nat_u16 s1
    obtain ⟨c, rfl, hc⟩ := nat_u16 s2
    obtain ⟨t, rfl, ht⟩ := nat_u32 s3
    simp at e0 e1 e2 e3 e4
    exact ⟨⟨a0, k, c, t, a4⟩, by rw [e0, e1, e2, e3, e4], ⟨hk, hc, ht⟩, s0, s4⟩
end
set_option maxRecDepth 100000 in
theorem open_rr {H : Type} {enc : TypeId × Value → H} {W : World} {base : Nat} {v : Value} {d : DataW H} {ps : List MemPlace} (hok : Value.okWide Tryd.prog W .any base 25 v) (h : DataW.Trod enc Tryd.prog W 0 (fun _ => true) true 25 v d ps) :
    ∃ r : Rc, v = .agg #[.string r.n, .int .u16 (r.k : Nat), .int .u16 (r.c : Nat), .int .u32 (r.t : Nat), .string r.d] ∧ r.Ok := by
  obtain ⟨cs, rfl, hsz⟩ := okWide_struct Tryd.underlying25 hok
  obtain ⟨fuel, hf⟩ := h
  obtain ⟨r, hr, hok', _⟩ := rr_cells hf
  refine ⟨r, ?_, hok'⟩
  have : cs.toList = [.string r.n, .int .u16 (r.k : Nat), .int .u16 (r.c : Nat), .int .u32 (r.t : Nat), .string r.d] := by simpa [Value.cells] using hr
  rw [← this]

/-- A record in five cells of memory. -/
def R5 (w : World) (b o : Nat) (r : Rc) : Prop := w.cell? ⟨b, o, none⟩ = some (.string r.n) ∧ w.cell? ⟨b, o + 1, none⟩ = some (.int .u16 (r.k : Nat)) ∧ w.cell? ⟨b, o + 2, none⟩ = some (.int .u16 (r.c : Nat)) ∧ w.cell? ⟨b, o + 3, none⟩ = some (.int .u32 (r.t : Nat)) ∧ w.cell? ⟨b, o + 4, none⟩ = some (.string r.d)
/-- A slice's records, and a slice's bools. -/
def Recs (w : World) (A : Option Addr) (l : List Rc) : Prop := ∀ j (h : j < l.length), ∃ b off : Nat, A = some ⟨b, off, none⟩ ∧ b < w.heap.size ∧ R5 w b (off + j * 5) l[j]
def Bools (w : World) (A : Option Addr) (l : List Bool) : Prop := ∀ j (h : j < l.length), ∃ b off : Nat, A = some ⟨b, off, none⟩ ∧ b < w.heap.size ∧ w.cell? ⟨b, off + j, none⟩ = some (.bool l[j])
theorem R5.below {B : Nat} {w w' : World} {b o : Nat} {r : Rc} (h : R5 w b o r) (hb : Below B w w') (hlt : b < B) : R5 w' b o r :=
  ⟨(hb.cell (p := ⟨b, o, none⟩) hlt).trans h.1, (hb.cell (p := ⟨b, o + 1, none⟩) hlt).trans h.2.1, (hb.cell (p := ⟨b, o + 2, none⟩) hlt).trans h.2.2.1, (hb.cell (p := ⟨b, o + 3, none⟩) hlt).trans h.2.2.2.1, (hb.cell (p := ⟨b, o + 4, none⟩) hlt).trans h.2.2.2.2⟩

instance : Inhabited Rc := ⟨Rc.zero⟩
set_option maxRecDepth 100000 in
theorem open_rrs {H : Type} {enc : TypeId × Value → H} {W : World} {base : Nat} {v : Value} {d : DataW H} {ps : List MemPlace} (hok : Value.okWide Tryd.prog W .any base 43 v) (h : DataW.Trod enc Tryd.prog W 0 (fun _ => true) true 43 v d ps) :
    ∃ (A : Option Addr) (cap : Nat) (l : List Rc), v = .slice A l.length cap ∧ Recs W A l ∧ l.length ≤ 9223372036854775807 ∧ ∀ r ∈ l, r.Ok := by
  obtain ⟨a0, len, cap, rfl⟩ := okWide_slice Tryd.underlying43 hok
  obtain ⟨fuel, hf⟩ := h
  rcases open_slice Tryd.underlying43 hf with ⟨hcs, hx⟩ | ⟨a, len', cap', m, n, D, Pl, hcs, _, hl, hm, hmm, hx, hi⟩
  · simp [Value.cells] at hcs
    obtain ⟨rfl, rfl, rfl⟩ := hcs
    exact ⟨none, 0, [], rfl, fun j hj => absurd hj (by simp), by simp, fun p hp => by cases hp⟩
  · simp [Value.cells] at hcs
    obtain ⟨rfl, rfl, rfl⟩ := hcs
    simp only [if_true] at hmm
    rw [cell25] at hi
    have each : ∀ i, i < m → ∃ r : Rc, r.Ok ∧ ∃ cs', W.cells? 0 (a.add (i * 5)) 5 = some cs' ∧ cs' = [.string r.n, .int .u16 (r.k : Nat), .int .u16 (r.c : Nat), .int .u32 (r.t : Nat), .string r.d] := fun i him => by
      obtain ⟨cs', h1, h2⟩ := hi i him
      obtain ⟨r, h3, h4, _⟩ := rr_cells h2
      exact ⟨r, h4, cs', h1, h3⟩
    obtain ⟨Q, hQ⟩ := choose_lt each
    refine ⟨some a, cap, (List.range len).map Q, by simp, fun j hj => ?_, by simp; unfold maxLen at hm; omega, fun p hp => ?_⟩
    · have hj' : j < len := by simpa using hj
      obtain ⟨_, cs', h1, rfl⟩ := hQ j (by omega)
      obtain ⟨_, hcl, hat⟩ := World.cells?_some h1
      have q0 := hat 0 (by omega)
      have q1 := hat 1 (by omega)
      have q2 := hat 2 (by omega)
      have q3 := hat 3 (by omega)
      have q4 := hat 4 (by omega)
      obtain ⟨_, cz, hz1, rfl⟩ := hQ 0 (by omega)
      obtain ⟨_, _, hatz⟩ := World.cells?_some hz1
      have qz := hatz 0 (by omega)
      obtain ⟨sb, so, spot⟩ := a
      have hspot : spot = none := by simpa [Addr.add] using World.cell?_spot qz
      subst hspot
      rw [add_plain, add_plain] at q0 q1 q2 q3 q4
      have hlt := cell_lt q0
      refine ⟨sb, so, rfl, hlt, ?_⟩
      simp only [List.getElem_map, List.getElem_range]
      exact ⟨by simpa using q0, by simpa using q1, by simpa using q2, by simpa using q3, by simpa using q4⟩
    · obtain ⟨i, hi', rfl⟩ := List.mem_map.1 hp
      have := List.mem_range.1 hi'
      exact (hQ i (by omega)).1

set_option maxRecDepth 100000 in
theorem open_bools {H : Type} {enc : TypeId × Value → H} {W : World} {base : Nat} {v : Value} {d : DataW H} {ps : List MemPlace} (hok : Value.okWide Tryd.prog W .any base 44 v) (h : DataW.Trod enc Tryd.prog W 0 (fun _ => true) true 44 v d ps) :
    ∃ (A : Option Addr) (cap : Nat) (l : List Bool), v = .slice A l.length cap ∧ Bools W A l ∧ l.length ≤ 9223372036854775807 := by
  obtain ⟨a0, len, cap, rfl⟩ := okWide_slice Tryd.underlying44 hok
  obtain ⟨fuel, hf⟩ := h
  rcases open_slice Tryd.underlying44 hf with ⟨hcs, hx⟩ | ⟨a, len', cap', m, n, D, Pl, hcs, _, hl, hm, hmm, hx, hi⟩
  · simp [Value.cells] at hcs
    obtain ⟨rfl, rfl, rfl⟩ := hcs
    exact ⟨none, 0, [], rfl, fun j hj => absurd hj (by simp), by simp⟩
  · simp [Value.cells] at hcs
    obtain ⟨rfl, rfl, rfl⟩ := hcs
    simp only [if_true] at hmm
    rw [cell4] at hi
    have each : ∀ i, i < m → ∃ b : Bool, W.cells? 0 (a.add (i * 1)) 1 = some [.bool b] := fun i him => by
      obtain ⟨cs', h1, h2⟩ := hi i him
      obtain ⟨b, rfl, _⟩ := DataW.trod_bool Tryd.underlying4 h2
      exact ⟨b, h1⟩
    obtain ⟨Q, hQ⟩ := choose_lt each
    refine ⟨some a, cap, (List.range len).map Q, by simp, fun j hj => ?_, by simp; unfold maxLen at hm; omega⟩
    have hj' : j < len := by simpa using hj
    obtain ⟨_, hcl, hat⟩ := World.cells?_some (hQ j (by omega))
    have q0 := hat 0 (by omega)
    obtain ⟨_, _, hatz⟩ := World.cells?_some (hQ 0 (by omega))
    have qz := hatz 0 (by omega)
    obtain ⟨sb, so, spot⟩ := a
    have hspot : spot = none := by simpa [Addr.add] using World.cell?_spot qz
    subst hspot
    rw [add_plain, add_plain] at q0
    have hlt := cell_lt q0
    refine ⟨sb, so, rfl, hlt, ?_⟩
    simp only [List.getElem_map, List.getElem_range]
    simpa using q0
end Go.Proofs.YtlphbeaaeeohjaaDoor

namespace Go.Proofs.YtlphbeaaeeohjaaDoor
open Go.RowKit
set_option linter.unusedVariables false

theorem pq_app {S : List UInt8} {L : Kn} (hG : Good S L) (r : Rc) : (∃ X, (pqS S L r).1 = S ++ X ∧ X.length ≤ 259) ∧ Good (pqS S L r).1 (pqS S L r).2 := by
  unfold pqS
  split
  · rename_i h; exact putQ_good hG h
  · exact ⟨⟨[], by simp, by simp⟩, hG⟩
theorem pr_app {S : List UInt8} {L : Kn} (hG : Good S L) (r : Rc) : (∃ X, (prS S L r).1 = S ++ X ∧ X.length ≤ 265 + r.d.size) ∧ Good (prS S L r).1 (prS S L r).2 := by
  unfold prS
  split
  · rename_i h; exact putR_good hG h
  · exact ⟨⟨[], by simp, by simp⟩, hG⟩
/-- Behind a question, if one is asked; behind a record. -/
def bmid (X : List UInt8 × Kn) (r : Rc) (k : Bool) : List UInt8 × Kn := if k = true then pqS X.1 X.2 r else X
def bst (R : Nat → Rc) (K : Nat → Bool) : Nat → List UInt8 × Kn
  | 0 => ([], [])
  | j + 1 => prS (bmid (bst R K j) (R j) (K j)).1 (bmid (bst R K j) (R j) (K j)).2 (R j)
theorem bmid_app {X : List UInt8 × Kn} (hG : Good X.1 X.2) (r : Rc) (k : Bool) : (∃ Y, (bmid X r k).1 = X.1 ++ Y ∧ Y.length ≤ 259) ∧ Good (bmid X r k).1 (bmid X r k).2 := by
  unfold bmid
  split
  · exact pq_app hG r
  · exact ⟨⟨[], by simp, by simp⟩, hG⟩
section
variable (R : Nat → Rc) (K : Nat → Bool)
theorem bst_good : ∀ j, Good (bst R K j).1 (bst R K j).2
  | 0 => Good.nil _
  | j + 1 => (pr_app (bmid_app (bst_good j) (R j) (K j)).2 (R j)).2
theorem bst_len : ∀ j, (∀ t, t < j → (R t).d.size ≤ 700) → (bst R K j).1.length ≤ 1300 * j
  | 0, _ => Nat.le_refl _
  | j + 1, h => by
    have h1 := bst_len j (fun t ht => h t (by omega))
    obtain ⟨⟨X, x1, x2⟩, xg⟩ := bmid_app (bst_good R K j) (R j) (K j)
    obtain ⟨⟨Y, y1, y2⟩, _⟩ := pr_app xg (R j)
    have := h j (by omega)
    show (prS _ _ _).1.length ≤ _
    rw [y1, x1, List.length_append, List.length_append]
    omega
theorem bst_pre {j m : Nat} (h : j ≤ m) : ∃ X, (bst R K m).1 = (bst R K j).1 ++ X := by
  induction m with
  | zero => obtain rfl : j = 0 := by omega
            exact ⟨[], by simp⟩
  | succ m ih =>
    rcases Nat.lt_or_ge m j with h1 | h1
    · obtain rfl : j = m + 1 := by omega
      exact ⟨[], by simp⟩
    · obtain ⟨X, hX⟩ := ih h1
      obtain ⟨⟨Y, y1, _⟩, yg⟩ := bmid_app (bst_good R K m) (R m) (K m)
      obtain ⟨⟨Z, z1, _⟩, _⟩ := pr_app yg (R m)
      refine ⟨X ++ Y ++ Z, ?_⟩
      show (prS _ _ _).1 = _
      rw [z1, y1, hX]
      simp
/-- What is read of the bytes at each place. -/
theorem bst_back {j m : Nat} (hj : j < m) (hr : (R j).Ok) {s : ByteArray} (hs : s.data.toList = (bst R K m).1) :
    ((K j && mayB (R j).n) = true → tkQ s (bst R K j).1.length = some ((R j).ask, (bmid (bst R K j) (R j) (K j)).1.length)) ∧ ((K j && mayB (R j).n) = false → (bmid (bst R K j) (R j) (K j)).1.length = (bst R K j).1.length) ∧
    (mayR (R j) = true → tkR s (bmid (bst R K j) (R j) (K j)).1.length = some (R j, (bst R K (j + 1)).1.length)) ∧ (mayR (R j) = false → (bst R K (j + 1)).1.length = (bmid (bst R K j) (R j) (K j)).1.length) := by
  have g0 := bst_good R K j
  obtain ⟨_, g1⟩ := bmid_app g0 (R j) (K j)
  obtain ⟨X, hX⟩ := bst_pre R K (show j + 1 ≤ m from hj)
  obtain ⟨⟨Z, z1, _⟩, _⟩ := pr_app g1 (R j)
  have hX' : s.data.toList = (prS (bmid (bst R K j) (R j) (K j)).1 (bmid (bst R K j) (R j) (K j)).2 (R j)).1 ++ X := hs.trans hX
  refine ⟨fun h => ?_, fun h => ?_, fun h => ?_, fun h => ?_⟩
  · rw [Bool.and_eq_true] at h
    have e : bmid (bst R K j) (R j) (K j) = putQ (bst R K j).1 (bst R K j).2 (R j) := by unfold bmid pqS; rw [if_pos h.1, if_pos h.2]
    rw [e] at hX' z1 ⊢
    exact tkQ_put g0 hr h.2 (Z ++ X) (by rw [hX', z1, List.append_assoc])
  · have e : bmid (bst R K j) (R j) (K j) = bst R K j := by
      unfold bmid pqS
      cases hk : K j with
      | false => rfl
      | true =>
        rw [hk, Bool.true_and] at h
        rw [if_pos rfl, h]
        rfl
    rw [e]
  · have e : prS (bmid (bst R K j) (R j) (K j)).1 (bmid (bst R K j) (R j) (K j)).2 (R j) = putR (bmid (bst R K j) (R j) (K j)).1 (bmid (bst R K j) (R j) (K j)).2 (R j) := by unfold prS; rw [if_pos h]
    show tkR s _ = some (R j, (prS _ _ _).1.length)
    rw [e] at hX' ⊢
    exact tkR_put g1 hr h X hX'
  · show (prS _ _ _).1.length = _
    unfold prS
    rw [h]
    rfl
end
/-- The cells of one record, and of one bool, in every later world. -/
theorem Recs.cells {w : World} {A : Option Addr} {l : List Rc} (h : Recs w A l) (j : Nat) (hj : j < l.length) :
    ∃ b off, A = some ⟨b, off, none⟩ ∧ b < w.heap.size ∧ ∀ W, Below w.heap.size w W → R5 W b (off + j * 5) l[j] := by
  obtain ⟨b, off, h1, h2, h3⟩ := h j hj
  exact ⟨b, off, h1, h2, fun W hW => h3.below hW h2⟩
theorem Bools.cells {w : World} {A : Option Addr} {l : List Bool} (h : Bools w A l) (j : Nat) (hj : j < l.length) :
    ∃ b off, A = some ⟨b, off, none⟩ ∧ b < w.heap.size ∧ ∀ W, Below w.heap.size w W → W.cell? ⟨b, off + j, none⟩ = some (.bool l[j]) := by
  obtain ⟨b, off, h1, h2, h3⟩ := h j hj
  exact ⟨b, off, h1, h2, fun W hW => (hW.cell (p := ⟨b, off + j, none⟩) h2).trans h3⟩
end Go.Proofs.YtlphbeaaeeohjaaDoor

namespace Go.Proofs.YtlphbeaaeeohjaaDoor
open Go.RowKit
set_option linter.unusedVariables false

/-- Texts of 700 bytes at most. -/
def fewR (r : Rc) : Bool := decide (r.n.size ≤ 700) && decide (r.d.size ≤ 700)
theorem few_any (r : Rc) (w : World) :
    Calls Tryd.prog 9 #[.agg #[.string r.n, .int .u16 (r.k : Nat), .int .u16 (r.c : Nat), .int .u32 (r.t : Nat), .string r.d]] w fun e w' => e = .returned (.bool (fewR r)) ∧ Below w.heap.size w w' := by
  obtain ⟨n, k, c, t, d⟩ := r
  simp only [fewR]
  have HB := Lib.hid ((Below.refl w.heap.size w).alloc (Nat.le_refl _) (Obj.cells #[Value.string n, .int .u16 (k : Nat), .int .u16 (c : Nat), .int .u32 (t : Nat), .string d] 25))
  have hx : ∀ b1 b2, decide ((n.size : Int) ≤ 700) = b1 → decide ((d.size : Int) ≤ 700) = b2 → (decide (n.size ≤ 700) && decide (d.size ≤ 700)) = (b1 && b2) := fun b1 b2 h1 h2 => by rw [← h1, ← h2]; congr 1 <;> · apply decide_eq_decide.2; omega
  obtain ⟨b1, h1⟩ : ∃ b, decide ((n.size : Int) ≤ 700) = b := ⟨_, rfl⟩
  obtain ⟨b2, h2⟩ : ∃ b, decide ((d.size : Int) ≤ 700) = b := ⟨_, rfl⟩
  rw [hx b1 b2 h1 h2]
  clear hx
  cases b1 <;> cases b2
  all_goals
    go_enter Tryd.func9, Tryd.ntmps9
    go_wp2_with fail
    go_ret
    exact ⟨rfl, HB.out⟩
theorem putr_nil (n d : ByteArray) (k c t : Int) (w : World) : Calls Tryd.prog 24 #[.pointer none, .agg #[.string n, .int .u16 k, .int .u16 c, .int .u32 t, .string d]] w fun e w' => e = .returned (.int .i64 1) ∧ Below w.heap.size w w' := by
  go_enter Tryd.func24, Tryd.ntmps24
  go_wp2_with fail
  go_ret
  exact ⟨rfl, (Below.refl _ w).alloc (Nat.le_refl _) _⟩
theorem putq_nil (n : ByteArray) (k c : Int) (w : World) : Calls Tryd.prog 22 #[.pointer none, .agg #[.string n, .int .u16 k, .int .u16 c]] w fun e w' => e = .returned (.int .i64 1) ∧ Below w.heap.size w w' := by
  go_enter Tryd.func22, Tryd.ntmps22
  go_wp2_with fail
  go_ret
  exact ⟨rfl, (Below.refl _ w).alloc (Nat.le_refl _) _⟩
/-- The document's pack in a box that was laid ahead of the call. -/
theorem nxY {B b bx y : Nat} {S2 : List UInt8} {L2 : Kn} {bx0 : Obj} {y2 : ByteArray} {w0 w6 w7 : World} {A' : Option Addr} {m' c' : Nat} (hst : St B b S2 L2 w6) (hbx : w6.heap[bx]? = some bx0) (hbel : Below B w0 w6) (hb : Below w6.heap.size w6 w7) (hP : Plc B (.slice A' m' c') L2 w7) (hB : B ≤ w6.heap.size) (hy : w6.heap.size ≤ y)
    (hz : w7.heap[y]? = some (.cells #[.string ⟨#[]⟩, .slice none 0 0] 49 (0, 0))) :
    Nx B b bx S2 L2 bx0 y2 w0 (.pointer (some ⟨y, 0, none⟩)) ((w7.setCell ⟨y, 0, none⟩ (.string y2)).setCell ⟨y, 1, none⟩ (.slice A' m' c')) := by
  have s1 := blk_set hz 0 (.string y2)
  have s2 := blk_set s1 1 (.slice A' m' c')
  have g1 := grown_set w7 ⟨y, 0, none⟩ (.string y2)
  have g2 := grown_set (w7.setCell ⟨y, 0, none⟩ (.string y2)) ⟨y, 1, none⟩ (.slice A' m' c')
  have hba : Below w6.heap.size w6 ((w7.setCell ⟨y, 0, none⟩ (.string y2)).setCell ⟨y, 1, none⟩ (.slice A' m' c')) := (hb.setCell (p := ⟨y, 0, none⟩) hy _).setCell (p := ⟨y, 1, none⟩) hy _
  exact ⟨y, A', m', c', rfl, s2, (hba.block _ (heap_lt hbx)).trans hbx, hst.below hba, (hP.other hz (by decide) g1).other s1 (by decide) g2, hbel.trans (hba.mono hB)⟩
/-- The cells that the calls' arguments are read from. -/
def Hd7 (bx ab o : Nat) (s : ByteArray) (v : Value) (r : Rc) (w' : World) : Prop := w'.cell? ⟨bx, 0, none⟩ = some (.string s) ∧ w'.cell? ⟨bx, 1, none⟩ = some v ∧ R5 w' ab o r
theorem Hd7.below {bx ab o : Nat} {s : ByteArray} {v : Value} {r : Rc} {w w' : World} (h : Hd7 bx ab o s v r w) (hb : Below w.heap.size w w') : Hd7 bx ab o s v r w' := by
  obtain ⟨h1, h2, h3⟩ := h
  exact ⟨(hb.cell (World.block_lt_of_cell? w _ h1)).trans h1, (hb.cell (World.block_lt_of_cell? w _ h2)).trans h2, h3.below hb (World.block_lt_of_cell? w _ h3.1)⟩
theorem Hd7.al {bx ab o : Nat} {s : ByteArray} {v : Value} {r : Rc} {w : World} (h : Hd7 bx ab o s v r w) (ob : Obj) : Hd7 bx ab o s v r (w.alloc ob) := h.below ((Below.refl _ w).alloc (Nat.le_refl _) ob)
theorem Hd7.set {bx ab o : Nat} {s : ByteArray} {v : Value} {r : Rc} {w : World} (h : Hd7 bx ab o s v r w) {g : Nat} (h1 : g ≠ bx) (h2 : g ≠ ab) (i : Nat) (u : Value) : Hd7 bx ab o s v r (w.setCell ⟨g, i, none⟩ u) := by
  obtain ⟨g1, g2, g3, g4, g5, g6, g7⟩ := h
  have F : ∀ (p : Addr) (x : Value), g ≠ p.block → w.cell? p = some x → (w.setCell ⟨g, i, none⟩ u).cell? p = some x := fun p x hp hc => (World.cell?_setCell_far w ⟨g, i, none⟩ _ u hp).trans hc
  exact ⟨F _ _ h1 g1, F _ _ h1 g2, F _ _ h2 g3, F _ _ h2 g4, F _ _ h2 g5, F _ _ h2 g6, F _ _ h2 g7⟩

set_option maxRecDepth 100000 in
set_option maxHeartbeats 4000000 in
theorem puts_walk (A : Option Addr) (cap : Nat) (l : List Rc) (A2 : Option Addr) (cap2 : Nat) (ks : List Bool) (hl : l.length ≤ 9223372036854775807) (hok : ∀ r ∈ l, r.Ok) (hl2 : ks.length ≤ 9223372036854775807) (w : World) (hI : Recs w A l) (hJ : Bools w A2 ks) (hL : Lay w) :
    Calls Tryd.prog 4 #[.slice A l.length cap, .slice A2 ks.length cap2] w fun e w' => e = .returned (.bool true) ∧ Below w.heap.size w w' := by
  have HL := Lib.hid hL
  have H0 := Lib.hid (lay_lt hL)
  have HI := Lib.hid hI
  have HJ := Lib.hid hJ
  have HOk := Lib.hid hok
  clear hL hI hJ hok
  go_enter Tryd.func4, Tryd.ntmps4
  go_wp2_with fail
  refine (rshown_any _ HL.out).mono ?_
  rintro e w1 ⟨rfl, hb1⟩
  have HB1 := Lib.hid hb1
  have H01 := Lib.hid (Nat.lt_of_lt_of_le H0.out hb1.size)
  clear hb1
  go_wp2_with fail
  refine (new_any _).mono ?_
  rintro e w4 ⟨rfl, hI4, hb4⟩
  have hSt4 := St.new hI4
  have hs14 : w1.heap.size < w4.heap.size := hI4.lt
  have HTwo := Lib.hid (show Two w1.heap.size w1.heap.size w4.heap.size [] [] ⟨#[]⟩ (.slice none 0 0) w1 (w4.alloc (.cells #[.string ⟨#[]⟩, .slice none 0 0] 49)) from ⟨hSt4.alloc _, heap_alloc_new w4 _, World.ownsRow_nil _ _ _ _, hb4.alloc hb4.size _⟩)
  clear hI4 hSt4 hb4
  go_wp2_with fail
  go_loopw [8] (fun i wr => ∃ (k : Nat) (S : List UInt8) (L : Kn) (s : ByteArray) (v : Value), k ≤ l.length ∧ k ≤ 20 ∧ i = .int .i64 k ∧ Two w1.heap.size w1.heap.size w4.heap.size S L s v w1 wr ∧ s.data.toList = S ∧ S.length ≤ 1300 * k) (fun i _ => 20 - (intOf i).toNat)
  case atStart => exact ⟨0, [], [], ⟨#[]⟩, _, Nat.zero_le _, Nat.zero_le _, rfl, HTwo.out, rfl, Nat.zero_le _⟩
  case round =>
    clear HTwo
    obtain ⟨k, S, L, s, v, hk, hk20, rfl, hT, hsS, hlen⟩ := hrel
    have HT := Lib.hid hT
    have HBw := Lib.hid (HB1.out.trans (hT.bel.mono HB1.out.size))
    clear hT
    by_cases hgo : k < l.length ∧ k < 20
    · obtain ⟨hlt, hk2⟩ := hgo
      obtain ⟨ab, ao, rfl, hab, hcl⟩ := HI.out.cells k hlt
      have hrok := HOk.out l[k] (List.getElem_mem hlt)
      have HCl := Lib.hid hcl
      clear hcl
      generalize l[k] = r at *
      obtain ⟨c0, c1, c2, c3, c4⟩ := HCl.out wr HBw.out
      have hfa := few_any r
      cases hf : fewR r with
      | false =>
        rw [hf] at hfa
        have HFa := Lib.hid hfa
        clear hfa hf
        go_wp2_with fail
        refine (HFa.out _).mono ?_
        rintro e w3 ⟨rfl, hb3⟩
        have HBf := Lib.hid (HBw.out.trans (hb3.mono HBw.out.size))
        clear hb3
        go_wp2_with fail
        go_ret
        exact ⟨rfl, HBf.out⟩
      | true =>
        rw [hf] at hfa
        have HFa := Lib.hid hfa
        have hfs : r.n.size ≤ 700 ∧ r.d.size ≤ 700 := by unfold fewR at hf; simpa using hf
        obtain ⟨hfn, hfd⟩ := hfs
        have hsz1 := HT.out.bel.size
        clear hfa hf
        go_wp2_with fail
        refine (HFa.out _).mono ?_
        rintro e w3 ⟨rfl, hb3⟩
        have HT3 := Lib.hid (HT.out.below hsz1 hb3)
        clear hb3 c0 c1 c2 c3 c4 HBw HFa HT hsz1
        obtain ⟨Kk, hKk⟩ : ∃ K, (if h : k < ks.length then ks[k] else false) = K := ⟨_, rfl⟩
        have HBw3 := Lib.hid (HB1.out.trans (HT3.out.bel.mono HB1.out.size))
        go_upto_region 9 with (fail)
        go_cut [44] (fun q wx => q = .bool Kk ∧ w3 = wx)
        case first =>
          by_cases hka : k < ks.length
          · obtain ⟨bb, bo, rfl, hbb, hbc⟩ := HJ.out.cells k hka
            have hbk := hbc w3 HBw3.out
            rw [dif_pos hka] at hKk
            rw [hKk] at hbk
            have d1 : decide ((k : Int) < (ks.length : Int)) = true := by simp; omega
            clear hbc hKk
            go_wp2_with fail
            go_meet
            case rel => exact ⟨rfl, rfl⟩
          · rw [dif_neg hka] at hKk
            have d1 : decide ((k : Int) < (ks.length : Int)) = false := by simp; omega
            have HKk := Lib.hid hKk
            clear hKk
            go_wp2_with fail
            go_meet
            case rel => exact ⟨by rw [HKk.out], rfl⟩
        case rest =>
          obtain ⟨rfl, rfl⟩ := hcut
          clear hKk
          obtain ⟨M, hM⟩ : ∃ M, bmid (S, L) r Kk = M := ⟨_, rfl⟩
          obtain ⟨⟨YM, yM1, yM2⟩, hMg⟩ := bmid_app (X := (S, L)) HT3.out.st.good r Kk
          rw [hM] at yM1 hMg
          have hMl : M.1.length ≤ 1300 * k + 259 := by rw [yM1, List.length_append]; show S.length + YM.length ≤ _; omega
          clear yM1 yM2
          go_upto_if 44 with (fail)
          go_cut [11] (fun q wx => ∃ (s2 : ByteArray) (v2 : Value), Two w1.heap.size w1.heap.size w4.heap.size M.1 M.2 s2 v2 w1 wx ∧ s2.data.toList = M.1)
          case first =>
            cases Kk with
            | false =>
              have hMe : M = (S, L) := by rw [← hM]; rfl
              have HMe := Lib.hid hMe
              have HsS := Lib.hid hsS
              clear hMe hM hsS
              go_wp2_with fail
              go_meet
              case rel => exact ⟨s, v, by rw [HMe.out]; exact HT3.out, by rw [HMe.out]; exact HsS.out⟩
            | true =>
              have hMe : pqS S L r = M := by rw [← hM]; rfl
              clear hM
              obtain ⟨Av, cv, rfl⟩ := HT3.out.plc.form
              obtain ⟨c0, c1, c2, c3, c4⟩ := HCl.out w3 HBw3.out
              have hpq := fun (W : World) (h : St w1.heap.size w1.heap.size S L W) (hB : w1.heap.size ≤ W.heap.size) => putq_any w1.heap.size w1.heap.size S L r (by omega) hrok (by omega) W h hB
              obtain ⟨bad, hbad⟩ : ∃ bad, stE r.n = bad := ⟨_, rfl⟩
              rw [hMe, hbad] at hpq
              have HPq := Lib.hid hpq
              clear hpq
              go_wp2_with fail
              refine (key_any _ _ _ _ _ _).mono ?_
              rintro e w5 ⟨rfl, hb5⟩
              have HT5 := Lib.hid (HT3.out.below HT3.out.bel.size hb5)
              clear hb5 c0 c1 c2 c3 c4
              go_wp2_with fail
              refine (HPq.out _ HT5.out.st HT5.out.bel.size).mono ?_
              rintro e w6 ⟨rfl, hSt6, hb6, hk6⟩
              obtain ⟨hbox6, hplc6, hbel6⟩ := HT5.out.turn hSt6 hb6 hk6
              clear HPq
              have hkn : KnOk s.data.toList L := by rw [hsS]; exact HT5.out.st.kn
              have hss : s.size ≤ 26000 := by rw [← ba_len, hsS]; omega
              have hrn : ∀ W, Below w6.heap.size w6 W → Calls Tryd.prog 23 #[.agg #[.string s, .slice Av L.length cv], .agg #[.string r.n, .int .u16 (r.k : Nat), .int .u16 (r.c : Nat)]] W fun e w' => ∃ A' m' cap', e = .returned (.tuple #[.agg #[.string ⟨M.1.toArray⟩, .slice A' m' cap'], .int .i64 bad]) ∧ Plc w1.heap.size (.slice A' m' cap') M.2 w' ∧ Below W.heap.size W w' := fun W hW => by
                have h := fputq_any w1.heap.size s _ L r W (hplc6.below hW) hkn (by omega) (Nat.le_trans hbel6.size hW.size) (by omega) hrok
                unfold QpPost at h
                rw [hsS, hMe, hbad] at h
                exact h
              have hal : ∀ (W : World) o, Below w6.heap.size w6 W → Below w6.heap.size w6 (W.alloc o) := fun W o hW => hW.alloc hW.size o
              have HAl := Lib.hid hal
              have HBd := Lib.hid (And.intro (show Below w6.heap.size w6 w6.drew from (Below.refl _ w6).drew) (show ∀ o, Below w6.heap.size w6 (w6.alloc o).drew from fun o => (hal w6 o (Below.refl _ w6)).drew))
              have HH := Lib.hid (show Hd7 w4.heap.size ab (ao + k * 5) s (.slice Av L.length cv) r w6 from ⟨blk_cell hbox6 0, blk_cell hbox6 1, HCl.out w6 (HB1.out.trans (hbel6.mono HB1.out.size))⟩)
              have HNe := Lib.hid (show ∀ y, w6.heap.size ≤ y → y ≠ w4.heap.size ∧ y ≠ ab from fun y hy => ⟨by have := heap_lt hbox6; omega, by have := hbel6.size; have := HB1.out.size; omega⟩)
              have HRn := Lib.hid hrn
              have HB6 := Lib.hid hbox6
              have HSt6 := Lib.hid hSt6
              have HBel6 := Lib.hid hbel6
              clear hbox6 hplc6 hb6 hk6 hSt6 hbel6 hrn hkn hal hMe hsS HT3 HT5 hbad hss
              go_upto_region 11 with (fail)
              go_cut [10, 11] (fun t q wx => q = .int .i64 bad ∧ Nx w1.heap.size w1.heap.size w4.heap.size M.1 M.2 (.cells #[.string s, .slice Av L.length cv] 49 (0, 0)) ⟨M.1.toArray⟩ w1 t wx)
              case first =>
                go_region_held (fun w' => w'.cell? ⟨w4.heap.size, 0, none⟩ = some (.string s) ∧ w'.cell? ⟨w4.heap.size, 1, none⟩ = some (.slice Av L.length cv) ∧ w'.cell? ⟨ab, ao + k * 5, none⟩ = some (.string r.n) ∧ w'.cell? ⟨ab, ao + k * 5 + 1, none⟩ = some (.int .u16 (r.k : Nat)) ∧ w'.cell? ⟨ab, ao + k * 5 + 2, none⟩ = some (.int .u16 (r.c : Nat)) ∧ w'.cell? ⟨ab, ao + k * 5 + 3, none⟩ = some (.int .u32 (r.t : Nat)) ∧ w'.cell? ⟨ab, ao + k * 5 + 4, none⟩ = some (.string r.d)) (first | exact HH.out | exact HH.out.al _ | exact HH7.out | exact HH7.out.al _ | exact HH8.out | exact HH8.out.al _ | exact (HH8.out.set (HNe.out _ HY.out).1 (HNe.out _ HY.out).2 _ _).set (HNe.out _ HY.out).1 (HNe.out _ HY.out).2 _ _)
                  (first
                  | (go_at_call 10; refine (key_any _ _ _ _ _ w6.drew).mono ?_; rintro e w7 ⟨rfl, hb7⟩; have HB7 := Lib.hid (HBd.out.1.trans (hb7.mono HBd.out.1.size)); have HH7 := Lib.hid (HH.out.below HB7.out); clear hb7)
                  | (go_at_call 10; refine (key_any _ _ _ _ _ (w6.alloc _).drew).mono ?_; rintro e w7 ⟨rfl, hb7⟩; have HZ7 := Lib.hid ((hb7.block w6.heap.size (by simp)).trans (heap_alloc_new w6 _)); have HB7 := Lib.hid ((HBd.out.2 _).trans (hb7.mono (by simp))); have HH7 := Lib.hid (HH.out.below HB7.out); have HY := Lib.hid (Nat.le_refl w6.heap.size); clear hb7)
                  | (go_at_call 23; refine (HRn.out w7 HB7.out).mono ?_; rintro e w8 ⟨A', m', cp', rfl, hP8, hb8⟩; have HB8 := Lib.hid (HB7.out.trans (hb8.mono HB7.out.size)); have HH8 := Lib.hid (HH.out.below HB8.out); have HP8 := Lib.hid hP8; (try (have HZ8 := Lib.hid ((hb8.block _ (heap_lt HZ7.out)).trans HZ7.out); have z0 := blk_cell HZ8.out 0; have z1 := blk_cell HZ8.out 1; have f0 := blk_frozen HZ8.out 0; have f1 := blk_frozen HZ8.out 1)); clear hP8 hb8)
                  | (go_at_call 23; refine (HRn.out (w7.alloc _) (HAl.out _ _ HB7.out)).mono ?_; rintro e w8 ⟨A', m', cp', rfl, hP8, hb8⟩; have HZ8 := Lib.hid ((hb8.block w7.heap.size (by simp)).trans (heap_alloc_new w7 _)); have HB8 := Lib.hid ((HAl.out w7 _ HB7.out).trans (hb8.mono (Nat.le_trans HB7.out.size (by simp)))); have HH8 := Lib.hid (HH.out.below HB8.out); have HP8 := Lib.hid hP8; have HY := Lib.hid HB7.out.size; have z0 := blk_cell HZ8.out 0; have z1 := blk_cell HZ8.out 1; have f0 := blk_frozen HZ8.out 0; have f1 := blk_frozen HZ8.out 1; clear hP8 hb8))
                all_goals
                  go_wp2_with fail
                  go_meet
                  case rel =>
                    first
                    | exact ⟨rfl, nxA HSt6.out HB6.out HBel6.out HB8.out HP8.out HBel6.out.size⟩
                    | exact ⟨rfl, nxY HSt6.out HB6.out HBel6.out HB8.out HP8.out HBel6.out.size HY.out HZ8.out⟩
              case rest =>
                obtain ⟨rfl, y, A', m', c', rfl, hy, hbx, hst, hpl7, hbel⟩ := hcut
                clear HRn HB6 HSt6 HBel6 HBd HH HAl HNe
                have e0 := blk_cell hy 0
                have e1 := blk_cell hy 1
                have z0 := blk_cell hbx 0
                have z1 := blk_cell hbx 1
                have f0 := blk_frozen hbx 0
                have f1 := blk_frozen hbx 1
                have HT8 := Lib.hid (Two.set (y := ⟨M.1.toArray⟩) hst hbx hpl7 hbel (by omega))
                have hbb : (bad != bad) = false := by simp
                clear hy hbx hst hpl7 hbel
                go_wp2_with fail
                go_meet
                case rel => exact ⟨_, _, HT8.out, rfl⟩
          case rest =>
            obtain ⟨s2, v2, hT2, hsM⟩ := hcut
            clear hM hsS HT3 HBw3 
            obtain ⟨Av, cv, rfl⟩ := hT2.plc.form
            have HT2 := Lib.hid hT2
            clear hT2
            obtain ⟨⟨YN, yN1, yN2⟩, hNg⟩ := pr_app hMg r
            obtain ⟨N, hN⟩ : ∃ N, prS M.1 M.2 r = N := ⟨_, rfl⟩
            obtain ⟨bad, hbad⟩ : ∃ bad, prE r = bad := ⟨_, rfl⟩
            rw [hN] at yN1
            have hNl : N.1.length ≤ 1300 * (k + 1) := by rw [yN1, List.length_append]; omega
            have HBw2 := Lib.hid (HB1.out.trans (HT2.out.bel.mono HB1.out.size))
            have hpr := fun (W : World) (hL' : Lay W) (h : St w1.heap.size w1.heap.size M.1 M.2 W) (hB : w1.heap.size ≤ W.heap.size) => putr_any w1.heap.size w1.heap.size M.1 M.2 r (by omega) (by omega) hrok (by omega) W hL' h hB H01.out
            rw [hN, hbad] at hpr
            have HPr := Lib.hid hpr
            have HNl := Lib.hid hNl
            clear hpr yN1 yN2 hNg hNl
            obtain ⟨c0, c1, c2, c3, c4⟩ := HCl.out wc HBw2.out
            go_wp2_with fail
            refine (HPr.out _ (HL.out.below H0.out HBw2.out) HT2.out.st HT2.out.bel.size).mono ?_
            rintro e w6 ⟨rfl, hSt6, hb6, hk6⟩
            obtain ⟨hbox6, hplc6, hbel6⟩ := HT2.out.turn hSt6 hb6 hk6
            clear HPr c0 c1 c2 c3 c4
            have hkn : KnOk s2.data.toList M.2 := by rw [hsM]; exact HT2.out.st.kn
            have hgd : Good s2.data.toList M.2 := by rw [hsM]; exact HT2.out.st.good
            have hss : s2.size ≤ 27000 := by rw [← ba_len, hsM]; omega
            have hrn : ∀ W, Below w6.heap.size w6 W → Calls Tryd.prog 25 #[.agg #[.string s2, .slice Av M.2.length cv], .agg #[.string r.n, .int .u16 (r.k : Nat), .int .u16 (r.c : Nat), .int .u32 (r.t : Nat), .string r.d]] W fun e w' => ∃ A' m' cap', e = .returned (.tuple #[.agg #[.string ⟨N.1.toArray⟩, .slice A' m' cap'], .int .i64 bad]) ∧ Plc w1.heap.size (.slice A' m' cap') N.2 w' ∧ Below W.heap.size W w' := fun W hW => by
              have h := fputr_any w1.heap.size s2 _ M.2 r W (hplc6.below hW) hkn hgd (by omega) (Nat.le_trans hbel6.size hW.size) (by omega) (by omega) hrok
              unfold PpPost at h
              rw [hsM, hN, hbad] at h
              exact h
            have hal : ∀ (W : World) o, Below w6.heap.size w6 W → Below w6.heap.size w6 (W.alloc o) := fun W o hW => hW.alloc hW.size o
            have HBd := Lib.hid (And.intro (show Below w6.heap.size w6 w6.drew from (Below.refl _ w6).drew) (show ∀ o, Below w6.heap.size w6 (w6.alloc o).drew from fun o => (hal w6 o (Below.refl _ w6)).drew))
            have HH := Lib.hid (show Hd7 w4.heap.size ab (ao + k * 5) s2 (.slice Av M.2.length cv) r w6 from ⟨blk_cell hbox6 0, blk_cell hbox6 1, HCl.out w6 (HB1.out.trans (hbel6.mono HB1.out.size))⟩)
            have HNe := Lib.hid (show ∀ y, w6.heap.size ≤ y → y ≠ w4.heap.size ∧ y ≠ ab from fun y hy => ⟨by have := heap_lt hbox6; omega, by have := hbel6.size; have := HB1.out.size; omega⟩)
            have HRn := Lib.hid hrn
            have HB6 := Lib.hid hbox6
            have HSt6 := Lib.hid hSt6
            have HBel6 := Lib.hid hbel6
            clear hbox6 hplc6 hb6 hk6 hSt6 hbel6 hrn hkn hgd hal hsM HT2 hbad hss hN HBw2
            go_upto_region 16 with (fail)
            go_cut [13, 14] (fun t q wx => q = .int .i64 bad ∧ Nx w1.heap.size w1.heap.size w4.heap.size N.1 N.2 (.cells #[.string s2, .slice Av M.2.length cv] 49 (0, 0)) ⟨N.1.toArray⟩ w1 t wx)
            case first =>
              go_region_held (fun w' => w'.cell? ⟨w4.heap.size, 0, none⟩ = some (.string s2) ∧ w'.cell? ⟨w4.heap.size, 1, none⟩ = some (.slice Av M.2.length cv) ∧ w'.cell? ⟨ab, ao + k * 5, none⟩ = some (.string r.n) ∧ w'.cell? ⟨ab, ao + k * 5 + 1, none⟩ = some (.int .u16 (r.k : Nat)) ∧ w'.cell? ⟨ab, ao + k * 5 + 2, none⟩ = some (.int .u16 (r.c : Nat)) ∧ w'.cell? ⟨ab, ao + k * 5 + 3, none⟩ = some (.int .u32 (r.t : Nat)) ∧ w'.cell? ⟨ab, ao + k * 5 + 4, none⟩ = some (.string r.d)) (first | exact HH.out | exact HH.out.al _ | exact HH8.out | exact HH8.out.al _ | exact (HH8.out.set (HNe.out _ HY.out).1 (HNe.out _ HY.out).2 _ _).set (HNe.out _ HY.out).1 (HNe.out _ HY.out).2 _ _)
                (first
                | (go_at_call 25; refine (HRn.out w6.drew HBd.out.1).mono ?_; rintro e w8 ⟨A', m', cp', rfl, hP8, hb8⟩; have HB8 := Lib.hid (HBd.out.1.trans (hb8.mono HBd.out.1.size)); have HH8 := Lib.hid (HH.out.below HB8.out); have HP8 := Lib.hid hP8; clear hP8 hb8)
                | (go_at_call 25; refine (HRn.out (w6.alloc _).drew (HBd.out.2 _)).mono ?_; rintro e w8 ⟨A', m', cp', rfl, hP8, hb8⟩; have HZ8 := Lib.hid ((hb8.block w6.heap.size (by simp)).trans (heap_alloc_new w6 _)); have HB8 := Lib.hid ((HBd.out.2 _).trans (hb8.mono (by simp))); have HH8 := Lib.hid (HH.out.below HB8.out); have HP8 := Lib.hid hP8; have HY := Lib.hid (Nat.le_refl w6.heap.size); have z0 := blk_cell HZ8.out 0; have z1 := blk_cell HZ8.out 1; have f0 := blk_frozen HZ8.out 0; have f1 := blk_frozen HZ8.out 1; clear hP8 hb8))
              all_goals
                go_wp2_with fail
                go_meet
                case rel =>
                  first
                  | exact ⟨rfl, nxA HSt6.out HB6.out HBel6.out HB8.out HP8.out HBel6.out.size⟩
                  | exact ⟨rfl, nxY HSt6.out HB6.out HBel6.out HB8.out HP8.out HBel6.out.size HY.out HZ8.out⟩
            case rest =>
              obtain ⟨rfl, y, A', m', c', rfl, hy, hbx, hst, hpl7, hbel⟩ := hcut
              clear HRn HB6 HSt6 HBel6 HBd HH HNe
              have e0 := blk_cell hy 0
              have e1 := blk_cell hy 1
              have z0 := blk_cell hbx 0
              have z1 := blk_cell hbx 1
              have f0 := blk_frozen hbx 0
              have f1 := blk_frozen hbx 1
              have HT8 := Lib.hid (Two.set (y := ⟨N.1.toArray⟩) hst hbx hpl7 hbel (by omega))
              clear hy hbx hst hpl7 hbel
              go_wp2_with fail
              obtain ⟨W8, hW8⟩ : ∃ W8, (wc.setCell ⟨w4.heap.size, 0, none⟩ (.string ⟨N.1.toArray⟩)).setCell ⟨w4.heap.size, 1, none⟩ (.slice A' m' c') = W8 := ⟨_, rfl⟩
              have h8 := HT8.out
              rw [hW8] at h8 ⊢
              have m0 : W8.cell? ⟨w4.heap.size, 0, none⟩ = some (.string ⟨N.1.toArray⟩) := blk_cell h8.box 0
              have H8 := Lib.hid h8
              have hse := self_is ⟨N.1.toArray⟩
              have hbb : (bad == bad) = true := by simp
              clear h8 hW8 HT8 e0 e1 z0 z1 f0 f1
              go_quiet ((go_at_call 26; exact out_q2 _ _ _ _ _ _ H8.out.st.is))
              go_wp2
              go_roundw
              case rel => exact ⟨k + 1, N.1, N.2, ⟨N.1.toArray⟩, _, hlt, hk2, by go_num, ⟨⟨H8.out.st.is, H8.out.st.kn, H8.out.st.good⟩, H8.out.box, H8.out.plc, ⟨H8.out.bel.os, H8.out.bel.tape, H8.out.bel.output, H8.out.bel.size, H8.out.bel.block⟩⟩, rfl, HNl.out⟩
              case measure => simp [intOf]; omega
    · have HLr := Lib.hid (HL.out.below H0.out HBw.out)
      have hcond : decide (k < l.length) = false ∨ (decide (k < l.length) = true ∧ decide ((k : Int) < 20) = false ∧ k < l.length) := by
        by_cases h : k < l.length
        · right; refine ⟨by simpa using h, ?_, h⟩; simp; omega
        · left; simpa using h
      have HC := Lib.hid hcond
      clear hcond hgo HT hsS
      go_upto_region 5 with (fail)
      go_cut [25] (fun q wx => q = .bool false ∧ wr = wx)
      case first =>
        rcases HC.out with g1 | ⟨g1, g2, g3⟩
        all_goals
          go_wp2_with fail
          go_meet
          case rel => exact ⟨rfl, rfl⟩
      case rest =>
        obtain ⟨rfl, rfl⟩ := hcut
        go_wp2_with fail
        refine (putr_nil _ _ _ _ _ _).mono ?_
        rintro e w8 ⟨rfl, hb8⟩
        have HB8 := Lib.hid (HBw.out.trans (hb8.mono HBw.out.size))
        clear hb8
        go_wp2_with fail
        refine (putq_nil _ _ _ _).mono ?_
        rintro e w9 ⟨rfl, hb9⟩
        have HB9 := Lib.hid (HB8.out.trans (hb9.mono HB8.out.size))
        clear hb9
        go_wp2_with fail
        go_ret
        exact ⟨rfl, HB9.out⟩
end Go.Proofs.YtlphbeaaeeohjaaDoor
