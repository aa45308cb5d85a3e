/- What the listed package-level variable (the table of the parts of data) holds when a call begins. -/
import Derived.Test.YtnakljbginbenaaGreatDoorBrd
import Derived.Test.YtnakljbginbenaaGreatDoorRows
import Derived.ProofKit
import Derived.LaidMore
import Derived.OpenShut
import Derived.ShutString
import Derived.ChangeOld
import Derived.Stop.Joined
import Derived.Stop.LaidErr
import Derived.Lib.LaidTab
import Derived.SevenTiedAt
import Derived.SizedLaws
namespace Go.Proofs.YtnakljbginbenaaGreatDoor
open Go.ChangeShapes Go.WideShapes Go.ChangeAt Go.RowKit

theorem own : ownKnob Tryz.prog.godebug = none := by kernel_rfl
theorem gLay : Tryz.prog.globalNamed "derrick/rdata.layouts" = some 0 := by kernel_rfl
theorem tLay : (Tryz.prog.globals[0]?).map (·.type) = some 190 := by kernel_rfl
theorem c105 : Tryz.prog.cellsOf 190 = 32 := by kernel_rfl
theorem c104 : Tryz.prog.cellsOf 189 = 4 := by kernel_rfl
theorem c81 : Tryz.prog.cellsOf 180 = 3 := by kernel_rfl
theorem c80 : Tryz.prog.cellsOf 179 = 1 := by kernel_rfl
theorem c22 : Tryz.prog.cellsOf 22 = 1 := by kernel_rfl
theorem door_shaped (os : Os) (args : Array Value) : ((World.doorLaid Tryz.prog 400 os).forCall (fun _ _ => 0) ⟨#[], args, []⟩).Shaped Tryz.checked.prog := World.shaped_of_RefB (by kernel_rfl) (by kernel_rfl)
theorem door_met (os : Os) (args : Array Value) : laidMetH Tryz.prog Rows.messageTellsRow.laid ((World.doorLaid Tryz.prog 400 os).forCall (fun _ _ => 0) ⟨#[], args, []⟩).memory :=
  laidMetH_of_parts3 (fuel := 8) (laidMet_of_run' 8 (by kernel_rfl) (by kernel_rfl)) (by kernel_rfl) (by kernel_rfl)
theorem nat_u16 {n : Int} (h : (Lit.int .u16 n).wf = true) : ∃ k : Nat, n = k ∧ k < 65536 := by
  simp [Lit.wf, IntKind.min, IntKind.max, IntKind.signed, IntKind.bits] at h
  exact ⟨n.toNat, by omega, by omega⟩
theorem nat_u8 {n : Int} (h : (Lit.int .u8 n).wf = true) : ∃ k : Nat, n = k ∧ k < 256 := by
  simp [Lit.wf, IntKind.min, IntKind.max, IntKind.signed, IntKind.bits] at h
  exact ⟨n.toNat, by omega, by omega⟩
/-- A row of the table. -/
def rowD {H : Type} (r : Int × Int × Int × Int) : DataW H := .agg [.lit (.int .u16 r.1), Lib.tabData .i64 [r.2.1, r.2.2.1, r.2.2.2]]
theorem row_of {H : Type} {enc : TypeId × Value → H} {w : World} {base : Nat} {sp : Nat → Bool} {held : Bool} {fuel : Nat} {cs : List Value} {r : Int × Int × Int × Int} {q : List MemPlace}
    (h : DataW.trod enc Tryz.prog w base sp held fuel 189 cs = some (rowD r, q)) : cs = [.int .u16 r.1, .int .i64 r.2.1, .int .i64 r.2.2.1, .int .i64 r.2.2.2] := by
  obtain ⟨xs, n, rfl, hx, hlen, hxl, hf⟩ := DataW.trod_struct Tryz.underlying189 h
  rw [c104] at hlen
  have h0 : DataW.trod enc Tryz.prog w base sp held n 22 ((cs.drop 0).take (Tryz.prog.cellsOf 22)) = xs[0]? := hf 0 _ rfl
  have h1 : DataW.trod enc Tryz.prog w base sp held n 180 ((cs.drop 1).take (Tryz.prog.cellsOf 180)) = xs[1]? := hf 1 _ rfl
  rw [c22] at h0
  rw [c81] at h1
  have hd := congrArg Prod.fst hx
  simp only [rowD, DataW.agg.injEq] at hd
  have d0 : (xs.map (·.1))[0]? = some (.lit (.int .u16 r.1)) := by rw [← hd]; rfl
  have d1 : (xs.map (·.1))[1]? = some (Lib.tabData .i64 [r.2.1, r.2.2.1, r.2.2.2]) := by rw [← hd]; rfl
  rw [List.getElem?_map, Option.map_eq_some_iff] at d0 d1
  obtain ⟨x0, e0, f0⟩ := d0
  obtain ⟨x1, e1, f1⟩ := d1
  rw [e0] at h0
  rw [e1] at h1
  obtain ⟨z, hz, rfl, _⟩ := DataW.trod_int Tryz.underlying22 h0
  have hzr : z = r.1 := by
    simp only [DataW.lit.injEq, Lit.int.injEq, true_and] at f0
    exact f0
  obtain ⟨y, pl⟩ := x1
  simp only at f1
  subst f1
  have ht := Lib.cells_of_tab Tryz.underlying180 Tryz.underlying179 c80 c81 h1
  have hcs : cs = (cs.drop 0).take 1 ++ (cs.drop 1).take 3 := by
    rw [List.drop_zero, List.take_of_length_le (l := cs.drop 1) (by rw [List.length_drop]; omega), List.take_append_drop]
  rw [hcs, hz, ht, hzr]
  rfl
theorem lay_rows : (Rows.laid_derrick_rdata_layouts : DataW Unit) = .agg ((List.range 8).map fun i => rowD (layR i)) := rfl
theorem four_rows : ∀ (f : Nat → List Value) (n : Nat) (cs : List Value), cs.length = 4 * n → (∀ i, i < n → (cs.drop (i * 4)).take 4 = f i) → cs = (List.range n).flatMap f
  | f, 0, cs, h, _ => by
    rw [List.eq_nil_of_length_eq_zero h]; rfl
  | f, n + 1, cs, h, hf => by
    have h1 := four_rows f n (cs.take (4 * n)) (by rw [List.length_take]; omega) (fun i hi => by
      rw [List.drop_take, List.take_take, show min 4 (4 * n - i * 4) = 4 by omega]
      exact hf i (by omega))
    have h2 := hf n (by omega)
    rw [List.range_succ, List.flatMap_append, ← h1]
    simp only [List.flatMap_cons, List.flatMap_nil, List.append_nil]
    rw [← h2, List.take_of_length_le (l := cs.drop (n * 4)) (by rw [List.length_drop]; omega), show n * 4 = 4 * n by omega, List.take_append_drop]
theorem lay_cells {w : World} {base : Nat} {sp : Nat → Bool} {held : Bool} {fuel : Nat} {cs : List Value} {q : List MemPlace}
    (h : DataW.trod (fun _ => ()) Tryz.prog w base sp held fuel 190 cs = some (Rows.laid_derrick_rdata_layouts, q)) : cs = layC := by
  obtain ⟨xs, n, rfl, hx, hlen, hxl, hf⟩ := DataW.trod_array Tryz.underlying190 h
  rw [c105] at hlen
  have hd := congrArg Prod.fst hx
  rw [lay_rows] at hd
  simp only [DataW.agg.injEq] at hd
  refine four_rows rowV 8 cs hlen (fun i hi => ?_)
  have hi2 := hf i hi
  rw [c104] at hi2
  have di : (xs.map (·.1))[i]? = some (rowD (layR i)) := by rw [← hd]; simp [hi]
  rw [List.getElem?_map, Option.map_eq_some_iff] at di
  obtain ⟨⟨y, pl⟩, e1, f1⟩ := di
  simp only at f1
  subst f1
  rw [e1] at hi2
  exact row_of hi2
theorem lay_of {W : World} (h : laidMetH Tryz.prog Rows.messageTellsRow.laid W) : Lay W := by
  rw [MakeChecks.laidMetH_plain _ _ _ (by kernel_rfl)] at h
  obtain ⟨ps, ⟨g', t', cs, fuel, p, q, hg', ht', hvar, hd, _, _⟩, _⟩ := h
  obtain rfl := Option.some.inj (gLay.symm.trans hg')
  obtain rfl := Option.some.inj (tLay.symm.trans ht')
  have hc := lay_cells hd
  unfold World.var? at hvar
  rw [gLay, Option.bind_some] at hvar
  split at hvar
  · rename_i cs' t f hh
    cases hvar
    refine ⟨t, f, ?_⟩
    rw [hh, ← hc]
  · cases hvar
end Go.Proofs.YtnakljbginbenaaGreatDoor
