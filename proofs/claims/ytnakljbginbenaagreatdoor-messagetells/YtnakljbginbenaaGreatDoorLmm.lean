/- Messages (api.Msg) as arguments are read. -/
import Derived.Test.YtnakljbginbenaaGreatDoorMmi
import Derived.Test.YtnakljbginbenaaGreatDoorLad
import Derived.ProofKit
import Derived.OpenShut
import Derived.Deep.Slices
import Derived.Deep.SlicePairs
import Derived.Carry
namespace Go.Proofs.YtnakljbginbenaaGreatDoor
open Go.ChangeShapes Go.WideShapes Go.ChangeAt Go.RowKit Go.Deep
set_option linter.unusedVariables false
theorem laidOut : laidOutB Tryz.prog = true := by kernel_rfl
theorem readM : Tryz.prog.readableRec 26 = true := by kernel_rfl
theorem sizeM : 26 < Tryz.prog.types.size := by decide +kernel
theorem cellM : Tryz.prog.cellsOf 26 = 12 := by kernel_rfl
theorem cellR : Tryz.prog.cellsOf 46 = 5 := by kernel_rfl
theorem cellQ : Tryz.prog.cellsOf 48 = 3 := by kernel_rfl
theorem cellsR : Tryz.prog.cellsOf 24 = 1 := by kernel_rfl
theorem cellsQ : Tryz.prog.cellsOf 23 = 1 := by kernel_rfl
theorem cell9 : Tryz.prog.cellsOf 9 = 1 := by kernel_rfl
theorem cell16 : Tryz.prog.cellsOf 22 = 1 := by kernel_rfl
theorem cell32 : Tryz.prog.cellsOf 44 = 1 := by kernel_rfl
theorem cellI : Tryz.prog.cellsOf 3 = 1 := by kernel_rfl
theorem cell4 : Tryz.prog.cellsOf 4 = 1 := by kernel_rfl
theorem nat_u32 {n : Int} (h : (Lit.int .u32 n).wf = true) : ∃ k : Nat, n = k ∧ k < 4294967296 := by
  simp [Lit.wf, IntKind.min, IntKind.max, IntKind.signed, IntKind.bits] at h
  exact ⟨n.toNat, by omega, by omega⟩
theorem cell_lt {w : World} {p : Addr} {v : Value} (h : w.cell? p = some v) : p.block < w.heap.size := by
  rcases Nat.lt_or_ge p.block w.heap.size with h1 | h1
  · exact h1
  · unfold World.cell? at h
    rw [Array.getElem?_eq_none h1] at h
    cases h
section
variable {H : Type} {enc : TypeId × Value → H} {w : World} {base : Nat} {sp : Nat → Bool} {held : Bool}
set_option maxRecDepth 100000 in
theorem rr_cells {fuel : Nat} {cs : List Value} {x : DataW H × List MemPlace} (h : DataW.trod enc Tryz.prog w base sp held fuel 46 cs = some x) :
    ∃ r : Rc, cs = rf r ∧ r.Ok := by
  obtain ⟨xs, n, _, _, hlen, hxl, hf⟩ := DataW.trod_struct Tryz.underlying46 h
  rw [cellR] at hlen
  have hxl' : xs.length = 5 := hxl
  have h0 : DataW.trod enc Tryz.prog w base sp held n 9 ((cs.drop 0).take (Tryz.prog.cellsOf 9)) = xs[0]? := hf 0 _ rfl
  have h1 : DataW.trod enc Tryz.prog w base sp held n 22 ((cs.drop 1).take (Tryz.prog.cellsOf 22)) = xs[1]? := hf 1 _ rfl
  have h2 : DataW.trod enc Tryz.prog w base sp held n 22 ((cs.drop 2).take (Tryz.prog.cellsOf 22)) = xs[2]? := hf 2 _ rfl
  have h3 : DataW.trod enc Tryz.prog w base sp held n 44 ((cs.drop 3).take (Tryz.prog.cellsOf 44)) = xs[3]? := hf 3 _ rfl
  have h4 : DataW.trod enc Tryz.prog w base sp held n 9 ((cs.drop 4).take (Tryz.prog.cellsOf 9)) = xs[4]? := hf 4 _ rfl
  rw [List.getElem?_eq_getElem (by omega), cell9] at h0 h4
  rw [List.getElem?_eq_getElem (by omega), cell16] at h1 h2
  rw [List.getElem?_eq_getElem (by omega), cell32] at h3
  match cs, hlen with
  | [v0, v1, v2, v3, v4], _ =>
    obtain ⟨a0, e0, _, s0⟩ := DataW.trod_string Tryz.underlying9 h0
    obtain ⟨a1, e1, _, s1⟩ := DataW.trod_int Tryz.underlying22 h1
    obtain ⟨a2, e2, _, s2⟩ := DataW.trod_int Tryz.underlying22 h2
    obtain ⟨a3, e3, _, s3⟩ := DataW.trod_int Tryz.underlying44 h3
    obtain ⟨a4, e4, _, s4⟩ := DataW.trod_string Tryz.underlying9 h4
    obtain ⟨k, rfl, hk⟩ := nat_u16 s1
    obtain ⟨c, rfl, hc⟩ := nat_u16 s2
    obtain ⟨t, rfl, ht⟩ := nat_u32 s3
    simp at e0 e1 e2 e3 e4
    exact ⟨⟨a0, k, c, t, a4⟩, by rw [e0, e1, e2, e3, e4]; rfl, ⟨hk, hc, ht⟩⟩
set_option maxRecDepth 100000 in
theorem qq_cells {fuel : Nat} {cs : List Value} {x : DataW H × List MemPlace} (h : DataW.trod enc Tryz.prog w base sp held fuel 48 cs = some x) :
    ∃ r : Rc, cs = qf r ∧ (r.Ok ∧ r = r.ask) := by
  obtain ⟨xs, n, _, _, hlen, hxl, hf⟩ := DataW.trod_struct Tryz.underlying48 h
  rw [cellQ] at hlen
  have hxl' : xs.length = 3 := hxl
  have h0 : DataW.trod enc Tryz.prog w base sp held n 9 ((cs.drop 0).take (Tryz.prog.cellsOf 9)) = xs[0]? := hf 0 _ rfl
  have h1 : DataW.trod enc Tryz.prog w base sp held n 22 ((cs.drop 1).take (Tryz.prog.cellsOf 22)) = xs[1]? := hf 1 _ rfl
  have h2 : DataW.trod enc Tryz.prog w base sp held n 22 ((cs.drop 2).take (Tryz.prog.cellsOf 22)) = xs[2]? := hf 2 _ rfl
  rw [List.getElem?_eq_getElem (by omega), cell9] at h0
  rw [List.getElem?_eq_getElem (by omega), cell16] at h1 h2
  match cs, hlen with
  | [v0, v1, v2], _ =>
    obtain ⟨a0, e0, _, s0⟩ := DataW.trod_string Tryz.underlying9 h0
    obtain ⟨a1, e1, _, s1⟩ := DataW.trod_int Tryz.underlying22 h1
    obtain ⟨a2, e2, _, s2⟩ := DataW.trod_int Tryz.underlying22 h2
    obtain ⟨k, rfl, hk⟩ := nat_u16 s1
    obtain ⟨c, rfl, hc⟩ := nat_u16 s2
    simp at e0 e1 e2
    exact ⟨⟨a0, k, c, 0, ⟨#[]⟩⟩, by rw [e0, e1, e2]; rfl, ⟨hk, hc, by show (0 : Nat) < 4294967296; omega⟩, rfl⟩
end
instance : Inhabited Rc := ⟨Rc.zero⟩
/-- Elements that lie one behind the other. -/
theorem sl_of {f : Rc → List Value} {k : Nat} (hk : ∀ r, (f r).length = k) (hk0 : 0 < k) {G : Rc → Prop} {W : World} {a : Addr} {len cap : Nat} (hl : len ≤ cap) (each : ∀ i, i < len → ∃ r : Rc, G r ∧ W.cells? 0 (a.add (i * k)) k = some (f r)) :
    ∃ l : List Rc, l.length = len ∧ Sl f W (some a) cap l ∧ ∀ r ∈ l, G r := by
  obtain ⟨Q, hQ⟩ := choose_lt each
  refine ⟨(List.range len).map Q, by simp, ⟨(fun h => by cases h), by simpa using hl, ?_⟩, fun r hr => ?_⟩
  · rcases Nat.eq_zero_or_pos len with h0 | h0
    · left
      rw [h0]
      rfl
    · right
      obtain ⟨_, _, hatz⟩ := World.cells?_some (hQ 0 h0).2
      have qz := hatz 0 hk0
      rw [List.getElem?_eq_getElem (by rw [hk]; exact hk0)] at qz
      obtain ⟨sb, so, spot⟩ := a
      have hspot : spot = none := by simpa [Addr.add] using World.cell?_spot qz
      subst hspot
      have hlt : sb < W.heap.size := by simpa [Addr.add] using cell_lt qz
      refine ⟨sb, so, rfl, hlt, fun j u hj => ?_⟩
      have hjl : j < len * k := by
        have := (List.getElem?_eq_some_iff.1 hj).1
        rw [flat_len hk] at this
        simpa using this
      have hi : j / k < len := Nat.div_lt_of_lt_mul (by rw [Nat.mul_comm]; exact hjl)
      have hm : j % k < k := Nat.mod_lt _ hk0
      have hjj : j / k * k + j % k = j := by rw [Nat.mul_comm]; exact Nat.div_add_mod j k
      have hfa := flat_at hk ((List.range len).map Q) (j / k) (j % k) (by simpa using hi) hm
      rw [hjj, hj] at hfa
      simp only [List.getElem_map, List.getElem_range] at hfa
      obtain ⟨_, _, hat⟩ := World.cells?_some (hQ (j / k) hi).2
      have hc := hat (j % k) hm
      rw [add_plain, add_plain, Nat.add_assoc, hjj] at hc
      rw [hc]
      exact hfa.symm
  · obtain ⟨i, hi', rfl⟩ := List.mem_map.1 hr
    exact (hQ i (List.mem_range.1 hi')).1
section
variable {H : Type} {enc : TypeId × Value → H} {W : World}
theorem rrs_cell {fuel : Nat} {c : Value} {x : DataW H × List MemPlace} (hf : DataW.trod enc Tryz.prog W 0 (fun _ => true) true fuel 24 [c] = some x) : ∃ A cap l, c = .slice A l.length cap ∧ Sl rf W A cap l ∧ (∀ r ∈ l, r.Ok) ∧ l.length ≤ 9223372036854775807 := by
  rcases open_slice Tryz.underlying24 hf with ⟨hcs, hx⟩ | ⟨a, len, cap, m, n, D, Pl, hcs, _, hl, hm, hmm, hx, hi⟩
  · simp at hcs
    subst hcs
    exact ⟨none, 0, [], rfl, Sl.nil _ _, (fun r hr => by cases hr), by simp⟩
  · simp at hcs
    subst hcs
    simp only [if_true] at hmm
    rw [cellR] at hi
    obtain ⟨l, h1, h2, h3⟩ := sl_of (f := rf) (G := Rc.Ok) rf_len (by decide) hl (fun i hil => by
      obtain ⟨cs', g1, g2⟩ := hi i (by omega)
      obtain ⟨r, rfl, g4⟩ := rr_cells g2
      exact ⟨r, g4, g1⟩)
    exact ⟨some a, cap, l, by rw [h1], h2, h3, by unfold maxLen at hm; omega⟩
theorem qqs_cell {fuel : Nat} {c : Value} {x : DataW H × List MemPlace} (hf : DataW.trod enc Tryz.prog W 0 (fun _ => true) true fuel 23 [c] = some x) : ∃ A cap l, c = .slice A l.length cap ∧ Sl qf W A cap l ∧ (∀ r ∈ l, r.Ok ∧ r = r.ask) ∧ l.length ≤ 9223372036854775807 := by
  rcases open_slice Tryz.underlying23 hf with ⟨hcs, hx⟩ | ⟨a, len, cap, m, n, D, Pl, hcs, _, hl, hm, hmm, hx, hi⟩
  · simp at hcs
    subst hcs
    exact ⟨none, 0, [], rfl, Sl.nil _ _, (fun r hr => by cases hr), by simp⟩
  · simp at hcs
    subst hcs
    simp only [if_true] at hmm
    rw [cellQ] at hi
    obtain ⟨l, h1, h2, h3⟩ := sl_of (f := qf) (G := fun r => r.Ok ∧ r = r.ask) qf_len (by decide) hl (fun i hil => by
      obtain ⟨cs', g1, g2⟩ := hi i (by omega)
      obtain ⟨r, rfl, g4⟩ := qq_cells g2
      exact ⟨r, g4, g1⟩)
    exact ⟨some a, cap, l, by rw [h1], h2, h3, by unfold maxLen at hm; omega⟩
end
set_option maxRecDepth 100000 in
theorem open_msg {H : Type} {enc : TypeId × Value → H} {W : World} {base : Nat} {v : Value} {d : DataW H} {ps : List MemPlace} (hok : Value.okWide Tryz.prog W .any base 26 v) (h : DataW.Trod enc Tryz.prog W 0 (fun _ => true) true 26 v d ps) :
    ∃ (m : Ms) (e : Ad), v = .agg (msV m e) ∧ Mg W m e ∧ m.Ok := by
  obtain ⟨cs, rfl, hsz⟩ := okWide_struct Tryz.underlying26 hok
  obtain ⟨fuel, hf⟩ := h
  obtain ⟨xs, n, _, _, hlen, hxl, hfs⟩ := DataW.trod_struct Tryz.underlying26 hf
  rw [cellM] at hlen
  have hxl' : xs.length = 12 := hxl
  have h0 : DataW.trod enc Tryz.prog W 0 (fun _ => true) true n 22 (((Value.agg cs).cells.toList.drop 0).take (Tryz.prog.cellsOf 22)) = xs[0]? := hfs 0 _ rfl
  have h1 : DataW.trod enc Tryz.prog W 0 (fun _ => true) true n 4 (((Value.agg cs).cells.toList.drop 1).take (Tryz.prog.cellsOf 4)) = xs[1]? := hfs 1 _ rfl
  have h2 : DataW.trod enc Tryz.prog W 0 (fun _ => true) true n 4 (((Value.agg cs).cells.toList.drop 2).take (Tryz.prog.cellsOf 4)) = xs[2]? := hfs 2 _ rfl
  have h3 : DataW.trod enc Tryz.prog W 0 (fun _ => true) true n 4 (((Value.agg cs).cells.toList.drop 3).take (Tryz.prog.cellsOf 4)) = xs[3]? := hfs 3 _ rfl
  have h4 : DataW.trod enc Tryz.prog W 0 (fun _ => true) true n 4 (((Value.agg cs).cells.toList.drop 4).take (Tryz.prog.cellsOf 4)) = xs[4]? := hfs 4 _ rfl
  have h5 : DataW.trod enc Tryz.prog W 0 (fun _ => true) true n 4 (((Value.agg cs).cells.toList.drop 5).take (Tryz.prog.cellsOf 4)) = xs[5]? := hfs 5 _ rfl
  have h6 : DataW.trod enc Tryz.prog W 0 (fun _ => true) true n 3 (((Value.agg cs).cells.toList.drop 6).take (Tryz.prog.cellsOf 3)) = xs[6]? := hfs 6 _ rfl
  have h7 : DataW.trod enc Tryz.prog W 0 (fun _ => true) true n 3 (((Value.agg cs).cells.toList.drop 7).take (Tryz.prog.cellsOf 3)) = xs[7]? := hfs 7 _ rfl
  have h8 : DataW.trod enc Tryz.prog W 0 (fun _ => true) true n 23 (((Value.agg cs).cells.toList.drop 8).take (Tryz.prog.cellsOf 23)) = xs[8]? := hfs 8 _ rfl
  have h9 : DataW.trod enc Tryz.prog W 0 (fun _ => true) true n 24 (((Value.agg cs).cells.toList.drop 9).take (Tryz.prog.cellsOf 24)) = xs[9]? := hfs 9 _ rfl
  have h10 : DataW.trod enc Tryz.prog W 0 (fun _ => true) true n 24 (((Value.agg cs).cells.toList.drop 10).take (Tryz.prog.cellsOf 24)) = xs[10]? := hfs 10 _ rfl
  have h11 : DataW.trod enc Tryz.prog W 0 (fun _ => true) true n 24 (((Value.agg cs).cells.toList.drop 11).take (Tryz.prog.cellsOf 24)) = xs[11]? := hfs 11 _ rfl
  rw [List.getElem?_eq_getElem (by omega), cell16] at h0
  rw [List.getElem?_eq_getElem (by omega), cell4] at h1 h2 h3 h4 h5
  rw [List.getElem?_eq_getElem (by omega), cellI] at h6 h7
  rw [List.getElem?_eq_getElem (by omega), cellsQ] at h8
  rw [List.getElem?_eq_getElem (by omega), cellsR] at h9 h10 h11
  have hcl : (Value.agg cs).cells.toList = cs.toList := rfl
  rw [hcl] at hlen h0 h1 h2 h3 h4 h5 h6 h7 h8 h9 h10 h11
  obtain ⟨L⟩ := cs
  match L, hlen with
  | [v0, v1, v2, v3, v4, v5, v6, v7, v8, v9, v10, v11], _ =>
    obtain ⟨a0, e0, _, s0⟩ := DataW.trod_int Tryz.underlying22 h0
    obtain ⟨a1, e1, _⟩ := DataW.trod_bool Tryz.underlying4 h1
    obtain ⟨a2, e2, _⟩ := DataW.trod_bool Tryz.underlying4 h2
    obtain ⟨a3, e3, _⟩ := DataW.trod_bool Tryz.underlying4 h3
    obtain ⟨a4, e4, _⟩ := DataW.trod_bool Tryz.underlying4 h4
    obtain ⟨a5, e5, _⟩ := DataW.trod_bool Tryz.underlying4 h5
    obtain ⟨a6, e6, _, s6⟩ := DataW.trod_int Tryz.underlying3 h6
    obtain ⟨a7, e7, _, s7⟩ := DataW.trod_int Tryz.underlying3 h7
    obtain ⟨aq, cq, q, e8, g8, k8, _⟩ := qqs_cell (c := v8) h8
    obtain ⟨b1, c1, l1, e9, g9, k9, _⟩ := rrs_cell (c := v9) h9
    obtain ⟨b2, c2, l2, e10, g10, k10, _⟩ := rrs_cell (c := v10) h10
    obtain ⟨b3, c3, l3, e11, g11, k11, _⟩ := rrs_cell (c := v11) h11
    obtain ⟨i, rfl, hi⟩ := nat_u16 s0
    simp at e0 e1 e2 e3 e4 e5 e6 e7
    refine ⟨⟨i, a1, a2, a3, a4, a5, a6, a7, q, l1, l2, l3⟩, ⟨aq, cq, b1, c1, b2, c2, b3, c3⟩, ?_, ⟨g8, g9, g10, g11⟩, ⟨hi, k8, k9, k10, k11⟩⟩
    rw [e0, e1, e2, e3, e4, e5, e6, e7, e8, e9, e10, e11]
    rfl
end Go.Proofs.YtnakljbginbenaaGreatDoor
