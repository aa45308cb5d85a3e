/- What the listed package-level variable (the table of the ranks' names) holds when a call begins; entries and pairs of numbers as arguments. -/
import Derived.Test.YtbcgkjfhfegeaaaDoorRka
import Derived.Test.YtbcgkjfhfegeaaaDoorRows
import Derived.ProofKit
import Derived.LaidMore
import Derived.OpenShut
import Derived.ShutString
import Derived.ChangeOld
import Derived.Stop.Joined
import Derived.Stop.LaidErr
import Derived.Lib.LaidTab
import Derived.SevenTiedAt
import Derived.SizedLaws
import Derived.Deep.Slices
import Derived.Carry
namespace Go.Proofs.YtbcgkjfhfegeaaaDoor
open Go.ChangeShapes Go.WideShapes Go.ChangeAt Go.RowKit

theorem own : ownKnob Tryd.prog.godebug = none := by kernel_rfl
theorem gLay : Tryd.prog.globalNamed "derrick/rank.names" = some 0 := by kernel_rfl
theorem tLay : (Tryd.prog.globals[0]?).map (·.type) = some 38 := by kernel_rfl
theorem c38 : Tryd.prog.cellsOf 38 = 6 := by kernel_rfl
theorem cell9 : Tryd.prog.cellsOf 9 = 1 := by kernel_rfl
theorem door_shaped (os : Os) (args : Array Value) : ((World.doorLaid Tryd.prog 400 os).forCall (fun _ _ => 0) ⟨#[], args, []⟩).Shaped Tryd.checked.prog := World.shaped_of_RefB (by kernel_rfl) (by kernel_rfl)
theorem door_met (os : Os) (args : Array Value) : laidMetH Tryd.prog Rows.rankTellsRow.laid ((World.doorLaid Tryd.prog 400 os).forCall (fun _ _ => 0) ⟨#[], args, []⟩).memory :=
  laidMetH_of_parts3 (fuel := 8) (laidMet_of_run' 8 (by kernel_rfl) (by kernel_rfl)) (by kernel_rfl) (by kernel_rfl)
theorem nat_u16 {n : Int} (h : (Lit.int .u16 n).wf = true) : ∃ k : Nat, n = k ∧ k < 65536 := by
  simp [Lit.wf, IntKind.min, IntKind.max, IntKind.signed, IntKind.bits] at h
  exact ⟨n.toNat, by omega, by omega⟩
theorem nat_u8 {n : Int} (h : (Lit.int .u8 n).wf = true) : ∃ k : Nat, n = k ∧ k < 256 := by
  simp [Lit.wf, IntKind.min, IntKind.max, IntKind.signed, IntKind.bits] at h
  exact ⟨n.toNat, by omega, by omega⟩
theorem nat_u32 {n : Int} (h : (Lit.int .u32 n).wf = true) : ∃ k : Nat, n = k ∧ k < 4294967296 := by
  simp [Lit.wf, IntKind.min, IntKind.max, IntKind.signed, IntKind.bits] at h
  exact ⟨n.toNat, by omega, by omega⟩
theorem nat_u64 {n : Int} (h : (Lit.int .u64 n).wf = true) : ∃ k : Nat, n = k ∧ k < 18446744073709551616 := by
  simp [Lit.wf, IntKind.min, IntKind.max, IntKind.signed, IntKind.bits] at h
  exact ⟨n.toNat, by omega, by omega⟩
theorem ba_inj {a b : ByteArray} (h : a.data.toList = b.data.toList) : a = b := by
  cases a; cases b
  simp only [ByteArray.mk.injEq]
  exact Array.toList_inj.1 h
theorem lay_rows : (Rows.laid_derrick_rank_names : DataW Unit) = .agg ((List.range 6).map fun i => .lit (.string (nmB i).data.toList)) := rfl
theorem ones : ∀ (f : Nat → Value) (n : Nat) (cs : List Value), cs.length = n → (∀ i, i < n → (cs.drop i).take 1 = [f i]) → cs = (List.range n).map f
  | f, 0, cs, h, _ => by rw [List.eq_nil_of_length_eq_zero h]; rfl
  | f, n + 1, cs, h, hf => by
    refine List.ext_getElem (by simpa using h) (fun i h1 h2 => ?_)
    have h3 := hf i (by omega)
    have h4 : ((cs.drop i).take 1)[0]? = some (f i) := by rw [h3]; rfl
    rw [List.getElem?_take, if_pos (by omega), List.getElem?_drop, Nat.add_zero, List.getElem?_eq_getElem h1] at h4
    simpa using h4
theorem lay_cells {w : World} {base : Nat} {sp : Nat → Bool} {held : Bool} {fuel : Nat} {cs : List Value} {q : List MemPlace}
    (h : DataW.trod (fun _ => ()) Tryd.prog w base sp held fuel 38 cs = some (Rows.laid_derrick_rank_names, q)) : cs = layC := by
  obtain ⟨xs, n, rfl, hx, hlen, hxl, hf⟩ := DataW.trod_array Tryd.underlying38 h
  rw [c38] at hlen
  have hd := congrArg Prod.fst hx
  rw [lay_rows] at hd
  simp only [DataW.agg.injEq] at hd
  refine ones (fun i => .string (nmB i)) 6 cs hlen (fun i hi => ?_)
  have hi2 := hf i hi
  rw [cell9, Nat.mul_one] at hi2
  have di : (xs.map (·.1))[i]? = some (.lit (.string (nmB i).data.toList)) := by rw [← hd]; simp [hi]
  rw [List.getElem?_map, Option.map_eq_some_iff] at di
  obtain ⟨⟨y, pl⟩, e1, f1⟩ := di
  simp only at f1
  subst f1
  rw [e1] at hi2
  obtain ⟨s, hs, hx, _⟩ := DataW.trod_string Tryd.underlying9 hi2
  have he : s.data.toList = (nmB i).data.toList := by
    have := congrArg Prod.fst hx
    simpa using this.symm
  rw [hs, ba_inj he]
theorem lay_of {W : World} (h : laidMetH Tryd.prog Rows.rankTellsRow.laid W) : Lay W := by
  rw [MakeChecks.laidMetH_plain _ _ _ (by kernel_rfl)] at h
  obtain ⟨ps, ⟨g', t', cs, fuel, p, q, hg', ht', hvar, hd, _, _⟩, _⟩ := h
  obtain rfl := Option.some.inj (gLay.symm.trans hg')
  obtain rfl := Option.some.inj (tLay.symm.trans ht')
  have hc := lay_cells hd
  unfold World.var? at hvar
  rw [gLay, Option.bind_some] at hvar
  split at hvar
  · rename_i cs' t f hh
    cases hvar
    refine ⟨t, f, ?_⟩
    rw [hh, ← hc]
  · cases hvar

theorem laidOut : laidOutB Tryd.prog = true := by kernel_rfl
theorem readE : Tryd.prog.readableRec 30 = true := by kernel_rfl
theorem sizeE : 30 < Tryd.prog.types.size := by decide +kernel
theorem readW : Tryd.prog.readableRec 23 = true := by kernel_rfl
theorem sizeW : 23 < Tryd.prog.types.size := by decide +kernel
theorem cell30 : Tryd.prog.cellsOf 30 = 7 := by kernel_rfl
theorem cell27 : Tryd.prog.cellsOf 27 = 3 := by kernel_rfl
theorem cell28 : Tryd.prog.cellsOf 28 = 1 := by kernel_rfl
theorem cell23 : Tryd.prog.cellsOf 23 = 2 := by kernel_rfl
theorem cell25 : Tryd.prog.cellsOf 25 = 1 := by kernel_rfl
theorem cell22 : Tryd.prog.cellsOf 22 = 1 := by kernel_rfl
theorem cell3 : Tryd.prog.cellsOf 3 = 1 := by kernel_rfl
theorem okWide_array {P : Program} {w : World} {r : Reach} {base : Nat} {t : TypeId} {v : Value} {n : Nat} {e : TypeId} (ht : P.underlying t = some (.array n e)) (h : Value.okWide P w r base t v) : ∃ cs, v = .agg cs ∧ cs.size = P.cellsOf t := by
  simp only [Value.okWide, ht] at h
  obtain ⟨cs, h1, h2, _⟩ := h
  exact ⟨cs, h1, h2⟩
section
variable {H : Type} {enc : TypeId × Value → H} {W : World} {base : Nat} {v : Value} {d : DataW H} {ps : List MemPlace}
theorem open_two64 (hok : Value.okWide Tryd.prog W .any base 23 v) (h : DataW.Trod enc Tryd.prog W 0 (fun _ => true) true 23 v d ps) :
    ∃ a b : Nat, v = .agg #[.int .u64 (a : Nat), .int .u64 (b : Nat)] ∧ a < 18446744073709551616 ∧ b < 18446744073709551616 := by
  obtain ⟨cs, rfl, hsz⟩ := okWide_array Tryd.underlying23 hok
  obtain ⟨fuel, hf⟩ := h
  obtain ⟨xs, n, _, _, hlen, hxl, hfs⟩ := DataW.trod_array Tryd.underlying23 hf
  rw [cell23] at hlen
  have h0 := hfs 0 (by omega)
  have h1 := hfs 1 (by omega)
  rw [List.getElem?_eq_getElem (by omega), cell22] at h0 h1
  have hcl : (Value.agg cs).cells.toList = cs.toList := rfl
  rw [hcl] at hlen h0 h1
  obtain ⟨L⟩ := cs
  match L, hlen with
  | [v0, v1], _ =>
    obtain ⟨a0, e0, _, s0⟩ := DataW.trod_int Tryd.underlying22 h0
    obtain ⟨a1, e1, _, s1⟩ := DataW.trod_int Tryd.underlying22 h1
    obtain ⟨a, rfl, ha⟩ := nat_u64 s0
    obtain ⟨b, rfl, hb⟩ := nat_u64 s1
    simp at e0 e1
    exact ⟨a, b, by rw [e0, e1], ha, hb⟩
set_option maxRecDepth 100000 in
theorem open_ent (hok : Value.okWide Tryd.prog W .any base 30 v) (h : DataW.Trod enc Tryd.prog W 0 (fun _ => true) true 30 v d ps) :
    ∃ (n : ByteArray) (t c : Nat) (sl : Value) (rc rk : Int) (ex : Nat), v = entV n t c sl rc rk ex ∧ t < 65536 ∧ c < 65536 ∧ ex < 18446744073709551616 := by
  obtain ⟨cs, rfl, hsz⟩ := okWide_struct Tryd.underlying30 hok
  obtain ⟨fuel, hf⟩ := h
  obtain ⟨xs, n, _, _, hlen, hxl, hfs⟩ := DataW.trod_struct Tryd.underlying30 hf
  rw [cell30] at hlen
  have hxl' : xs.length = 5 := hxl
  have h0 : DataW.trod enc Tryd.prog W 0 (fun _ => true) true n 27 (((Value.agg cs).cells.toList.drop 0).take (Tryd.prog.cellsOf 27)) = xs[0]? := hfs 0 _ rfl
  have h1 : DataW.trod enc Tryd.prog W 0 (fun _ => true) true n 28 (((Value.agg cs).cells.toList.drop 3).take (Tryd.prog.cellsOf 28)) = xs[1]? := hfs 1 _ rfl
  have h2 : DataW.trod enc Tryd.prog W 0 (fun _ => true) true n 3 (((Value.agg cs).cells.toList.drop 4).take (Tryd.prog.cellsOf 3)) = xs[2]? := hfs 2 _ rfl
  have h3 : DataW.trod enc Tryd.prog W 0 (fun _ => true) true n 3 (((Value.agg cs).cells.toList.drop 5).take (Tryd.prog.cellsOf 3)) = xs[3]? := hfs 3 _ rfl
  have h4 : DataW.trod enc Tryd.prog W 0 (fun _ => true) true n 22 (((Value.agg cs).cells.toList.drop 6).take (Tryd.prog.cellsOf 22)) = xs[4]? := hfs 4 _ rfl
  rw [List.getElem?_eq_getElem (by omega), cell27] at h0
  rw [List.getElem?_eq_getElem (by omega), cell3] at h2 h3
  rw [List.getElem?_eq_getElem (by omega), cell22] at h4
  have hcl : (Value.agg cs).cells.toList = cs.toList := rfl
  rw [hcl] at hlen h0 h1 h2 h3 h4
  obtain ⟨L⟩ := cs
  match L, hlen with
  | [v0, v1, v2, v3, v4, v5, v6], _ =>
    obtain ⟨ys, m, _, _, _, hyl, hq⟩ := DataW.trod_struct Tryd.underlying27 h0
    have hyl' : ys.length = 3 := hyl
    have q0 : DataW.trod enc Tryd.prog W 0 (fun _ => true) true m 9 ((([v0, v1, v2] : List Value).drop 0).take (Tryd.prog.cellsOf 9)) = ys[0]? := hq 0 _ rfl
    have q1 : DataW.trod enc Tryd.prog W 0 (fun _ => true) true m 25 ((([v0, v1, v2] : List Value).drop 1).take (Tryd.prog.cellsOf 25)) = ys[1]? := hq 1 _ rfl
    have q2 : DataW.trod enc Tryd.prog W 0 (fun _ => true) true m 25 ((([v0, v1, v2] : List Value).drop 2).take (Tryd.prog.cellsOf 25)) = ys[2]? := hq 2 _ rfl
    rw [List.getElem?_eq_getElem (by omega), cell9] at q0
    rw [List.getElem?_eq_getElem (by omega), cell25] at q1 q2
    obtain ⟨a0, e0, _, s0⟩ := DataW.trod_string Tryd.underlying9 q0
    obtain ⟨a1, e1, _, s1⟩ := DataW.trod_int Tryd.underlying25 q1
    obtain ⟨a2, e2, _, s2⟩ := DataW.trod_int Tryd.underlying25 q2
    obtain ⟨a4, e4, _, s4⟩ := DataW.trod_int Tryd.underlying3 h2
    obtain ⟨a5, e5, _, s5⟩ := DataW.trod_int Tryd.underlying3 h3
    obtain ⟨a6, e6, _, s6⟩ := DataW.trod_int Tryd.underlying22 h4
    obtain ⟨t, rfl, ht⟩ := nat_u16 s1
    obtain ⟨c, rfl, hc⟩ := nat_u16 s2
    obtain ⟨ex, rfl, hex⟩ := nat_u64 s6
    simp at e0 e1 e2 e4 e5 e6
    exact ⟨a0, t, c, v3, a4, a5, ex, by rw [e0, e1, e2, e4, e5, e6]; rfl, ht, hc, hex⟩
end
end Go.Proofs.YtbcgkjfhfegeaaaDoor
