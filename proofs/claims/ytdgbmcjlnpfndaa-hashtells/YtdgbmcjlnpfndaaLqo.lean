/- Questions (api.Question), and slices of them, as arguments are read. -/
import Derived.Test.YtdgbmcjlnpfndaaQsl
import Derived.ProofKit
import Derived.OpenShut
import Derived.Deep.Slices
import Derived.Deep.SlicePairs
import Derived.Carry
namespace Go.Proofs.Ytdgbmcjlnpfndaa
open Go.ChangeShapes Go.WideShapes Go.ChangeAt Go.RowKit Go.Deep
set_option linter.unusedVariables false
theorem laidOut : laidOutB Try.prog = true := by kernel_rfl
theorem readq : Try.prog.readableRec 24 = true := by kernel_rfl
theorem sizeq : 24 < Try.prog.types.size := by decide +kernel
theorem readk : Try.prog.readableRec 25 = true := by kernel_rfl
theorem sizek : 25 < Try.prog.types.size := by decide +kernel
theorem cellQ : Try.prog.cellsOf 24 = 3 := by kernel_rfl
theorem cell9 : Try.prog.cellsOf 9 = 1 := by kernel_rfl
theorem cell16 : Try.prog.cellsOf 22 = 1 := by kernel_rfl
theorem nat_u16 {n : Int} (h : (Lit.int .u16 n).wf = true) : ∃ k : Nat, n = k ∧ k < 65536 := by
  simp [Lit.wf, IntKind.min, IntKind.max, IntKind.signed, IntKind.bits] at h
  exact ⟨n.toNat, by omega, by omega⟩
theorem cell_lt {w : World} {p : Addr} {v : Value} (h : w.cell? p = some v) : p.block < w.heap.size := by
  rcases Nat.lt_or_ge p.block w.heap.size with h1 | h1
  · exact h1
  · unfold World.cell? at h
    rw [Array.getElem?_eq_none h1] at h
    cases h
section
variable {H : Type} {enc : TypeId × Value → H} {w : World} {base : Nat} {sp : Nat → Bool} {held : Bool}
set_option maxRecDepth 100000 in
theorem qq_cells {fuel : Nat} {cs : List Value} {x : DataW H × List MemPlace} (h : DataW.trod enc Try.prog w base sp held fuel 24 cs = some x) :
    ∃ r : Rc, cs = qf r ∧ r.Ok := by
  obtain ⟨xs, n, _, _, hlen, hxl, hf⟩ := DataW.trod_struct Try.underlying24 h
  rw [cellQ] at hlen
  have hxl' : xs.length = 3 := hxl
  have h0 : DataW.trod enc Try.prog w base sp held n 9 ((cs.drop 0).take (Try.prog.cellsOf 9)) = xs[0]? := hf 0 _ rfl
  have h1 : DataW.trod enc Try.prog w base sp held n 22 ((cs.drop 1).take (Try.prog.cellsOf 22)) = xs[1]? := hf 1 _ rfl
  have h2 : DataW.trod enc Try.prog w base sp held n 22 ((cs.drop 2).take (Try.prog.cellsOf 22)) = xs[2]? := hf 2 _ rfl
  rw [List.getElem?_eq_getElem (by omega), cell9] at h0
  rw [List.getElem?_eq_getElem (by omega), cell16] at h1 h2
  match cs, hlen with
  | [v0, v1, v2], _ =>
    obtain ⟨a0, e0, _, s0⟩ := DataW.trod_string Try.underlying9 h0
    obtain ⟨a1, e1, _, s1⟩ := DataW.trod_int Try.underlying22 h1
    obtain ⟨a2, e2, _, s2⟩ := DataW.trod_int Try.underlying22 h2
    obtain ⟨k, rfl, hk⟩ := nat_u16 s1
    obtain ⟨c, rfl, hc⟩ := nat_u16 s2
    simp at e0 e1 e2
    exact ⟨⟨a0, k, c, 0, ⟨#[]⟩⟩, by rw [e0, e1, e2]; rfl, hk, hc, (by show (0 : Nat) < 4294967296; omega)⟩
end
instance : Inhabited Rc := ⟨Rc.zero⟩
/-- Elements that lie one behind the other. -/
theorem sl_of {f : Rc → List Value} {k : Nat} (hk : ∀ r, (f r).length = k) (hk0 : 0 < k) {G : Rc → Prop} {W : World} {a : Addr} {len cap : Nat} (hl : len ≤ cap) (each : ∀ i, i < len → ∃ r : Rc, G r ∧ W.cells? 0 (a.add (i * k)) k = some (f r)) :
    ∃ l : List Rc, l.length = len ∧ Sl f W (some a) cap l ∧ ∀ r ∈ l, G r := by
  obtain ⟨Q, hQ⟩ := choose_lt each
  refine ⟨(List.range len).map Q, by simp, ⟨(fun h => by cases h), by simpa using hl, ?_⟩, fun r hr => ?_⟩
  · rcases Nat.eq_zero_or_pos len with h0 | h0
    · left
      rw [h0]
      rfl
    · right
      obtain ⟨_, _, hatz⟩ := World.cells?_some (hQ 0 h0).2
      have qz := hatz 0 hk0
      rw [List.getElem?_eq_getElem (by rw [hk]; exact hk0)] at qz
      obtain ⟨sb, so, spot⟩ := a
      have hspot : spot = none := by simpa [Addr.add] using World.cell?_spot qz
      subst hspot
      have hlt : sb < W.heap.size := by simpa [Addr.add] using cell_lt qz
      refine ⟨sb, so, rfl, hlt, fun j u hj => ?_⟩
      have hjl : j < len * k := by
        have := (List.getElem?_eq_some_iff.1 hj).1
        rw [flat_len hk] at this
        simpa using this
      have hi : j / k < len := Nat.div_lt_of_lt_mul (by rw [Nat.mul_comm]; exact hjl)
      have hm : j % k < k := Nat.mod_lt _ hk0
      have hjj : j / k * k + j % k = j := by rw [Nat.mul_comm]; exact Nat.div_add_mod j k
      have hfa := flat_at hk ((List.range len).map Q) (j / k) (j % k) (by simpa using hi) hm
      rw [hjj, hj] at hfa
      simp only [List.getElem_map, List.getElem_range] at hfa
      obtain ⟨_, _, hat⟩ := World.cells?_some (hQ (j / k) hi).2
      have hc := hat (j % k) hm
      rw [add_plain, add_plain, Nat.add_assoc, hjj] at hc
      rw [hc]
      exact hfa.symm
  · obtain ⟨i, hi', rfl⟩ := List.mem_map.1 hr
    exact (hQ i (List.mem_range.1 hi')).1
section
variable {H : Type} {enc : TypeId × Value → H} {W : World}
theorem qqs_cell {fuel : Nat} {c : Value} {x : DataW H × List MemPlace} (hf : DataW.trod enc Try.prog W 0 (fun _ => true) true fuel 25 [c] = some x) : ∃ A cap l, c = .slice A l.length cap ∧ Sl qf W A cap l ∧ (∀ r ∈ l, r.Ok) ∧ l.length ≤ 9223372036854775807 := by
  rcases open_slice Try.underlying25 hf with ⟨hcs, hx⟩ | ⟨a, len, cap, m, n, D, Pl, hcs, _, hl, hm, hmm, hx, hi⟩
  · simp at hcs
    subst hcs
    exact ⟨none, 0, [], rfl, Sl.nil _ _, (fun r hr => by cases hr), by simp⟩
  · simp at hcs
    subst hcs
    simp only [if_true] at hmm
    rw [cellQ] at hi
    obtain ⟨l, h1, h2, h3⟩ := sl_of (f := qf) (G := Rc.Ok) qf_len (by decide) hl (fun i hil => by
      obtain ⟨cs', g1, g2⟩ := hi i (by omega)
      obtain ⟨r, rfl, g4⟩ := qq_cells g2
      exact ⟨r, g4, g1⟩)
    exact ⟨some a, cap, l, by rw [h1], h2, h3, by unfold maxLen at hm; omega⟩
end
theorem open_qs {H : Type} {enc : TypeId × Value → H} {W : World} {base : Nat} {v : Value} {d : DataW H} {ps : List MemPlace} (hok : Value.okWide Try.prog W .any base 25 v) (h : DataW.Trod enc Try.prog W 0 (fun _ => true) true 25 v d ps) :
    ∃ A cap l, v = .slice A l.length cap ∧ Sl qf W A cap l ∧ (∀ r ∈ l, r.Ok) ∧ l.length ≤ 9223372036854775807 := by
  obtain ⟨a0, len, cap, rfl⟩ := okWide_slice Try.underlying25 hok
  obtain ⟨fuel, hf⟩ := h
  exact qqs_cell hf
theorem open_qq {H : Type} {enc : TypeId × Value → H} {W : World} {base : Nat} {v : Value} {d : DataW H} {ps : List MemPlace} (hok : Value.okWide Try.prog W .any base 24 v) (h : DataW.Trod enc Try.prog W 0 (fun _ => true) true 24 v d ps) :
    ∃ r : Rc, v = qV r ∧ r.Ok := by
  obtain ⟨cs, rfl, hsz⟩ := okWide_struct Try.underlying24 hok
  obtain ⟨fuel, hf⟩ := h
  obtain ⟨r, hr, hok'⟩ := qq_cells hf
  refine ⟨r, ?_, hok'⟩
  have : cs.toList = [.string r.n, .int .u16 (r.k : Nat), .int .u16 (r.c : Nat)] := by simpa [Value.cells, qf] using hr
  unfold qV
  rw [← this]
theorem ba_len (s : ByteArray) : s.data.toList.length = s.size := by simp
theorem nat_u8 {n : Int} (h : (Lit.int .u8 n).wf = true) : ∃ k : Nat, n = k ∧ k < 256 := by
  simp [Lit.wf, IntKind.min, IntKind.max, IntKind.signed, IntKind.bits] at h
  exact ⟨n.toNat, by omega, by omega⟩
end Go.Proofs.Ytdgbmcjlnpfndaa
