/- The contract of New: a wheel that has nothing. -/
import Derived.Test.YtjjanogfcfapcaaWxa
import Derived.Test.YtjjanogfcfapcaaWhb
import Derived.RegionTactic
namespace Go.Proofs.Ytjjanogfcfapcaa.W
open Go.RowKit
open Go.Maps (Keyed)
set_option linter.unusedVariables false

theorem elMp : (Try.prog.info? 99).map (fun i => (i.zero, i.size, i.bytes)) = some (some (.map none), 1, 8) := by kernel_rfl
structure Nw (w : World) (s j : Nat) (wr : World) : Prop where
  sz : wr.heap.size = w.heap.size + 1 + j
  row : ∃ cur, wr.heap[w.heap.size]? = some (.cells cur 99 (0, 0)) ∧ cur.size = s ∧ ∀ i, i < s → cur[i]? = some (if i < j then .map (some (w.heap.size + 1 + i)) else .map none)
  mp : ∀ i, i < j → wr.heap[w.heap.size + 1 + i]? = some (.map #[] 0)
  bel : Below w.heap.size w wr
theorem Nw.step {w wr : World} {s j : Nat} (h : Nw w s j wr) (hj : j < s) : Nw w s (j + 1) ((wr.alloc (.map #[] 0)).setCell ⟨w.heap.size, j, none⟩ (.map (some (w.heap.size + 1 + j)))) := by
  obtain ⟨cur, hc, hcs, hce⟩ := h.row
  have hg := World.grownBy_alloc wr (Obj.map #[] 0) none
  have hsz := h.sz
  have old : ∀ i, i < wr.heap.size → (wr.alloc (.map #[] 0)).heap[i]? = wr.heap[i]? := fun i hi => hg.block i hi (by simp)
  have far : ∀ i, i ≠ w.heap.size → ((wr.alloc (.map #[] 0)).setCell ⟨w.heap.size, j, none⟩ (.map (some (w.heap.size + 1 + j)))).heap[i]? = (wr.alloc (.map #[] 0)).heap[i]? := fun i hi => RowKit.Below.heap_setCell _ _ _ _ hi
  have hrow : ((wr.alloc (.map #[] 0)).setCell ⟨w.heap.size, j, none⟩ (.map (some (w.heap.size + 1 + j)))).heap[w.heap.size]? = some (.cells (cur.setIfInBounds j (.map (some (w.heap.size + 1 + j)))) 99 (0, 0)) := by
    have := (old w.heap.size (by omega)).trans hc
    simp [World.setCell, Array.getElem?_modify, this]
  refine ⟨?_, ⟨_, hrow, by simpa using hcs, fun i hi => ?_⟩, fun i hi => ?_, ?_⟩
  · simp [World.setCell, hsz]; omega
  · rw [Array.getElem?_setIfInBounds]
    by_cases e : j = i
    · subst e; rw [if_pos rfl, if_pos (by omega), if_pos (by omega)]
    · rw [if_neg e, hce i hi]
      by_cases c : i < j
      · rw [if_pos c, if_pos (by omega)]
      · rw [if_neg c, if_neg (by omega)]
  · rw [far _ (by omega)]
    by_cases e : i = j
    · subst e
      have := (MapKept.heap_alloc wr (Obj.map #[] 0)).1
      rw [hsz] at this
      exact this
    · rw [old _ (by omega)]
      exact h.mp i (by omega)
  · have hb := h.bel.alloc h.bel.size (Obj.map #[] 0)
    refine ⟨hb.os, hb.tape, hb.output, ?_, fun i hi => ?_⟩
    · have := hb.size
      simpa [World.setCell] using this
    · rw [far i (by omega)]
      exact hb.block i hi
theorem Nw.wl {w w' : World} {s : Nat} (h : Nw w s s w') (h1 : 1 ≤ s) (h2 : s ≤ 256) : Wl (w'.alloc (.cells #[.slice (some ⟨w.heap.size, 0, none⟩) s s] 101)) w'.heap.size w.heap.size s 0 (fun i => w.heap.size + 1 + i) [] := by
  obtain ⟨cur, hc, hcs, hce⟩ := h.row
  have hsz := h.sz
  have old : ∀ i, i < w'.heap.size → (w'.alloc (.cells #[.slice (some ⟨w.heap.size, 0, none⟩) s s] 101)).heap[i]? = w'.heap[i]? := fun i hi => (World.grownBy_alloc w' _ none).block i hi (by simp)
  have hb := heap_alloc_new w' (Obj.cells #[.slice (some ⟨w.heap.size, 0, none⟩) s s] 101)
  exact ⟨by rw [blk_cell hb]; rfl, fun i hi => by rw [blk_cell ((old _ (by omega)).trans hc), hce i hi, if_pos hi], fun i hi => ⟨_, ⟨#[], 0, (old _ (by omega)).trans (h.mp i hi), ⟨by simp, MapKept.stamped_empty 0, by simp⟩, Nat.le_refl _, rfl⟩, tells_nil⟩, fun i j _ _ e => by omega, ⟨List.Pairwise.nil, List.nodup_nil⟩, h1, h2⟩
set_option maxHeartbeats 2000000 in
theorem new_any (s : Nat) (h1 : 1 ≤ s) (h2 : s ≤ 256) (w : World) : Calls Try.prog 27 #[.int .i64 (s : Nat)] w fun e w' => ∃ g sb bm, e = .returned (.pointer (some ⟨g, 0, none⟩)) ∧ Wl w' g sb s 0 bm [] ∧ Below w.heap.size w w' ∧ w.heap.size ≤ g ∧ w.heap.size ≤ sb ∧ ∀ j, j < s → w.heap.size ≤ bm j := by
  obtain ⟨i0, hi, hz0, hz1, hz2⟩ := el_of elMp
  have hmk := run_make w 98 99 i0 (.map none) (P := Try.prog) Try.underlying98 hi hz0 .i64 .i64 s s (by omega) (by omega) (by rw [hz2]; omega) (by omega)
  have hmm := @run_makeMap Try.prog 99
  rw [hz1, Int.toNat_natCast, Nat.mul_one] at hmk
  obtain ⟨cs, hcs⟩ : ∃ cs, madeCells (Value.map none).cells s = cs := ⟨_, rfl⟩
  have hcz : cs.size = s := by rw [← hcs]; simp [size_madeCells]
  have hce : ∀ i, i < s → cs[i]? = some (.map none) := by
    intro i hi
    rw [← hcs]
    simp [madeCells, Value.cells, hi, Nat.mod_one]
  rw [hcs] at hmk
  have hb0 := heap_alloc_new w (Obj.cells cs 99)
  have hl0 := (Below.refl w.heap.size w).alloc (Nat.le_refl _) (Obj.cells cs 99)
  have es : (w.alloc (Obj.cells cs 99)).heap.size = w.heap.size + 1 := by simp
  generalize w.alloc (Obj.cells cs 99) = w1 at *
  have HN := Lib.hid (show Nw w s 0 w1 from ⟨es, ⟨cs, hb0, hcz, fun i hi => by rw [hce i hi]; rfl⟩, fun i hi => absurd hi (Nat.not_lt_zero _), hl0⟩)
  clear hb0 hl0 hcs hcz hce hi hz0 hz1 hz2
  have d1 : decide ((s : Int) < 1) = false := by simp; omega
  have d2 : decide ((256 : Int) < s) = false := by simp; omega
  have HE := Lib.hid es
  go_enter Try.func27, Try.ntmps27
  go_wp2_with fail
  go_loopw [15] (fun x wr => ∃ j : Nat, j ≤ s ∧ x = .int .i64 j ∧ Nw w s j wr) (fun x _ => s - (intOf x).toNat)
  case atStart => exact ⟨0, Nat.zero_le _, rfl, HN.out⟩
  case round =>
    obtain ⟨j, hj, rfl, hN⟩ := hrel
    by_cases hlt : j < s
    · have d3 : decide ((j : Int) < (s : Nat)) = true := by simp; omega
      have s0 : (0 : Int) ≤ (j : Nat) := by omega
      have s1 : (j : Int) < (s : Nat) := by omega
      obtain ⟨cur, hc, hcs, hce⟩ := hN.row
      have hsz := hN.sz
      have hal : ∀ i, i < wr.heap.size → (wr.alloc (.map #[] 0)).heap[i]? = wr.heap[i]? := fun i hi => (World.grownBy_alloc wr (Obj.map #[] 0) none).block i hi (by simp)
      have hr := (hal w.heap.size (by omega)).trans hc
      have c1 : (wr.alloc (.map #[] 0)).cell? ⟨w.heap.size, j, none⟩ = some (.map none) := by
        rw [blk_cell hr, hce j hlt, if_neg (Nat.lt_irrefl _)]
      have f1 : (wr.alloc (.map #[] 0)).frozen? ⟨w.heap.size, j, none⟩ = false := by
        simp [World.frozen?, hr]
      have HNj := Lib.hid (hN.step hlt)
      clear hc hcs hce hN hr hal
      rw [← hsz] at HNj
      clear hsz
      go_wp2_with fail
      exact ⟨⟨j + 1, hlt, by go_num, HNj.out⟩, by simp [intOf]; omega⟩
    · have e : j = s := by omega
      subst e
      have d3 : decide ((j : Int) < (j : Nat)) = false := by simp
      have HNj := Lib.hid hN
      clear hN
      go_wp2_with fail
      go_ret
      have hsz := HNj.out.sz
      exact ⟨_, _, _, rfl, HNj.out.wl h1 h2, HNj.out.bel.alloc HNj.out.bel.size _, by omega, Nat.le_refl _, fun i _ => by omega⟩
set_option maxHeartbeats 1000000 in
theorem new_none (z : Int) (h : z < 1 ∨ 256 < z) (w : World) : Calls Try.prog 27 #[.int .i64 z] w fun e w' => e = .returned (.pointer none) ∧ w' = w := by
  by_cases h1 : z < 1
  · have d1 : decide (z < 1) = true := by simp [h1]
    go_enter Try.func27, Try.ntmps27
    go_wp2_with fail
    go_ret
    exact ⟨rfl, rfl⟩
  · have d1 : decide (z < 1) = false := by simp; omega
    have d2 : decide (256 < z) = true := by simp; omega
    go_enter Try.func27, Try.ntmps27
    go_wp2_with fail
    go_ret
    exact ⟨rfl, rfl⟩
end Go.Proofs.Ytjjanogfcfapcaa.W
