/- The contracts of slices.Clone, Grow and Concat at questions and records; and of message's records. -/
import Derived.Test.YtnakljbginbenaaGreatDoorMmd
import Derived.Lib.AppendZeros
import Derived.Laws.AppendOwnNone
import Derived.Lib.SliceRun
import Derived.Lib.Walk
namespace Go.Proofs.YtnakljbginbenaaGreatDoor
open Go.RowKit
set_option linter.unusedVariables false

def zR : Value := .agg #[.string ⟨#[]⟩, .int .u16 0, .int .u16 0, .int .u32 0, .string ⟨#[]⟩]
def zQ : Value := .agg #[.string ⟨#[]⟩, .int .u16 0, .int .u16 0]
theorem elR : (Tryz.prog.info? 46).map (fun i => (i.zero, i.size, i.bytes)) = some (some zR, 5, 40) := by kernel_rfl
theorem elQ : (Tryz.prog.info? 48).map (fun i => (i.zero, i.size, i.bytes)) = some (some zQ, 3, 24) := by kernel_rfl
theorem el_of {t : TypeId} {z : Value} {a b : Nat} (h : (Tryz.prog.info? t).map (fun i => (i.zero, i.size, i.bytes)) = some (some z, a, b)) : ∃ i, Tryz.prog.info? t = some i ∧ i.zero = some z ∧ i.size = a ∧ i.bytes = b := by
  rw [Option.map_eq_some_iff] at h
  obtain ⟨i, h1, h2⟩ := h
  simp only [Prod.mk.injEq] at h2
  exact ⟨i, h1, h2.1, h2.2.1, h2.2.2⟩
theorem Sl.src {f : Rc → List Value} {w : World} {a : Addr} {cap : Nat} {l : List Rc} (h : Sl f w (some a) cap l) : ∀ j u, (l.flatMap f)[j]? = some u → w.cell? (a.add j) = some u := fun j u hj => by
  rcases h.has with h1 | ⟨b, off, h1, h2, h3⟩
  · rw [h1] at hj; simp at hj
  · cases h1
    rw [Addr.add_lit]
    exact h3 j u hj

theorem Sl.other {f : Rc → List Value} {w w' : World} {A : Option Addr} {cap g : Nat} {l : List Rc} (h : Sl f w A cap l) (hw : ∀ b, b ≠ g → w'.heap[b]? = w.heap[b]?) (hz : w.heap.size ≤ w'.heap.size) (hne : ∀ a, A = some a → a.block ≠ g) : Sl f w' A cap l := by
  refine ⟨h.nl, h.le, ?_⟩
  rcases h.has with h1 | ⟨b, off, h1, h2, h3⟩
  · exact .inl h1
  · refine .inr ⟨b, off, h1, Nat.lt_of_lt_of_le h2 hz, fun j u hj => ?_⟩
    have e : w'.cell? ⟨b, off + j, none⟩ = w.cell? ⟨b, off + j, none⟩ := by
      unfold World.cell?
      rw [hw b (hne _ h1)]
    rw [e]
    exact h3 j u hj
/-- A slice of records in a block of its own kind: it stays, whatever a pack does. -/
structure SlT (w : World) (A : Option Addr) (cap : Nat) (l : List Rc) : Prop where
  sl : Sl rf w A cap l
  blk : l = [] ∨ ∃ b off cur f, A = some ⟨b, off, none⟩ ∧ w.heap[b]? = some (.cells cur 46 f)
theorem SlT.own {w : World} {B : Nat} {v : Value} {l : List Rc} (h : w.ownsRow B 46 5 v l.length (l.flatMap rf)) : ∃ A cap, v = .slice A l.length cap ∧ SlT w A cap l := by
  obtain ⟨A, cap, hv, hs⟩ := Sl.own rf_len h
  refine ⟨A, cap, hv, hs, ?_⟩
  rcases h.2 with ⟨_, hn⟩ | ⟨g, cap', cur, hv', hB, hg, _⟩
  · exact .inl (List.eq_nil_of_length_eq_zero hn)
  · rw [hv] at hv'
    cases hv'
    exact .inr ⟨g, 0, cur, (0, 0), rfl, hg⟩
theorem SlT.kp {w w' : World} {A : Option Addr} {cap : Nat} {l : List Rc} (h : SlT w A cap l) (hk : Kp w w') : SlT w' A cap l := by
  rcases h.blk with h1 | ⟨b, off, cur, f, h1, h2⟩
  · exact ⟨⟨h.sl.nl, h.sl.le, .inl h1⟩, .inl h1⟩
  · have h3 := hk b cur _ f (by decide) (by decide) h2
    refine ⟨⟨h.sl.nl, h.sl.le, ?_⟩, .inr ⟨b, off, cur, f, h1, h3⟩⟩
    rcases h.sl.has with g1 | ⟨b', off', g1, g2, g3⟩
    · exact .inl g1
    · rw [h1] at g1
      cases g1
      refine .inr ⟨b, off, h1, heap_lt h3, fun j u hj => ?_⟩
      rw [cell_of_row w' b _ cur _ f h3, ← cell_of_row w b _ cur _ f h2]
      exact g3 j u hj

set_option maxRecDepth 100000 in
set_option maxHeartbeats 1000000 in
theorem cloneR_any (A : Option Addr) (cap : Nat) (l : List Rc) (hs : l.length ≤ 20000) (w : World) (hI : Sl rf w A cap l) :
    Calls Tryz.prog 74 #[.slice A l.length cap] w fun e w' => ∃ A' cap', e = .returned (.slice A' l.length cap') ∧ Sl rf w' A' cap' l ∧ Below w.heap.size w w' ∧ ∀ a, A' = some a → w.heap.size ≤ a.block := by
  have qn : ∀ (w : World) (a : Option Addr) (n c n' c' : Nat), (binOp .eql 24 (.slice a n c) (.slice none n' c')).run Tryz.prog w = .ok (.bool a.isNone) w := fun w a n c n' c' => Lib.run_eql_slice_nil w _ _ a n c n' c' Tryz.underlying24
  cases A with
  | none =>
    obtain rfl := hI.empty rfl
    have hz := hI.nl rfl
    subst hz
    go_enter Tryz.func74, Tryz.ntmps74
    go_wp2_with fail
    go_ret
    exact ⟨none, 0, rfl, Sl.nil _ _, Below.refl _ _, (fun a h => by cases h)⟩
  | some a =>
    obtain ⟨i0, hi, hz0, hz1, hz2⟩ := el_of elR
    have HI := Lib.hid hI.src
    clear hI
    go_enter Tryz.func74, Tryz.ntmps74
    go_wp2_with (at_builtin; refine wpList_append_own _ rfl _ _ 24 rfl w.heap.size 46 i0 zR 5 40 Tryz.underlying24 hi hz0 hz1 hz2 rfl (by decide) _ _ _ rfl (World.ownsRow_made w #[] 0 (Nat.le_refl _) (Nat.zero_le _) (by simp)) a l.length cap (l.flatMap rf) rfl (flat_len rf_len l) ?qc2 (rf_one l) ?qc4 ?qc5 ?qc6 ?_)
    case qc2 =>
      intro j u hj
      exact Lib.cell?_alloc_some _ (HI.out j u hj)
    case qc4 => unfold maxLen; omega
    case qc5 => omega
    case qc6 => simp
    intro v' w1 hown hgrow hnil
    have hown2 : w1.ownsRow w.heap.size 46 5 v' l.length (l.flatMap rf) := by simpa using hown
    have hb := ((Below.refl _ w).alloc (Nat.le_refl _) (Obj.cells #[] 46)).grown hgrow (by simp) (by intro k hk; simp [Value.ownBlock] at hk; omega)
    obtain ⟨A', cap', rfl, hS⟩ := Sl.own rf_len hown2
    have hfr : ∀ a, A' = some a → w.heap.size ≤ a.block := fun a ha => (hown2.lt a.block (by rw [ha]; rfl)).1
    have HF := Lib.hid (And.intro hS (And.intro hb hfr))
    clear hown hown2 hgrow hnil hb hS hfr
    go_wp2_with fail
    go_ret
    exact ⟨A', cap', rfl, HF.out.1, HF.out.2.1, HF.out.2.2⟩
set_option maxRecDepth 100000 in
set_option maxHeartbeats 1000000 in
theorem cloneQ_any (A : Option Addr) (cap : Nat) (l : List Rc) (hs : l.length ≤ 20000) (w : World) (hI : Sl qf w A cap l) :
    Calls Tryz.prog 35 #[.slice A l.length cap] w fun e w' => ∃ A' cap', e = .returned (.slice A' l.length cap') ∧ Sl qf w' A' cap' l ∧ Below w.heap.size w w' ∧ ∀ a, A' = some a → w.heap.size ≤ a.block := by
  have qn : ∀ (w : World) (a : Option Addr) (n c n' c' : Nat), (binOp .eql 23 (.slice a n c) (.slice none n' c')).run Tryz.prog w = .ok (.bool a.isNone) w := fun w a n c n' c' => Lib.run_eql_slice_nil w _ _ a n c n' c' Tryz.underlying23
  cases A with
  | none =>
    obtain rfl := hI.empty rfl
    have hz := hI.nl rfl
    subst hz
    go_enter Tryz.func35, Tryz.ntmps35
    go_wp2_with fail
    go_ret
    exact ⟨none, 0, rfl, Sl.nil _ _, Below.refl _ _, (fun a h => by cases h)⟩
  | some a =>
    obtain ⟨i0, hi, hz0, hz1, hz2⟩ := el_of elQ
    have HI := Lib.hid hI.src
    clear hI
    go_enter Tryz.func35, Tryz.ntmps35
    go_wp2_with (at_builtin; refine wpList_append_own _ rfl _ _ 23 rfl w.heap.size 48 i0 zQ 3 24 Tryz.underlying23 hi hz0 hz1 hz2 rfl (by decide) _ _ _ rfl (World.ownsRow_made w #[] 0 (Nat.le_refl _) (Nat.zero_le _) (by simp)) a l.length cap (l.flatMap qf) rfl (flat_len qf_len l) ?qc2 (qf_one l) ?qc4 ?qc5 ?qc6 ?_)
    case qc2 =>
      intro j u hj
      exact Lib.cell?_alloc_some _ (HI.out j u hj)
    case qc4 => unfold maxLen; omega
    case qc5 => omega
    case qc6 => simp
    intro v' w1 hown hgrow hnil
    have hown2 : w1.ownsRow w.heap.size 48 3 v' l.length (l.flatMap qf) := by simpa using hown
    have hb := ((Below.refl _ w).alloc (Nat.le_refl _) (Obj.cells #[] 48)).grown hgrow (by simp) (by intro k hk; simp [Value.ownBlock] at hk; omega)
    obtain ⟨A', cap', rfl, hS⟩ := Sl.own qf_len hown2
    have hfr : ∀ a, A' = some a → w.heap.size ≤ a.block := fun a ha => (hown2.lt a.block (by rw [ha]; rfl)).1
    have HF := Lib.hid (And.intro hS (And.intro hb hfr))
    clear hown hown2 hgrow hnil hb hS hfr
    go_wp2_with fail
    go_ret
    exact ⟨A', cap', rfl, HF.out.1, HF.out.2.1, HF.out.2.2⟩

theorem zR_cells (n : Nat) : (Builtin.zeroCells zR.cells n).size = n * 5 := by rw [size_zeroCells]; rfl
set_option maxRecDepth 100000 in
set_option maxHeartbeats 1000000 in
theorem grow_any (n : Nat) (hn : n ≤ 100000) (w : World) :
    Calls Tryz.prog 82 #[.slice none 0 0, .int .i64 n] w fun e w' => ∃ A cap, e = .returned (.slice A 0 cap) ∧ w'.ownsRow w.heap.size 46 5 (.slice A 0 cap) 0 [] ∧ Below w.heap.size w w' := by
  obtain ⟨i0, hi, hz0, hz1, hz2⟩ := el_of elR
  by_cases h0 : n = 0
  · subst h0
    go_enter Tryz.func82, Tryz.ntmps82
    go_wp2_with fail
    go_ret
    exact ⟨none, 0, rfl, World.ownsRow_nil _ _ _ _, Below.refl _ _⟩
  · have hr := fun ty => Lib.run_append_nil_zeros (P := Tryz.prog) w 24 3 ty 46 i0 zR .i64 .i64 Tryz.underlying24 Tryz.underlying3 hi hz0 n (by omega) (by omega) (by omega) (by rw [hz2]; omega)
    have hge := grownCap_ge w n 0 46
    have hle := grownCap_le_maxLen w n 0 46 (by unfold maxLen; omega)
    generalize grownCap w n 0 46 = G at hr hge hle
    have hcs : (Builtin.zeroCells zR.cells n ++ Builtin.zeroCells zR.cells (G - n)).size = G * 5 := by rw [Array.size_append, zR_cells, zR_cells, ← Nat.add_mul]; congr 1; omega
    generalize Builtin.zeroCells zR.cells n ++ Builtin.zeroCells zR.cells (G - n) = C at hr hcs
    have hm : G ≤ 9223372036854775807 := by unfold maxLen at hle; omega
    have hown := World.ownsRow_made (base := w.heap.size) (e := 46) (size := 5) w.drew C G (Nat.le_refl _) hle hcs
    have hb := ((Below.refl w.heap.size w).drew).alloc (Nat.le_refl _) (Obj.cells C 46)
    have HF := Lib.hid (And.intro hown hb)
    have n1 : decide ((n : Int) < 0) = false := by simp
    have n2 : decide ((n : Int) > 0) = true := by simp; omega
    clear hown hb hcs hz0 hz1 hz2 hi
    go_enter Tryz.func82, Tryz.ntmps82
    go_wp2_with (at_builtin; refine Lib.wpList_append_run _ rfl _ _ _ _ rfl _ _ rfl rfl _ _ (hr _) ?_)
    go_ret
    exact ⟨_, G, rfl, HF.out.1, HF.out.2⟩
end Go.Proofs.YtnakljbginbenaaGreatDoor
