/- The contract of (*wire.Pack).learn: a name becomes known. -/
import Derived.Test.YtlphbeaaeeohjaaDoorWpa
import Derived.RegionTactic
namespace Go.Proofs.YtlphbeaaeeohjaaDoor
open Go.RowKit Go.Maps
set_option linter.unusedVariables false

theorem law9 : Keyed Tryd.prog 9 := string_keyed Tryd.underlying9
theorem zero3 (w : World) : (zeroValue 3).run Tryd.prog w = .ok (.int .i64 0) w := by kernel_rfl
theorem key_str (n : ByteArray) (h : n.size ≤ maxLen) : keyOf Tryd.prog 9 (.string n) = some (.string n.data.toList) := WideMaps.keyOf_string_mk Tryd.underlying9 h

theorem map_ne (bm : Nat) (w : World) : (binOp .eql 75 (.map (some bm)) (.map none)).run Tryd.prog w = .ok (.bool false) w := by kernel_rfl
theorem map_eq (w : World) : (binOp .eql 75 (.map none) (.map none)).run Tryd.prog w = .ok (.bool true) w := by kernel_rfl

set_option maxHeartbeats 400000 in
theorem learn_map (B b bm m : Nat) (D : DataW Unit) (S : List UInt8) (L : Kn) (n : ByteArray) (w : World) (h : IsP B b S L w) (c1 : w.cell? ⟨b, 1, none⟩ = some (.map (some bm))) (hown : w.ownsMap Tryd.prog 9 (plainElem Tryd.prog 3) bm m D) (hm : m < maxLen) (hn : n.size ≤ maxLen) (hl : S.length < 16384) :
    Calls Tryd.prog 72 #[.pointer (some ⟨b, 0, none⟩), .string n] w fun e w' => e = .returned (.tuple #[]) ∧ ∃ w1, w1.ownsMap Tryd.prog 9 (plainElem Tryd.prog 3) bm (m + 1) (D.put (.string n.data.toList) (.lit (.int .i64 (S.length : Nat)))) ∧ w.drew.mapTurned w1 bm ∧ w' = w1 := by
  have hwf : (Lit.int .i64 ((S.length : Nat) : Int)).wf = true := WalkArith.wf_i64 (by omega)
  obtain ⟨w1, hrun, hown1, hturn⟩ := (show w.drew.ownsMap Tryd.prog 9 (plainElem Tryd.prog 3) bm m D from hown).store law9 Tryd.underlying75 hm (key_str n hn) (plainElem_int (H := Unit) Tryd.underlying3 hwf)
  have hP : IsP B b S L w.drew := h
  have b1 : decide (16384 ≤ (S.length : Int)) = false := by simp; omega
  have H1 := Lib.hid hown1
  have H2 := Lib.hid hturn
  have HR := Lib.hid hrun
  have HP := Lib.hid hP
  clear hown1 hturn hown hrun hP hwf hm hn
  have hne := map_ne bm w
  go_enter Tryd.func72, Tryd.ntmps72
  go_wp2_with (go_at_call 27; refine (len_any B b S L _ h).mono ?_; rintro e w2 ⟨rfl, rfl⟩)
  have hrun := HR.out
  clear hne
  go_region_with (go_at_call 27; refine (len_any B b S L _ HP.out).mono ?_; rintro e w2 ⟨rfl, rfl⟩)
  all_goals
    go_end0
    exact ⟨rfl, _, H1.out, H2.out, rfl⟩

theorem isM_put {B bm m : Nat} {D : DataW Unit} {L : Kn} {w : World} {k : List UInt8} {a : Nat} (hB : B ≤ bm) (hm : m ≤ L.length) (hown : w.ownsMap Tryd.prog 9 (plainElem Tryd.prog 3) bm (m + 1) (D.put (.string k) (.lit (.int .i64 (a : Nat))))) (hD : IsMap D)
    (hk : ∀ k, has D (.string k) = (fnd L k).isSome ∧ ∀ a, fnd L k = some a → D.atKey (.string k) (.lit (.int .i64 0)) = .lit (.int .i64 (a : Nat))) (hno : fnd L k = none) : IsM B (.map (some bm)) (L ++ [(k, a)]) w := by
  refine .inr ⟨bm, m + 1, _, rfl, hB, hown, by simp; exact hm, fun k' => ?_⟩
  rw [fnd_append]
  by_cases e : k' = k
  · subst e
    rw [has_put_same hD (k := .string k') trivial, hno, fnd_self]
    refine ⟨rfl, fun a' ha => ?_⟩
    rw [atKey_put_same hD (k := .string k') trivial]
    cases ha
    rfl
  · have hne : Lit.string k' ≠ Lit.string k := fun h => e (by cases h; rfl)
    have h1 : fnd [(k, a)] k' = none := fnd_none fun p hp h => by rw [List.mem_singleton.1 hp] at h; exact e h.symm
    rw [has_put_other hne, atKey_put_other hne, h1, Option.or_none]
    exact hk k'

set_option maxHeartbeats 400000 in
theorem learn_none (B b : Nat) (v : Value) (S : List UInt8) (n : ByteArray) (w : World) (hBb : B ≤ b) (hB : B ≤ w.heap.size) (hb : w.heap[b]? = some (.cells #[v, .map none] 77 (0, 0))) (hrow : w.ownsRow B 5 1 v S.length (Lib.byteCells S)) (hn : n.size ≤ maxLen) (hl : S.length < 16384) :
    Calls Tryd.prog 72 #[.pointer (some ⟨b, 0, none⟩), .string n] w fun e w' => e = .returned (.tuple #[]) ∧ IsP B b S (lrn S [] n.data.toList) w' ∧ Below B w w' ∧ Kp w w' := by
  have hwf : (Lit.int .i64 ((S.length : Nat) : Int)).wf = true := WalkArith.wf_i64 (by omega)
  have hlt := heap_lt hb
  have hbA : (w.alloc (.map #[] 0)).heap[b]? = some (.cells #[v, .map none] 77 (0, 0)) := (Below.heap_alloc w _ b hlt).trans hb
  obtain ⟨W, hW⟩ : ∃ W, W = (w.alloc (.map #[] 0)).setCell ⟨b, 1, none⟩ (.map (some w.heap.size)) := ⟨_, rfl⟩
  have hset := grown_set (w.alloc (.map #[] 0)) ⟨b, 1, none⟩ (.map (some w.heap.size))
  rw [← hW] at hset
  have hbW : W.heap[b]? = some (.cells #[v, .map (some w.heap.size)] 77 (0, 0)) := by rw [hW]; exact blk_set hbA 1 _
  have hownW : W.ownsMap Tryd.prog 9 (plainElem Tryd.prog 3) w.heap.size 0 (.map [] : DataW Unit) := (World.ownsMap_made w Tryd.prog 9 (plainElem Tryd.prog 3)).kept hset (fun e => by have e' : w.heap.size = b := Option.some.inj e; omega)
  have hrowW : W.ownsRow B 5 1 v S.length (Lib.byteCells S) := (hrow.alloc _).kept hset (by
      cases hv : v.ownBlock with
      | none => exact .inl rfl
      | some g =>
        refine .inr (fun e => ?_)
        obtain ⟨_, cur, h2⟩ := row_is hrow g hv
        cases e
        rw [hb] at h2
        cases h2)
  have hPW : IsP B b S [] W.drew := ⟨hBb, v, _, hbW, hrowW, .inr ⟨_, 0, _, rfl, hB, hownW, by simp, fun k => ⟨rfl, fun a ha => by cases ha⟩⟩⟩
  have hP : IsP B b S [] w := ⟨hBb, v, _, hb, hrow, .inl ⟨rfl, rfl⟩⟩
  have hbelW : Below B w W := by rw [hW]; exact ((Below.refl B w).alloc hB _).setCell hBb _
  have hkpW : Kp w W := (Kp.grown (World.grownBy_alloc w (.map #[] 0) none) (fun g hg => by cases hg)).trans (Kp.grown hset (fun g hg => by cases hg; exact .inr (.inl ⟨_, _, hbA⟩)))
  obtain ⟨w1, hrun, hown1, hturn⟩ := (show W.drew.ownsMap Tryd.prog 9 (plainElem Tryd.prog 3) w.heap.size 0 (.map [] : DataW Unit) from hownW).store law9 Tryd.underlying75 (by decide) (key_str n hn) (plainElem_int (H := Unit) Tryd.underlying3 hwf)
  have hg0 := hturn.grown
  have hg1 : W.grownBy w1 (some w.heap.size) := ⟨hg0.os, hg0.tape, hg0.output, hg0.size, hg0.block⟩
  have hfin : IsP B b S (lrn S [] n.data.toList) w1 := by
    unfold lrn
    rw [if_pos hl]
    refine ⟨hBb, v, _, (hg1.block b (heap_lt hbW) (fun e => by have e' : b = w.heap.size := Option.some.inj e; omega)).trans hbW, hrowW.kept hg1 ?_, isM_put hB (Nat.le_refl _) hown1 isMap_empty (fun k => ⟨rfl, fun a ha => by cases ha⟩) rfl⟩
    cases hv : v.ownBlock with
    | none => exact .inl rfl
    | some g =>
      refine .inr (fun e => ?_)
      have h2 := (hrow.lt g hv).2
      have e' : g = w.heap.size := Option.some.inj e
      omega
  have hbel : Below B w w1 := hbelW.grown hg1 (Nat.le_trans hB hbelW.size) (fun k hk => by cases hk; exact hB)
  have hkp : Kp w w1 := hkpW.trans (Kp.grown hg1 (fun g hg => by cases hg; obtain ⟨es, c, h1, _⟩ := hownW; exact .inr (.inr ⟨_, _, h1⟩)))
  have b1 : decide (16384 ≤ (S.length : Int)) = false := by simp; omega
  have hme := map_eq w
  have c0 : w.cell? ⟨b, 1, none⟩ = some (.map none) := blk_cell hb 1
  have c1 : (w.alloc (.map #[] 0)).cell? ⟨b, 1, none⟩ = some (.map none) := blk_cell hbA 1
  have f1 : (w.alloc (.map #[] 0)).frozen? ⟨b, 1, none⟩ = false := blk_frozen hbA 1
  have c2 : W.cell? ⟨b, 1, none⟩ = some (.map (some w.heap.size)) := blk_cell hbW 1
  have HR := Lib.hid hrun
  have HP := Lib.hid hPW
  have HF := Lib.hid (And.intro hfin (And.intro hbel hkp))
  have HW := Lib.hid hW
  have HC := Lib.hid c2
  clear hg0 hown1 hturn hrun hPW hwf hn hbA hset hbW hownW hrowW hbelW hkpW hg1 hfin hbel hkp hlt hb hrow c2 hW
  have hmm := @run_makeMap Tryd.prog
  go_enter Tryd.func72, Tryd.ntmps72
  go_wp2_with (go_at_call 27; refine (len_any B b S [] _ hP).mono ?_; rintro e w2 ⟨rfl, rfl⟩)
  rw [← HW.out]
  have hrun := HR.out
  have c2 := HC.out
  clear hmm hme c0 c1 f1 hP
  go_region_with (go_at_call 27; refine (len_any B b S [] _ HP.out).mono ?_; rintro e w2 ⟨rfl, rfl⟩)
  all_goals
    go_end0
    exact ⟨rfl, HF.out.1, HF.out.2.1, HF.out.2.2⟩
end Go.Proofs.YtlphbeaaeeohjaaDoor
