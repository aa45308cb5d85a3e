/- The wheel's order by its contract. -/
import Derived.Test.YtjjanogfcfapcaaWqj
namespace Go.Proofs.Ytjjanogfcfapcaa.W
open Go.RowKit Go.Shelf Go.Sort
open Go.Maps (Keyed)
open Go.Proofs (SW Row1 ltOf)
set_option linter.unusedVariables false
/-- Only draws and new blocks. -/
def Gr (w w' : World) : Prop := ∃ (q : Nat) (os : Array Obj), w' = grow (w.drewN q) os
theorem Gr.refl (w : World) : Gr w w := ⟨0, #[], by rw [grow_empty]; rfl⟩
theorem Gr.drewN {w w' : World} (h : Gr w w') (k : Nat) : Gr w (w'.drewN k) := by
  obtain ⟨q, os, rfl⟩ := h
  exact ⟨q + k, os, by show grow ((w.drewN q).drewN k) os = _; rw [World.drewN_drewN]⟩
theorem Gr.drew {w w' : World} (h : Gr w w') : Gr w w'.drew := h.drewN 1
theorem Gr.alloc {w w' : World} (h : Gr w w') (o : Obj) : Gr w (w'.alloc o) := by
  obtain ⟨q, os, rfl⟩ := h
  exact ⟨q, os ++ #[o], by rw [alloc_eq_grow, grow_grow]⟩
theorem Gr.grown {w w' : World} (h : Gr w w') : w.grownBy w' none := by
  obtain ⟨q, os, rfl⟩ := h
  exact ⟨rfl, rfl, rfl, by rw [size_grow]; exact Nat.le_add_right _ _, fun i hi _ => heap_grow_old _ _ hi⟩
theorem Wl.gr {w w' : World} {g sb s n : Nat} {bm : Nat → Nat} {l : List Ti} (h : Wl w g sb s n bm l) (hg : Gr w w') : Wl w' g sb s n bm l := h.keptBut hg.grown (by simp) (by simp) (fun _ _ => by simp)
theorem Mp.run {P : Program} {k e t : TypeId} {w : World} {b n : Nat} {l : List Ti} (h : Mp P k e w b n l) (K : Keyed P k) (ht : P.underlying t = some (.map k e)) (hk : P.underlying k = some (.int .i64)) (he : P.underlying e = some (.int .u64)) (hz : (zeroValue e).run P w = .ok (.int .u64 0) w)
    (id : Int) (hw : (Lit.int .i64 id).wf = true) : (Instr.lookup t (.map (some b)) (.int .i64 id) false).run P w = .ok (.int .u64 (((look l id).getD 0 : Nat) : Int)) w := by
  obtain ⟨D, hown, T⟩ := h
  obtain ⟨c, hrun, hat, _⟩ := hown.lookup_int K ht he hz (Maps.keyOf_int_mk hk hw)
  rw [T.at_] at hat
  cases hl : look l id with
  | none => rw [hl] at hat; cases hat; exact hrun
  | some v => rw [hl] at hat; cases hat; exact hrun
theorem Wl.run {w : World} {g sb s n : Nat} {bm : Nat → Nat} {l : List Ti} (h : Wl w g sb s n bm l) (id : Int) (hw : (Lit.int .i64 id).wf = true) : (Instr.lookup 99 (.map (some (bm (spk s id)))) (.int .i64 id) false).run Try.prog w = .ok (.int .u64 (((look l id).getD 0 : Nat) : Int)) w := by
  have q := (h.mp _ (spk_lt h.pos id)).run keyedI Try.underlying99 Try.underlying3 Try.underlying37 (zeroU _) id hw
  rw [part_look (l := l) (fun i => spk s i == spk s id) id, if_pos (by simp)] at q
  exact q
theorem cellA (w : World) (a b : Value) (T : TypeId) : (w.alloc (.cells #[a, b] T)).cell? ⟨w.heap.size, 0, none⟩ = some a := by
  have e : (w.alloc (.cells #[a, b] T)).heap[w.heap.size]? = some (.cells #[a, b] T) := by rw [alloc_eq_grow]; unfold grow; simp
  unfold World.cell?
  simp only [e]
  rfl
theorem cellB (w : World) (a b : Value) (T : TypeId) : (w.alloc (.cells #[a, b] T)).cell? ⟨w.heap.size, 1, none⟩ = some b := by
  have e : (w.alloc (.cells #[a, b] T)).heap[w.heap.size]? = some (.cells #[a, b] T) := by rw [alloc_eq_grow]; unfold grow; simp
  unfold World.cell?
  simp only [e]
  rfl
/-- What the order says. -/
def cfW (l : List Ti) (x y : Ik) : Int := orZ (cmpZ ((look l x.1).getD 0 : Nat) ((look l y.1).getD 0 : Nat)) (cmpZ x.1 y.1)
set_option maxRecDepth 1000000 in
set_option maxHeartbeats 4000000 in
theorem order_any (x y : Ik) {w : World} {g sb s n : Nat} {bm : Nat → Nat} {l : List Ti} (h : Wl w g sb s n bm l) :
    Calls Try.prog 59 #[.pointer (some ⟨g, 0, none⟩), eK x, eK y] w fun e w' => e = .returned (.int .i64 (cfW l x y)) ∧ Gr w w' := by
  obtain ⟨x, hx⟩ := x
  obtain ⟨y, hy⟩ := y
  unfold cfW eK
  simp only
  have HC1 := Lib.hid (fun w' (q : (Gr w w' ∧ (Instr.lookup 99 (.map (some (bm (spk s x)))) (.int .i64 x) false).run Try.prog w' = .ok (.int .u64 (((look l x).getD 0 : Nat) : Int)) w' ∧ (Instr.lookup 99 (.map (some (bm (spk s y)))) (.int .i64 y) false).run Try.prog w' = .ok (.int .u64 (((look l y).getD 0 : Nat) : Int)) w')) => (spoke_any x (h.gr q.1)).mono (R' := fun e w'' => e = .returned (.map (some (bm (spk s x)))) ∧ Gr w w'') (by rintro e w2 ⟨rfl, k, rfl⟩; exact ⟨rfl, q.1.drewN k⟩))
  have HC2 := Lib.hid (fun w' (q : (Gr w w' ∧ (Instr.lookup 99 (.map (some (bm (spk s x)))) (.int .i64 x) false).run Try.prog w' = .ok (.int .u64 (((look l x).getD 0 : Nat) : Int)) w' ∧ (Instr.lookup 99 (.map (some (bm (spk s y)))) (.int .i64 y) false).run Try.prog w' = .ok (.int .u64 (((look l y).getD 0 : Nat) : Int)) w')) => (spoke_any y (h.gr q.1)).mono (R' := fun e w'' => e = .returned (.map (some (bm (spk s y)))) ∧ Gr w w'') (by rintro e w2 ⟨rfl, k, rfl⟩; exact ⟨rfl, q.1.drewN k⟩))
  have HF := Lib.hid (fun w' (q : Gr w w') => And.intro q (And.intro ((h.gr q).run x hx) ((h.gr q).run y hy)))
  clear h
  generalize spk s x = jx at *
  generalize spk s y = jy at *
  generalize (look l x).getD 0 = tx at *
  generalize (look l y).getD 0 = ty at *
  generalize bm jx = mx at *
  generalize bm jy = my at *
  have HK1 := Lib.hid (cmpU tx ty)
  have HK2 := Lib.hid (cmpI x y)
  generalize cmpZ (tx : Nat) (ty : Nat) = z1 at *
  generalize cmpZ x y = z2 at *
  have G0 := Lib.hid (Gr.refl w).drew
  clear hx hy
  go_enter Try.func59, Try.ntmps59
  go_wp2_with fail
  go_region_held3 (fun w' => Gr w w' ∧ (Instr.lookup 99 (.map (some mx)) (.int .i64 x) false).run Try.prog w' = .ok (.int .u64 ((tx : Nat) : Int)) w' ∧ (Instr.lookup 99 (.map (some my)) (.int .i64 y) false).run Try.prog w' = .ok (.int .u64 ((ty : Nat) : Int)) w') (first | exact HF.out _ G0.out | exact HF.out _ (by assumption) | exact HF.out _ (Gr.alloc (by assumption) _)) (first
    | (go_at_call 60; with_reducible (refine (HC1.out _ (by assumption)).mono ?_); rintro e w2 ⟨rfl, hg2⟩)
    | (go_at_call 60; with_reducible (refine (HC2.out _ (by assumption)).mono ?_); rintro e w3 ⟨rfl, hg3⟩)
    | (go_at_call 68; with_reducible (refine (HK1.out _).mono ?_); rintro e w4 ⟨rfl, rfl⟩)
    | (go_at_call 69; with_reducible (refine (HK2.out _).mono ?_); rintro e w5 ⟨rfl, rfl⟩)
    | (go_at_call 67; refine (or_two z1 z2 _ _ (cellA _ _ _ _) (cellB _ _ _ _)).mono ?_; rintro e w6 ⟨rfl, rfl⟩))
  all_goals (go_wp2_with fail)
  all_goals (go_ret; exact ⟨rfl, Gr.alloc (by assumption) _⟩)
end Go.Proofs.Ytjjanogfcfapcaa.W
