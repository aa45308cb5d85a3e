/- A wheel of spokes in a slice, []map[int]uint64, told by a sorted list: the contracts of spoke, At, Del, Set. -/
import Derived.Test.YtjjanogfcfapcaaWma
import Derived.WalkKit
import Derived.WalkSpells
import Derived.WalkLawsBesides
import Derived.Lib.Hide
import Derived.Deep.QuietTactic
import Derived.BigQuiet
import Derived.Deep.Draws
import Derived.OpenShut
namespace Go.Proofs.Ytjjanogfcfapcaa.W
open Go.RowKit
open Go.Maps (Keyed)
set_option linter.unusedVariables false

theorem keyedI : Keyed Try.prog 3 := Maps.int_keyed Try.underlying3
theorem zeroU (w : World) : (zeroValue 37).run Try.prog w = .ok (.int .u64 0) w := by kernel_rfl
/-- The spoke of an id. -/
def uid (id : Int) : Nat := (id % 18446744073709551616).toNat
def spk (s : Nat) (id : Int) : Nat := uid id % s
abbrev Mq := Mp Try.prog 3 37
structure Wl (w : World) (g sb s n : Nat) (bm : Nat → Nat) (l : List Ti) : Prop where
  c0 : w.cell? ⟨g, 0, none⟩ = some (.slice (some ⟨sb, 0, none⟩) s s)
  e0 : ∀ j, j < s → w.cell? ⟨sb, j, none⟩ = some (.map (some (bm j)))
  mp : ∀ j, j < s → Mq w (bm j) n (l.filter fun x => spk s x.id == j)
  inj : ∀ i j, i < s → j < s → bm i = bm j → i = j
  ord : Ord l
  pos : 0 < s
  le : s ≤ 256
theorem spk_lt {s : Nat} (h : 0 < s) (id : Int) : spk s id < s := Nat.mod_lt _ h
theorem wrap_uid (id : Int) : IntKind.u64.wrap id = (uid id : Nat) := by
  rw [IntKind.wrap_u64]
  unfold uid
  omega
theorem uid_lt (id : Int) : uid id < 18446744073709551616 := by
  unfold uid
  omega
set_option maxHeartbeats 1000000 in
theorem spoke_any (id : Int) {w : World} {g sb s n : Nat} {bm : Nat → Nat} {l : List Ti} (h : Wl w g sb s n bm l) : Calls Try.prog 60 #[.pointer (some ⟨g, 0, none⟩), .int .i64 id] w fun e w' => e = .returned (.map (some (bm (spk s id)))) ∧ ∃ q, w' = w.drewN q := by
  have c0 := h.c0
  have hp := h.pos
  have hl := h.le
  have hlt := spk_lt hp id
  have e0 := h.e0 _ hlt
  have r1 := wrap_uid id
  have r2 : IntKind.u64.wrap (s : Nat) = (s : Nat) := by rw [IntKind.wrap_u64]; omega
  have r3 : ((uid id : Nat) : Int).tmod (s : Nat) = (spk s id : Nat) := by rw [Int.tmod_eq_emod_of_nonneg (by omega)]; rfl
  have r4 : IntKind.u64.wrap (spk s id : Nat) = (spk s id : Nat) := by rw [IntKind.wrap_u64]; omega
  have r5 : ((s : Nat) : Int) ≠ 0 := by omega
  have s0 : (0 : Int) ≤ (spk s id : Nat) := by omega
  have s1 : ((spk s id : Nat) : Int) < (s : Nat) := by omega
  generalize spk s id = j at *
  generalize uid id = u at *
  go_enter Try.func60, Try.ntmps60
  go_wp2_with fail
  go_quiet (fail)
  go_wp2
  go_ret
  exact ⟨rfl, _, rfl⟩
theorem spoke_nil (id : Int) (w : World) : Calls Try.prog 60 #[.pointer none, .int .i64 id] w fun e w' => e = .returned (.map none) ∧ w' = w := by
  go_enter Try.func60, Try.ntmps60
  go_wp2_with fail
  go_ret
  exact ⟨rfl, rfl⟩
theorem nat_wf64 {t : Nat} (h : t < 18446744073709551616) : (Lit.int .u64 (t : Nat)).wf = true := by
  have hmin : IntKind.u64.min = 0 := rfl
  have hmax : IntKind.u64.max = 18446744073709551615 := rfl
  simp only [Lit.wf, Bool.and_eq_true, decide_eq_true_eq]
  omega
theorem Mp.drewN {P : Program} {k e : TypeId} {w : World} {b n : Nat} {l : List Ti} (h : Mp P k e w b n l) (q : Nat) : Mp P k e (w.drewN q) b n l := h.block rfl
theorem Wl.ne_g {w : World} {g sb s n : Nat} {bm : Nat → Nat} {l : List Ti} (h : Wl w g sb s n bm l) {j : Nat} (hj : j < s) : g ≠ bm j := by
  obtain ⟨_, ⟨es, c, h0, _⟩, _⟩ := h.mp j hj
  have c0 := h.c0
  intro e
  rw [e] at c0
  simp [World.cell?, h0] at c0
theorem Wl.ne_b {w : World} {g sb s n : Nat} {bm : Nat → Nat} {l : List Ti} (h : Wl w g sb s n bm l) {j : Nat} (hj : j < s) : sb ≠ bm j := by
  obtain ⟨_, ⟨es, c, h0, _⟩, _⟩ := h.mp j hj
  have c0 := h.e0 0 h.pos
  intro e
  rw [e] at c0
  simp [World.cell?, h0] at c0
set_option maxHeartbeats 1000000 in
theorem at_any (id : Int) (hw : (Lit.int .i64 id).wf = true) {w : World} {g sb s n : Nat} {bm : Nat → Nat} {l : List Ti} (h : Wl w g sb s n bm l) :
    Calls Try.prog 63 #[.pointer (some ⟨g, 0, none⟩), .int .i64 id] w fun e w' => e = .returned (.tuple #[.int .u64 (((look l id).getD 0 : Nat) : Int), .bool (look l id).isSome]) ∧ ∃ q, w' = w.drewN q := by
  have HC := Lib.hid (spoke_any id h)
  have hj := spk_lt h.pos id
  have HM := Lib.hid (h.mp _ hj)
  have HL := Lib.hid (part_look (l := l) (fun i => spk s i == spk s id) id)
  rw [if_pos (by simp)] at HL
  generalize spk s id = j at *
  clear h
  go_enter Try.func63, Try.ntmps63
  go_wp2_with (first
    | (go_at_call 60; with_reducible (refine HC.out.mono ?_); rintro e w1 ⟨rfl, q, rfl⟩)
    | (at_lookup; refine wpList_mp_look rfl _ _ _ rfl keyedI Try.underlying99 Try.underlying3 Try.underlying37 (zeroU _) id rfl (HM.out.drewN _) rfl hw ?_; rw [HL.out])
    | fail)
  go_ret2
  exact ⟨rfl, _, rfl⟩
theorem Mp.mono {P : Program} {k e : TypeId} {w : World} {b n n' : Nat} {l : List Ti} (h : Mp P k e w b n l) (hn : n ≤ n') : Mp P k e w b n' l := let ⟨D, o, t⟩ := h; ⟨D, o.mono hn, t⟩
theorem cell_grown {w w' : World} {r : Nat} (hg : w.grownBy w' (some r)) {b i : Nat} {v : Value} (h : w.cell? ⟨b, i, none⟩ = some v) (hne : b ≠ r) : w'.cell? ⟨b, i, none⟩ = some v := by
  have hlt : b < w.heap.size := by
    by_cases c : b < w.heap.size
    · exact c
    · simp [World.cell?, Array.getElem?_eq_none (Nat.le_of_not_lt c)] at h
  have e := hg.block b hlt (by simpa using hne)
  unfold World.cell? at h ⊢
  rw [e]
  exact h
/-- One spoke has turned: the wheel behind it. -/
theorem Wl.step {w w' : World} {g sb s n n' : Nat} {bm : Nat → Nat} {l l' : List Ti} (h : Wl w g sb s n bm l) {j : Nat} (hj : j < s) (hg : w.grownBy w' (some (bm j))) (hO : Ord l') (hm : Mq w' (bm j) n' (l'.filter fun x => spk s x.id == j))
    (ho : ∀ i, i < s → i ≠ j → (l'.filter fun x => spk s x.id == i) = l.filter fun x => spk s x.id == i) (hn : n ≤ n') : Wl w' g sb s n' bm l' where
  c0 := cell_grown hg h.c0 (h.ne_g hj)
  e0 i hi := cell_grown hg (h.e0 i hi) (h.ne_b hj)
  mp i hi := by
    by_cases e : i = j
    · subst e; exact hm
    · rw [ho i hi e]
      exact ((h.mp i hi).kept hg (fun e2 => e (h.inj i j hi hj (by simpa using e2)))).mono hn
  inj := h.inj
  ord := hO
  pos := h.pos
  le := h.le
theorem Wl.drewN {w : World} {g sb s n : Nat} {bm : Nat → Nat} {l : List Ti} (h : Wl w g sb s n bm l) (q : Nat) : Wl (w.drewN q) g sb s n bm l := ⟨h.c0, h.e0, fun j hj => (h.mp j hj).drewN q, h.inj, h.ord, h.pos, h.le⟩
theorem eq_nil (b : Nat) (w : World) : (binOp .eql 99 (.map (some b)) (.map none)).run Try.prog w = .ok (.bool false) w := by kernel_rfl
set_option maxHeartbeats 1000000 in
theorem del_any (id : Int) (hw : (Lit.int .i64 id).wf = true) {w : World} {g sb s n : Nat} {bm : Nat → Nat} {l : List Ti} (h : Wl w g sb s n bm l) :
    Calls Try.prog 56 #[.pointer (some ⟨g, 0, none⟩), .int .i64 id] w fun e w' => e = .returned (.bool (look l id).isSome) ∧ w.grownBy w' (some (bm (spk s id))) ∧ Wl w' g sb s n bm (delL l id) := by
  have HA := Lib.hid (at_any id hw h)
  have HC := Lib.hid (fun q => spoke_any id (h.drewN q))
  have hj := spk_lt h.pos id
  have HM := Lib.hid (h.mp _ hj)
  have HW := Lib.hid (fun w' (hg : w.grownBy w' (some (bm (spk s id)))) (hm : Mq w' (bm (spk s id)) n (delL (l.filter fun x => spk s x.id == spk s id) id)) =>
    h.step hj hg (delL_ord h.ord id) (by rw [part_del l (fun i => spk s i == spk s id) id]; exact hm) (fun i hi hne => part_del_other (p := fun x => spk s x == i) (by simp; omega)) (Nat.le_refl n))
  generalize spk s id = j at *
  generalize (l.filter fun x => spk s x.id == j) = lj at *
  generalize look l id = o at *
  clear h
  go_enter Try.func56, Try.ntmps56
  go_wp2_with (first
    | (go_at_call 63; with_reducible (refine HA.out.mono ?_); rintro e w1 ⟨rfl, q, rfl⟩)
    | (go_at_call 60; with_reducible (refine (HC.out _).mono ?_); rintro e w1 ⟨rfl, q, rfl⟩)
    | (at_delete; refine wpList_mp_del rfl _ _ _ rfl keyedI Try.underlying99 Try.underlying3 id rfl (by first | exact HM.out.drewN _ | exact (HM.out.drewN _).drewN _ | exact HM.out) rfl hw ?_; intro w2 hm2 ht2)
    | fail)
  go_ret
  have hg2 : w.grownBy w2 (some (bm j)) := ⟨ht2.grown.os, ht2.grown.tape, ht2.grown.output, ht2.grown.size, ht2.grown.block⟩
  exact ⟨rfl, hg2, HW.out w2 hg2 hm2⟩
set_option maxHeartbeats 1000000 in
theorem set_any (id : Int) (hw : (Lit.int .i64 id).wf = true) (t : Nat) (ht : t < 18446744073709551616) {w : World} {g sb s n : Nat} {bm : Nat → Nat} {l : List Ti} (h : Wl w g sb s n bm l) (hn : n < 100000) :
    Calls Try.prog 52 #[.pointer (some ⟨g, 0, none⟩), .int .i64 id, .int .u64 (t : Nat)] w fun e w' => e = .returned (.int .i64 0) ∧ w.grownBy w' (some (bm (spk s id))) ∧ Wl w' g sb s (n + 1) bm (setL l id t) := by
  have HC := Lib.hid (spoke_any id h)
  have hj := spk_lt h.pos id
  have HM := Lib.hid (h.mp _ hj)
  have hu : (Lit.int .u64 (t : Nat)).wf = true := nat_wf64 ht
  have hnm : n < maxLen := Nat.lt_of_lt_of_le hn (by decide)
  have HW := Lib.hid (fun w' (hg : w.grownBy w' (some (bm (spk s id)))) (hm : Mq w' (bm (spk s id)) (n + 1) (setL (l.filter fun x => spk s x.id == spk s id) id t)) =>
    h.step hj hg (setL_ord h.ord id t) (by rw [part_set h.ord (p := fun i => spk s i == spk s id) (by simp)]; exact hm) (fun i hi hne => part_set_other h.ord (p := fun x => spk s x == i) (by simp; omega) t) (Nat.le_succ n))
  generalize spk s id = j at *
  generalize (l.filter fun x => spk s x.id == j) = lj at *
  generalize bm j = bj at *
  have hen := eq_nil bj
  clear h
  go_enter Try.func52, Try.ntmps52
  go_wp2_with (first
    | (go_at_call 60; with_reducible (refine HC.out.mono ?_); rintro e w1 ⟨rfl, q, rfl⟩)
    | (at_mapUpdate; refine wpList_mp_put rfl _ _ _ _ rfl keyedI Try.underlying99 Try.underlying3 Try.underlying37 id t rfl (HM.out.drewN _) hnm rfl rfl hw hu ?_; intro w2 hm2 ht2)
    | fail)
  go_ret
  have hg2 : w.grownBy w2 (some bj) := ⟨ht2.grown.os, ht2.grown.tape, ht2.grown.output, ht2.grown.size, ht2.grown.block⟩
  exact ⟨rfl, hg2, HW.out w2 hg2 hm2⟩
theorem look_nilmap (id : Int) (w : World) : (Instr.lookup 99 (.map none) (.int .i64 id) true).run Try.prog w = .ok (.tuple #[.int .u64 0, .bool false]) w := by kernel_rfl
set_option maxHeartbeats 1000000 in
theorem at_nil (id : Int) (w : World) : Calls Try.prog 63 #[.pointer none, .int .i64 id] w fun e w' => e = .returned (.tuple #[.int .u64 0, .bool false]) ∧ w' = w := by
  have HC := Lib.hid (spoke_nil id w)
  have hln := look_nilmap id
  go_enter Try.func63, Try.ntmps63
  go_wp2_with (first
    | (go_at_call 60; with_reducible (refine HC.out.mono ?_); rintro e w1 ⟨rfl, rfl⟩)
    | fail)
  go_ret2
  exact ⟨rfl, rfl⟩
theorem nil_nil (w : World) : (binOp .eql 99 (.map none) (.map none)).run Try.prog w = .ok (.bool true) w := by kernel_rfl
set_option maxHeartbeats 1000000 in
theorem del_nil (id : Int) (hw : (Lit.int .i64 id).wf = true) (w : World) : Calls Try.prog 56 #[.pointer none, .int .i64 id] w fun e w' => e = .returned (.bool false) ∧ w' = w := by
  have HC := Lib.hid (spoke_nil id w)
  have HA := Lib.hid (at_nil id w)
  have hdn := fun w' => Go.Maps.drop_nil (w := w') keyedI Try.underlying99 (Maps.keyOf_int_mk Try.underlying3 hw) 0
  go_enter Try.func56, Try.ntmps56
  go_wp2_with (first
    | (go_at_call 63; with_reducible (refine HA.out.mono ?_); rintro e w1 ⟨rfl, rfl⟩)
    | (go_at_call 60; with_reducible (refine HC.out.mono ?_); rintro e w1 ⟨rfl, rfl⟩)
    | fail)
  go_ret
  exact ⟨rfl, rfl⟩
set_option maxHeartbeats 1000000 in
theorem set_nil (id : Int) (t : Nat) (w : World) : Calls Try.prog 52 #[.pointer none, .int .i64 id, .int .u64 (t : Nat)] w fun e w' => e = .returned (.int .i64 1) ∧ w' = w := by
  have HC := Lib.hid (spoke_nil id w)
  have hen := nil_nil
  go_enter Try.func52, Try.ntmps52
  go_wp2_with (first
    | (go_at_call 60; with_reducible (refine HC.out.mono ?_); rintro e w1 ⟨rfl, rfl⟩)
    | fail)
  go_ret
  exact ⟨rfl, rfl⟩
end Go.Proofs.Ytjjanogfcfapcaa.W
