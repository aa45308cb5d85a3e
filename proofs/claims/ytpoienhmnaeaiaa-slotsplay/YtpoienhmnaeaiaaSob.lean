/- The slots in memory, and the contracts of the program's methods that only look: Cap, has, step, Get, All, Len; New. -/
import Derived.Test.YtpoienhmnaeaiaaSoa
import Derived.WalkKit
import Derived.WalkSpells
import Derived.WalkLawsBesides
import Derived.Lib.Hide
import Derived.Deep.QuietTactic
import Derived.BigQuiet
import Derived.Laws.IdiomStrings
import Derived.Deep.Draws
import Derived.OpenShut
import Derived.Lib.AppendZeros
import Derived.Laws.AppendOwnNone
import Derived.Lib.SliceRun
import Derived.Lib.Walk
import Derived.Deep.RegionLaw
import Derived.Deep.RegionWith
import Derived.Laws.OwnMore
import Derived.Laws.ResultCell
namespace Go.Proofs.Ytpoienhmnaeaiaa
open Go.RowKit
set_option linter.unusedVariables false

def Blk (w : World) (g : Nat) (t : TypeId) (cs : Array Value) : Prop := w.heap[g]? = some (.cells cs t (0, 0))
section
variable {w w' : World} {g : Nat} {t : TypeId} {cs : Array Value}
theorem Blk.lt (h : Blk w g t cs) : g < w.heap.size := by
  rcases Nat.lt_or_ge g w.heap.size with hlt | hge
  · exact hlt
  · unfold Blk at h; rw [Array.getElem?_eq_none hge] at h; cases h
theorem Blk.cell (h : Blk w g t cs) (i : Nat) : w.cell? ⟨g, i, none⟩ = cs[i]? := cell_of_row w g i cs t (0, 0) h
theorem Blk.frozen (h : Blk w g t cs) (i : Nat) : w.frozen? ⟨g, i, none⟩ = false := by
  unfold Blk at h
  simp [World.frozen?, h]
theorem Blk.new (w : World) (t : TypeId) (cs : Array Value) : Blk (w.alloc (.cells cs t)) w.heap.size t cs := heap_alloc_new w _
theorem Blk.set_ (h : Blk w g t cs) (i : Nat) (u : Value) : Blk (w.setCell ⟨g, i, none⟩ u) g t (cs.setIfInBounds i u) := by
  unfold Blk at h ⊢
  simp [World.setCell, Array.getElem?_modify, h]
theorem Blk.eq {w'' : World} (h : Blk w g t cs) (e : w''.heap[g]? = w.heap[g]?) : Blk w'' g t cs := e.trans h
theorem Blk.far (h : Blk w g t cs) (p : Addr) (u : Value) (hp : g ≠ p.block) : Blk (w.setCell p u) g t cs := (Below.heap_setCell w p u g hp).trans h
end
theorem heap_lt {w : World} {g : Nat} {o : Obj} (h : w.heap[g]? = some o) : g < w.heap.size := (Array.getElem?_eq_some_iff.1 h).1
theorem blk_cell {w : World} {b : Nat} {cs : Array Value} {t : TypeId} (h : w.heap[b]? = some (.cells cs t (0, 0))) (i : Nat) : w.cell? ⟨b, i, none⟩ = cs[i]? := cell_of_row w b i cs t (0, 0) h
theorem el_of {t : TypeId} {z : Value} {a b : Nat} (h : (Try.prog.info? t).map (fun i => (i.zero, i.size, i.bytes)) = some (some z, a, b)) : ∃ i, Try.prog.info? t = some i ∧ i.zero = some z ∧ i.size = a ∧ i.bytes = b := by
  rw [Option.map_eq_some_iff] at h
  obtain ⟨i, h1, h2⟩ := h
  simp only [Prod.mk.injEq] at h2
  exact ⟨i, h1, h2.1, h2.2.1, h2.2.2⟩
theorem elI : (Try.prog.info? 3).map (fun i => (i.zero, i.size, i.bytes)) = some (some (.int .i64 0), 1, 8) := by kernel_rfl
theorem ownR_form {w : World} {B : Nat} {e : TypeId} {k : Nat} {v : Value} {n : Nat} {xs : List Value} (h : w.ownsRow B e k v n xs) : ∃ A cap, v = .slice A n cap := by
  rcases h.2 with ⟨rfl, rfl⟩ | ⟨g, cap, cur, rfl, _⟩
  · exact ⟨none, 0, rfl⟩
  · exact ⟨_, cap, rfl⟩
theorem own_block {w : World} {B : Nat} {e : TypeId} {k : Nat} {A : Option Addr} {n cap : Nat} {xs : List Value} (h : w.ownsRow B e k (.slice A n cap) n xs) (hn : 0 < n) : ∃ g, A = some ⟨g, 0, none⟩ ∧ B ≤ g := by
  rcases h.2 with ⟨_, h2⟩ | ⟨g, cap', cur, h1, h2, _⟩
  · omega
  · cases h1; exact ⟨g, rfl, h2⟩
theorem ownR_below {w w' : World} {B : Nat} {e : TypeId} {k : Nat} {v : Value} {n : Nat} {xs : List Value} (h : w.ownsRow B e k v n xs) (hb : Below w.heap.size w w') : w'.ownsRow B e k v n xs := by
  refine ⟨h.1, ?_⟩
  rcases h.2 with h1 | ⟨g, cap, cur, h1, h2, h3, h4⟩
  · exact .inl h1
  · exact .inr ⟨g, cap, cur, h1, h2, (hb.block g (heap_lt h3)).trans h3, h4⟩
theorem newI (W : World) (n : Int) : ∀ j u, ([Value.int .i64 n] : List Value)[j]? = some u → (W.alloc (.cells #[.int .i64 n] 3)).cell? ((⟨W.heap.size, 0, none⟩ : Addr).add j) = some u := fun j u hj => by
  have h := heap_alloc_new W (Obj.cells #[.int .i64 n] 3)
  rw [Addr.add_lit, Nat.zero_add, blk_cell h j, ← hj]
  simp
theorem cell_size {w : World} {p : Addr} {v : Value} (h : w.cell? p = some v) : p.block < w.heap.size := by
  rcases Nat.lt_or_ge p.block w.heap.size with h1 | h1
  · exact h1
  · unfold World.cell? at h
    rw [Array.getElem?_eq_none h1] at h
    cases h
def Ns (k : IntKind) (w : World) (A : Option Addr) (l : List Nat) : Prop := ∀ j (h : j < l.length), ∃ b off : Nat, A = some ⟨b, off, none⟩ ∧ w.cell? ⟨b, off + j, none⟩ = some (.int k (l[j] : Nat))
theorem Ns.below {k : IntKind} {w w' : World} {A : Option Addr} {l : List Nat} (h : Ns k w A l) (hb : Below w.heap.size w w') : Ns k w' A l := fun j hj => by
  obtain ⟨b, off, h1, h2⟩ := h j hj
  exact ⟨b, off, h1, (hb.cell (p := ⟨b, off + j, none⟩) (cell_size h2)).trans h2⟩

/-- The cells of the slots. -/
def cf (e : Ce) : List Value := [.string e.x, .bool e.u, .bool e.t]
def cA (c : List Ce) : Array Value := (c.flatMap cf).toArray
theorem cf_len (c : List Ce) : (c.flatMap cf).length = c.length * 3 := by
  induction c with
  | nil => rfl
  | cons a c ih => rw [List.flatMap_cons, List.length_append, ih, List.length_cons]; simp [cf]; omega
theorem cf_at : ∀ (c : List Ce) (j i : Nat), j < c.length → i < 3 → (c.flatMap cf)[j * 3 + i]? = (cf (c.getD j Z0))[i]?
  | [], j, i, hj, _ => absurd hj (by simp)
  | a :: c, 0, i, hj, hi => by
    rw [List.flatMap_cons, List.getElem?_append_left (by simp [cf]; omega)]
    simp
  | a :: c, j + 1, i, hj, hi => by
    rw [List.flatMap_cons, List.getElem?_append_right (by simp [cf]; omega), show (j + 1) * 3 + i - (cf a).length = j * 3 + i by simp [cf]; omega]
    simpa using cf_at c j i (by simpa using hj) hi
theorem cA_at (c : List Ce) (j i : Nat) (hj : j < c.length) (hi : i < 3) : (cA c)[j * 3 + i]? = (cf (c.getD j Z0))[i]? := by
  unfold cA
  rw [List.getElem?_toArray]
  exact cf_at c j i hj hi
theorem cA_size (c : List Ce) : (cA c).size = c.length * 3 := by unfold cA; rw [List.size_toArray, cf_len]
theorem cA_ext {c : List Ce} {a : Array Value} (hs : a.size = c.length * 3) (h : ∀ j i, j < c.length → i < 3 → a[j * 3 + i]? = (cf (c.getD j Z0))[i]?) : a = cA c := by
  apply Array.ext_getElem?
  intro q
  by_cases hq : q < c.length * 3
  · have e : q = q / 3 * 3 + q % 3 := by omega
    rw [e, h _ _ (by omega) (by omega), cA_at _ _ _ (by omega) (by omega)]
  · rw [Array.getElem?_eq_none (by omega), Array.getElem?_eq_none (by rw [cA_size]; omega)]
theorem cf_one (c : List Ce) : ∀ u ∈ c.flatMap cf, u.oneCell' = true := fun u hu => by
  obtain ⟨r, _, hr⟩ := List.mem_flatMap.1 hu
  simp only [cf, List.mem_cons, List.not_mem_nil, or_false] at hr
  rcases hr with rfl | rfl | rfl <;> rfl
theorem cA_set (c : List Ce) (k : Nat) (hk : k < c.length) (e : Ce) : (((cA c).setIfInBounds (k * 3) (.string e.x)).setIfInBounds (k * 3 + 1) (.bool e.u)).setIfInBounds (k * 3 + 2) (.bool e.t) = cA (c.set k e) := by
  apply cA_ext
  · simp [cA_size]
  intro j i hj hi
  rw [List.length_set] at hj
  have hq := cA_at c j i hj hi
  rw [getD_set _ _ _ _ hk]
  simp only [Array.getElem?_setIfInBounds, Array.size_setIfInBounds, cA_size]
  have h3 : i = 0 ∨ i = 1 ∨ i = 2 := by omega
  by_cases e1 : k = j
  · subst e1
    rw [if_pos rfl]
    rcases h3 with rfl | rfl | rfl
    · rw [if_neg (by omega), if_neg (by omega), if_pos (by omega), if_pos (by omega)]; rfl
    · rw [if_neg (by omega), if_pos (by omega), if_pos (by omega)]; rfl
    · rw [if_pos (by omega), if_pos (by omega)]; rfl
  · rw [if_neg e1, if_neg (by omega), if_neg (by omega), if_neg (by omega)]
    exact hq
theorem ce_eta (c : List Ce) (k : Nat) : c.getD k Z0 = ⟨(c.getD k Z0).x, us c k, ts c k⟩ := rfl
theorem cA_set0 (c : List Ce) (k : Nat) (hk : k < c.length) (x : ByteArray) : (cA c).setIfInBounds (k * 3) (.string x) = cA (c.set k ⟨x, us c k, ts c k⟩) := by
  apply cA_ext
  · simp [cA_size]
  intro j i hj hi
  rw [List.length_set] at hj
  have hq := cA_at c j i hj hi
  rw [getD_set _ _ _ _ hk]
  simp only [Array.getElem?_setIfInBounds, cA_size]
  have h3 : i = 0 ∨ i = 1 ∨ i = 2 := by omega
  by_cases e1 : k = j
  · subst e1
    rw [if_pos rfl]
    rcases h3 with rfl | rfl | rfl
    · rw [if_pos (by omega), if_pos (by omega)]; rfl
    · rw [if_neg (by omega), hq]; rfl
    · rw [if_neg (by omega), hq]; rfl
  · rw [if_neg e1, if_neg (by omega)]
    exact hq
theorem cA_set2 (c : List Ce) (k : Nat) (hk : k < c.length) (t : Bool) : (cA c).setIfInBounds (k * 3 + 2) (.bool t) = cA (c.set k ⟨(c.getD k Z0).x, us c k, t⟩) := by
  apply cA_ext
  · simp [cA_size]
  intro j i hj hi
  rw [List.length_set] at hj
  have hq := cA_at c j i hj hi
  rw [getD_set _ _ _ _ hk]
  simp only [Array.getElem?_setIfInBounds, cA_size]
  have h3 : i = 0 ∨ i = 1 ∨ i = 2 := by omega
  by_cases e1 : k = j
  · subst e1
    rw [if_pos rfl]
    rcases h3 with rfl | rfl | rfl
    · rw [if_neg (by omega), hq]; rfl
    · rw [if_neg (by omega), hq]; rfl
    · rw [if_pos (by omega), if_pos (by omega)]; rfl
  · rw [if_neg e1, if_neg (by omega)]
    exact hq

/-- The program's slots: their block g, and b, the block of what they have. -/
structure Sp (w : World) (g b : Nat) (M : Ms) : Prop where
  gb : b < g
  bg : Blk w g 58 #[.slice (some ⟨b, 0, none⟩) M.c.length M.c.length, .int .i64 (M.h : Nat)]
  bb : Blk w b 67 (cA M.c)
  ok : M.Ok
/-- What a deed leaves as it was: all blocks but these two. -/
structure Fp (g b : Nat) (w w' : World) : Prop where
  below : Below b w w'
  high : ∀ k, g < k → k < w.heap.size → w'.heap[k]? = w.heap[k]?
theorem Fp.refl (g b : Nat) (w : World) : Fp g b w w := ⟨Below.refl _ _, fun _ _ _ => rfl⟩
theorem Fp.trans {g b : Nat} {w w' w'' : World} (h : Fp g b w w') (k : Fp g b w' w'') : Fp g b w w'' := ⟨h.below.trans k.below, fun i h1 h2 => (k.high i h1 (Nat.lt_of_lt_of_le h2 h.below.size)).trans (h.high i h1 h2)⟩
theorem Fp.of {g b : Nat} {w w' : World} (h : Below w.heap.size w w') (hb : b ≤ w.heap.size) : Fp g b w w' := ⟨h.mono hb, fun k _ hk => h.block k hk⟩
theorem Sp.keep {w w' : World} {g b : Nat} {M : Ms} (h : Sp w g b M) (hb : Below w.heap.size w w') : Sp w' g b M := ⟨h.gb, h.bg.eq (hb.block g h.bg.lt), h.bb.eq (hb.block b h.bb.lt), h.ok⟩
theorem Fp.set {g b : Nat} (w : World) (i : Nat) (u : Value) (p : Nat) (hp : p = g ∨ p = b) (hgb : b < g) : Fp g b w (w.setCell ⟨p, i, none⟩ u) :=
  ⟨(Below.refl _ _).setCell (by rcases hp with rfl | rfl <;> simp <;> omega) _, fun k hk _ => Below.heap_setCell w _ _ k (by rcases hp with rfl | rfl <;> simp <;> omega)⟩
theorem Sp.set {w : World} {g b : Nat} {M M' : Ms} (h : Sp w g b M) (i : Nat) (u : Value) (hc : (cA M.c).setIfInBounds i u = cA M'.c) (hl : M'.c.length = M.c.length) (hh : M'.h = M.h) (hok : M'.Ok) : Sp (w.setCell ⟨b, i, none⟩ u) g b M' := by
  refine ⟨h.gb, ?_, ?_, hok⟩
  · rw [hl, hh]; exact h.bg.far _ _ (by have := h.gb; simp; omega)
  · rw [← hc]; exact h.bb.set_ i u
theorem Sp.set3 {w : World} {g b : Nat} {M M' : Ms} (h : Sp w g b M) (i1 i2 i3 : Nat) (u1 u2 u3 : Value) (hc : (((cA M.c).setIfInBounds i1 u1).setIfInBounds i2 u2).setIfInBounds i3 u3 = cA M'.c) (hl : M'.c.length = M.c.length) (hh : M'.h = M.h) (hok : M'.Ok) : Sp (((w.setCell ⟨b, i1, none⟩ u1).setCell ⟨b, i2, none⟩ u2).setCell ⟨b, i3, none⟩ u3) g b M' := by
  have hne : g ≠ b := by have := h.gb; omega
  refine ⟨h.gb, ?_, ?_, hok⟩
  · rw [hl, hh]; exact ((h.bg.far _ _ hne).far _ _ hne).far _ _ hne
  · rw [← hc]; exact ((h.bb.set_ i1 u1).set_ i2 u2).set_ i3 u3
theorem Fp.set3 {w : World} {g b : Nat} (i1 i2 i3 : Nat) (u1 u2 u3 : Value) (hgb : b < g) : Fp g b w (((w.setCell ⟨b, i1, none⟩ u1).setCell ⟨b, i2, none⟩ u2).setCell ⟨b, i3, none⟩ u3) :=
  ((Fp.set w i1 u1 b (.inr rfl) hgb).trans (Fp.set _ i2 u2 b (.inr rfl) hgb)).trans (Fp.set _ i3 u3 b (.inr rfl) hgb)
section
variable {w : World} {g b : Nat} {M : Ms}
theorem Sp.c0 (h : Sp w g b M) : w.cell? ⟨g, 0, none⟩ = some (.slice (some ⟨b, 0, none⟩) M.c.length M.c.length) := h.bg.cell 0
theorem Sp.c1 (h : Sp w g b M) : w.cell? ⟨g, 1, none⟩ = some (.int .i64 (M.h : Nat)) := h.bg.cell 1
theorem Sp.e0 (h : Sp w g b M) {k : Nat} (hk : k < M.c.length) : w.cell? ⟨b, k * 3, none⟩ = some (.string (M.c.getD k Z0).x) := (h.bb.cell _).trans (cA_at M.c k 0 hk (by omega))
theorem Sp.e1 (h : Sp w g b M) {k : Nat} (hk : k < M.c.length) : w.cell? ⟨b, k * 3 + 1, none⟩ = some (.bool (us M.c k)) := (h.bb.cell _).trans (cA_at M.c k 1 hk (by omega))
theorem Sp.e2 (h : Sp w g b M) {k : Nat} (hk : k < M.c.length) : w.cell? ⟨b, k * 3 + 2, none⟩ = some (.bool (ts M.c k)) := (h.bb.cell _).trans (cA_at M.c k 2 hk (by omega))
end

set_option maxHeartbeats 1000000 in
theorem cap_nil (w : World) : Calls Try.prog 17 #[.pointer none] w fun e w' => e = .returned (.int .i64 0) ∧ w' = w := by
  go_enter Try.func17, Try.ntmps17
  go_wp2_with fail
  go_ret
  exact ⟨rfl, rfl⟩
set_option maxHeartbeats 1000000 in
theorem cap_any {w : World} {g b : Nat} {M : Ms} (h : Sp w g b M) : Calls Try.prog 17 #[.pointer (some ⟨g, 0, none⟩)] w fun e w' => e = .returned (.int .i64 (M.c.length : Nat)) ∧ w' = w := by
  have c0 := h.c0
  have h1 := h.ok.n64
  generalize M.c.length = n at *
  clear h
  go_enter Try.func17, Try.ntmps17
  go_wp2_with fail
  go_ret
  exact ⟨rfl, rfl⟩

set_option maxHeartbeats 1000000 in
theorem has_nil (i : Int) (w : World) : Calls Try.prog 32 #[.pointer none, .int .i64 i] w fun e w' => e = .returned (.bool false) ∧ w' = w := by
  have HC := Lib.hid (fun w => cap_nil w)
  by_cases h0 : 0 ≤ i
  · have d0 : decide (0 ≤ i) = true := by simpa using h0
    have d1 : decide (i < 0) = false := by simp; omega
    clear h0
    go_enter Try.func32, Try.ntmps32
    go_wp2_with (go_at_call 17; with_reducible (refine (HC.out _).mono ?_); rintro e w1 ⟨rfl, rfl⟩)
    go_ret
    exact ⟨rfl, rfl⟩
  · have d0 : decide (0 ≤ i) = false := by simpa using h0
    clear h0
    go_enter Try.func32, Try.ntmps32
    go_wp2_with fail
    go_ret
    exact ⟨rfl, rfl⟩
set_option maxHeartbeats 1000000 in
theorem has_any (i : Int) {w : World} {g b : Nat} {M : Ms} (h : Sp w g b M) : Calls Try.prog 32 #[.pointer (some ⟨g, 0, none⟩), .int .i64 i] w fun e w' => e = .returned (.bool (hasM M i)) ∧ w' = w := by
  have HC := Lib.hid (cap_any h)
  by_cases h0 : 0 ≤ i
  · have d0 : decide (0 ≤ i) = true := by simpa using h0
    by_cases h1 : i < M.c.length
    · obtain ⟨k, rfl⟩ : ∃ k : Nat, i = k := ⟨i.toNat, by omega⟩
      have hk : k < M.c.length := by omega
      have c0 := h.c0
      have e1 := h.e1 hk
      have d1 : decide ((k : Int) < M.c.length) = true := by simpa using hk
      have s0 : (0 : Int) ≤ (k : Nat) := by omega
      have h2 := h.ok.n64
      rw [has_nat hk]
      generalize us M.c k = u at *
      generalize M.c.length = n at *
      clear h
      go_enter Try.func32, Try.ntmps32
      go_wp2_with (go_at_call 17; with_reducible (refine HC.out.mono ?_); rintro e w1 ⟨rfl, rfl⟩)
      go_ret
      exact ⟨rfl, rfl⟩
    · have d1 : decide (i < M.c.length) = false := by simpa using h1
      have e : hasM M i = false := by unfold hasM; simp; omega
      rw [e]
      have h2 := h.ok.n64
      generalize M.c.length = n at *
      clear h
      go_enter Try.func32, Try.ntmps32
      go_wp2_with (go_at_call 17; with_reducible (refine HC.out.mono ?_); rintro e w1 ⟨rfl, rfl⟩)
      go_ret
      exact ⟨rfl, rfl⟩
  · have d0 : decide (0 ≤ i) = false := by simpa using h0
    have e : hasM M i = false := by unfold hasM; simp; omega
    rw [e]
    clear h0 HC h
    go_enter Try.func32, Try.ntmps32
    go_wp2_with fail
    go_ret
    exact ⟨rfl, rfl⟩
end Go.Proofs.Ytpoienhmnaeaiaa
