/- The slots of entries in memory, and the contracts of the program's methods that only look: Cap, has. -/
import Derived.Test.YtjjanogfcfapcaaVmc
import Derived.Deep.MidRow
import Derived.StillTailTactics
namespace Go.Proofs.Ytjjanogfcfapcaa
open Go.RowKit
set_option linter.unusedVariables false

def Blk (w : World) (g : Nat) (t : TypeId) (cs : Array Value) : Prop := w.heap[g]? = some (.cells cs t (0, 0))
section
variable {w w' : World} {g : Nat} {t : TypeId} {cs : Array Value}
theorem Blk.lt (h : Blk w g t cs) : g < w.heap.size := by
  rcases Nat.lt_or_ge g w.heap.size with hlt | hge
  · exact hlt
  · unfold Blk at h; rw [Array.getElem?_eq_none hge] at h; cases h
theorem Blk.cell (h : Blk w g t cs) (i : Nat) : w.cell? ⟨g, i, none⟩ = cs[i]? := cell_of_row w g i cs t (0, 0) h
theorem Blk.frozen (h : Blk w g t cs) (i : Nat) : w.frozen? ⟨g, i, none⟩ = false := by
  unfold Blk at h
  simp [World.frozen?, h]
theorem Blk.new (w : World) (t : TypeId) (cs : Array Value) : Blk (w.alloc (.cells cs t)) w.heap.size t cs := heap_alloc_new w _
theorem Blk.set_ (h : Blk w g t cs) (i : Nat) (u : Value) : Blk (w.setCell ⟨g, i, none⟩ u) g t (cs.setIfInBounds i u) := by
  unfold Blk at h ⊢
  simp [World.setCell, Array.getElem?_modify, h]
theorem Blk.eq {w'' : World} (h : Blk w g t cs) (e : w''.heap[g]? = w.heap[g]?) : Blk w'' g t cs := e.trans h
theorem Blk.far (h : Blk w g t cs) (p : Addr) (u : Value) (hp : g ≠ p.block) : Blk (w.setCell p u) g t cs := (Below.heap_setCell w p u g hp).trans h
end
theorem Blk.setCells {g : Nat} {t : TypeId} : ∀ (vs : List Value) (o : Nat) {w : World} {cs : Array Value}, Blk w g t cs → o + vs.length ≤ cs.size → ∃ cs', Blk (w.setCells g o vs) g t cs' ∧ cs'.size = cs.size ∧ ∀ i, cs'[i]? = if o ≤ i ∧ i < o + vs.length then vs[i - o]? else cs[i]?
  | [], o, w, cs, h, _ => ⟨cs, h, rfl, fun i => by rw [if_neg (by simp)]⟩
  | v :: r, o, w, cs, h, hs => by
    simp only [List.length_cons] at hs
    obtain ⟨cs', h1, h2, h3⟩ := Blk.setCells (t := t) r (o + 1) (h.set_ o v) (by rw [Array.size_setIfInBounds]; omega)
    refine ⟨cs', h1, by rw [h2, Array.size_setIfInBounds], fun i => ?_⟩
    rw [h3 i, Array.getElem?_setIfInBounds]
    simp only [List.length_cons]
    by_cases e1 : o = i
    · subst e1
      rw [if_neg (by omega), if_pos rfl, if_pos (by omega), if_pos (by omega), Nat.sub_self]
      rfl
    · rw [if_neg e1]
      by_cases e2 : o + 1 ≤ i ∧ i < o + 1 + r.length
      · rw [if_pos e2, if_pos (by omega)]
        obtain ⟨q, hq⟩ : ∃ q, i - o = q + 1 := ⟨i - o - 1, by omega⟩
        rw [hq, show i - (o + 1) = q by omega]
        rfl
      · rw [if_neg e2, if_neg (by omega)]
theorem setCells_other {g k : Nat} : ∀ (vs : List Value) (o : Nat) (w : World), k ≠ g → (w.setCells g o vs).heap[k]? = w.heap[k]?
  | [], _, _, _ => rfl
  | v :: r, o, w, h => by rw [World.setCells, setCells_other r (o + 1) _ h, Below.heap_setCell w _ _ k h]
theorem setCells_below {B g : Nat} : ∀ (vs : List Value) (o : Nat) {w0 w : World}, Below B w0 w → B ≤ g → Below B w0 (w.setCells g o vs)
  | [], _, _, _, h, _ => h
  | v :: r, o, _, _, h, hg => by rw [World.setCells]; exact setCells_below r (o + 1) (h.setCell (p := ⟨g, o, none⟩) hg v) hg
theorem Blk.far_ {w : World} {g k : Nat} {t : TypeId} {cs : Array Value} (h : Blk w g t cs) (o : Nat) (vs : List Value) (hk : g ≠ k) : Blk (w.setCells k o vs) g t cs := h.eq (setCells_other vs o w hk)
theorem Blk.range {w : World} {g : Nat} {t : TypeId} {cs : Array Value} (h : Blk w g t cs) (o : Nat) (vs : List Value) (hv : ∀ j u, vs[j]? = some u → cs[o + j]? = some u) : w.rangeAt g o vs := fun j u hj => (h.cell _).trans (hv j u hj)
theorem Blk.there {w : World} {g : Nat} {t : TypeId} {cs : Array Value} (h : Blk w g t cs) (o n : Nat) (hn : o + n ≤ cs.size) : w.there g o n := fun j hj => ⟨by rw [h.cell]; simp; omega, h.frozen _⟩

/-- The cells of an entry. -/
def evL (x : Ev) : List Value := [.string x.e.q.n, .int .u16 (x.e.q.k : Nat), .int .u16 (x.e.q.c : Nat), .slice x.A x.e.l.length x.cap, .int .i64 x.e.rc, .int .i64 x.e.rk, .int .u64 (x.e.ex : Nat)]
def evV (x : Ev) : Value := .agg (evL x).toArray
theorem evV_eq (x : Ev) : evV x = .agg #[.string x.e.q.n, .int .u16 (x.e.q.k : Nat), .int .u16 (x.e.q.c : Nat), .slice x.A x.e.l.length x.cap, .int .i64 x.e.rc, .int .i64 x.e.rk, .int .u64 (x.e.ex : Nat)] := rfl
theorem evL_len (x : Ev) : (evL x).length = 7 := rfl
theorem evL_one (x : Ev) : (evL x).toArray.all (·.oneCell') = true := by simp [evL, Value.oneCell']
theorem infoE : (Try.prog.info? 39).map (·.size) = some 7 := by kernel_rfl
theorem infoEv (x : Ev) : (Try.prog.info? 39).map (·.size) = some (evL x).length := infoE
theorem infoEa (x : Ev) : (Try.prog.info? 39).map (·.size) = some (evL x).toArray.size := infoE
/-- The cells of the slots. -/
def cf (e : Ce Ev) : List Value := evL e.x ++ [.bool e.u, .bool e.t]
theorem cf_len1 (e : Ce Ev) : (cf e).length = 9 := rfl
def cA (c : List (Ce Ev)) : Array Value := (c.flatMap cf).toArray
theorem cA_at (c : List (Ce Ev)) (j i : Nat) (hj : j < c.length) (hi : i < 9) : (cA c)[j * 9 + i]? = (cf (c.getD j Z0))[i]? := by
  unfold cA
  rw [List.getElem?_toArray, flat_at cf_len1 c j i hj hi]
  simp [hj]
theorem cA_size (c : List (Ce Ev)) : (cA c).size = c.length * 9 := by unfold cA; rw [List.size_toArray, flat_len cf_len1]
theorem cA_ext {c : List (Ce Ev)} {a : Array Value} (hs : a.size = c.length * 9) (h : ∀ j i, j < c.length → i < 9 → a[j * 9 + i]? = (cf (c.getD j Z0))[i]?) : a = cA c := by
  apply Array.ext_getElem?
  intro q
  by_cases hq : q < c.length * 9
  · have e : q = q / 9 * 9 + q % 9 := by omega
    rw [e, h _ _ (by omega) (by omega), cA_at _ _ _ (by omega) (by omega)]
  · rw [Array.getElem?_eq_none (by omega), Array.getElem?_eq_none (by rw [cA_size]; omega)]
/-- A part of one slot's cells is stored. -/
theorem cA_part (c : List (Ce Ev)) (k : Nat) (hk : k < c.length) (e : Ce Ev) (o : Nat) (vs : List Value) (ho : o + vs.length ≤ 9) {a : Array Value} (hs : a.size = (cA c).size)
    (ha : ∀ i, a[i]? = if k * 9 + o ≤ i ∧ i < k * 9 + o + vs.length then vs[i - (k * 9 + o)]? else (cA c)[i]?)
    (h1 : ∀ i, i < 9 → (cf e)[i]? = if o ≤ i ∧ i < o + vs.length then vs[i - o]? else (cf (c.getD k Z0))[i]?) : a = cA (c.set k e) := by
  apply cA_ext
  · rw [hs, cA_size, List.length_set]
  intro j i hj hi
  rw [List.length_set] at hj
  rw [ha, getD_set _ _ _ _ hk]
  by_cases e1 : k = j
  · subst e1
    rw [if_pos rfl, h1 i hi]
    by_cases e2 : o ≤ i ∧ i < o + vs.length
    · rw [if_pos (by omega), if_pos e2, show k * 9 + i - (k * 9 + o) = i - o by omega]
    · rw [if_neg (by omega), if_neg e2, cA_at _ _ _ hk hi]
  · rw [if_neg e1, if_neg (by omega), cA_at _ _ _ hj hi]
theorem ce_eta (c : List (Ce Ev)) (k : Nat) : c.getD k Z0 = ⟨(c.getD k Z0).x, us c k, ts c k⟩ := rfl

theorem cell_size {w : World} {p : Addr} {v : Value} (h : w.cell? p = some v) : p.block < w.heap.size := by
  rcases Nat.lt_or_ge p.block w.heap.size with h1 | h1
  · exact h1
  · unfold World.cell? at h
    rw [Array.getElem?_eq_none h1] at h
    cases h
theorem Ns.below {k : IntKind} {w w' : World} {A : Option Addr} {l : List Nat} (h : Ns k w A l) (hb : Below w.heap.size w w') : Ns k w' A l := fun j hj => by
  obtain ⟨b, off, h1, h2⟩ := h j hj
  exact ⟨b, off, h1, (hb.cell (p := ⟨b, off + j, none⟩) (cell_size h2)).trans h2⟩
theorem elI : (Try.prog.info? 3).map (fun i => (i.zero, i.size, i.bytes)) = some (some (.int .i64 0), 1, 8) := by kernel_rfl
theorem newI (W : World) (n : Int) : ∀ j u, ([Value.int .i64 n] : List Value)[j]? = some u → (W.alloc (.cells #[.int .i64 n] 3)).cell? ((⟨W.heap.size, 0, none⟩ : Addr).add j) = some u := fun j u hj => by
  have h := heap_alloc_new W (Obj.cells #[.int .i64 n] 3)
  rw [Addr.add_lit, Nat.zero_add, blk_cell h j, ← hj]
  simp
/-- The program's slots: their block g, and b, the block of what they have. -/
structure Sp (w : World) (g b : Nat) (M : Ms Ev) : Prop where
  gb : b < g
  bg : Blk w g 97 #[.slice (some ⟨b, 0, none⟩) M.c.length M.c.length, .int .i64 (M.h : Nat)]
  bb : Blk w b 108 (cA M.c)
  ok : M.Ok
/-- Of what was there only blocks of X have turned. -/
structure Ch (X : Nat → Prop) (w w' : World) : Prop where
  os : w'.os = w.os
  tape : w'.tape = w.tape
  output : w'.output = w.output
  size : w.heap.size ≤ w'.heap.size
  block : ∀ i, i < w.heap.size → ¬ X i → w'.heap[i]? = w.heap[i]?
section
variable {X Y : Nat → Prop} {a b c : World}
theorem Ch.refl (X : Nat → Prop) (w : World) : Ch X w w := ⟨rfl, rfl, rfl, Nat.le_refl _, fun _ _ _ => rfl⟩
theorem Ch.trans (h : Ch X a b) (k : Ch X b c) : Ch X a c := ⟨k.os.trans h.os, k.tape.trans h.tape, k.output.trans h.output, Nat.le_trans h.size k.size, fun i hi hx => (k.block i (Nat.lt_of_lt_of_le hi h.size) hx).trans (h.block i hi hx)⟩
theorem Ch.mono (h : Ch X a b) (hX : ∀ i, X i → Y i) : Ch Y a b := ⟨h.os, h.tape, h.output, h.size, fun i hi hy => h.block i hi (fun e => hy (hX i e))⟩
theorem Ch.bel (h : Below a.heap.size a b) : Ch X a b := ⟨h.os, h.tape, h.output, h.size, fun i hi _ => h.block i hi⟩
theorem Ch.below (h : Ch X a b) (k : Below b.heap.size b c) : Ch X a c := h.trans (Ch.bel k)
theorem Ch.isBelow {n : Nat} (h : Ch X a b) (hX : ∀ i, X i → n ≤ i) (hn : n ≤ a.heap.size) : Below n a b := ⟨h.os, h.tape, h.output, h.size, fun i hi => h.block i (by omega) (fun e => by have := hX i e; omega)⟩
theorem Ch.grown (h : Ch X a b) {r : Nat} (g : b.grownBy c (some r)) (hr : X r) : Ch X a c := ⟨g.os.trans h.os, g.tape.trans h.tape, g.output.trans h.output, Nat.le_trans h.size g.size, fun i hi hx => (g.block i (Nat.lt_of_lt_of_le hi h.size) (fun e => by cases e; exact hx hr)).trans (h.block i hi hx)⟩
end
/-- Only these two blocks turn. -/
def Fp (g b : Nat) (w w' : World) : Prop := Ch (fun i => i = g ∨ i = b) w w'
theorem Fp.refl (g b : Nat) (w : World) : Fp g b w w := Ch.refl _ _
theorem Fp.trans {g b : Nat} {w w' w'' : World} (h : Fp g b w w') (k : Fp g b w' w'') : Fp g b w w'' := Ch.trans h k
theorem Fp.of {g b : Nat} {w w' : World} (h : Below w.heap.size w w') (hb : b ≤ w.heap.size) : Fp g b w w' := Ch.bel h
theorem Sp.keep {w w' : World} {g b : Nat} {M : Ms Ev} (h : Sp w g b M) (hb : Below w.heap.size w w') : Sp w' g b M := ⟨h.gb, h.bg.eq (hb.block g h.bg.lt), h.bb.eq (hb.block b h.bb.lt), h.ok⟩
theorem Sp.keepC {w w' : World} {g b : Nat} {M : Ms Ev} {X : Nat → Prop} (h : Sp w g b M) (hc : Ch X w w') (hg : ¬ X g) (hb : ¬ X b) : Sp w' g b M := ⟨h.gb, h.bg.eq (hc.block g h.bg.lt hg), h.bb.eq (hc.block b h.bb.lt hb), h.ok⟩
theorem Fp.set {g b : Nat} (w : World) (i : Nat) (u : Value) (p : Nat) (hp : p = g ∨ p = b) (hgb : b < g) : Fp g b w (w.setCell ⟨p, i, none⟩ u) :=
  ⟨rfl, rfl, rfl, by simp, fun k hk hx => Below.heap_setCell w _ _ k (fun e => hx (by rw [e]; exact hp))⟩
theorem setCells_ch {X : Nat → Prop} {g : Nat} (hg : X g) : ∀ (vs : List Value) (o : Nat) (w : World), Ch X w (w.setCells g o vs)
  | [], _, w => Ch.refl _ _
  | v :: r, o, w => by
    rw [World.setCells]
    have h1 : Ch X w (w.setCell ⟨g, o, none⟩ v) := ⟨rfl, rfl, rfl, by simp, fun k hk hx => Below.heap_setCell w ⟨g, o, none⟩ v k (fun e => hx (by rw [e]; exact hg))⟩
    exact h1.trans (setCells_ch hg r (o + 1) _)
/-- A part of one slot's cells is stored. -/
theorem Sp.part {w : World} {g b : Nat} {M : Ms Ev} (h : Sp w g b M) {k : Nat} (hk : k < M.c.length) (e : Ce Ev) (o : Nat) (vs : List Value) (ho : o + vs.length ≤ 9)
    (h1 : ∀ i, i < 9 → (cf e)[i]? = if o ≤ i ∧ i < o + vs.length then vs[i - o]? else (cf (M.c.getD k Z0))[i]?) : Sp (w.setCells b (k * 9 + o) vs) g b ⟨M.c.set k e, M.h⟩ ∧ Fp g b w (w.setCells b (k * 9 + o) vs) := by
  have hgb := h.gb
  refine ⟨⟨hgb, ?_, ?_, ⟨by simpa using h.ok.n1, by simpa using h.ok.n64, by simpa using h.ok.hn⟩⟩, ?_⟩
  · simp only [List.length_set]
    exact h.bg.far_ _ _ (by omega)
  · obtain ⟨cs, c1, c2, c3⟩ := h.bb.setCells vs (k * 9 + o) (by rw [cA_size]; omega)
    rw [← cA_part M.c k hk e o vs ho c2 c3 h1]
    exact c1
  · exact setCells_ch (.inr rfl) vs _ w
theorem Sp.one {w : World} {g b : Nat} {M : Ms Ev} (h : Sp w g b M) {k : Nat} (hk : k < M.c.length) (e : Ce Ev) (o : Nat) (v : Value) (ho : o < 9)
    (h1 : ∀ i, i < 9 → (cf e)[i]? = if o = i then some v else (cf (M.c.getD k Z0))[i]?) : Sp (w.setCell ⟨b, k * 9 + o, none⟩ v) g b ⟨M.c.set k e, M.h⟩ ∧ Fp g b w (w.setCell ⟨b, k * 9 + o, none⟩ v) := by
  have := h.part hk e o [v] (by simp; omega) (fun i hi => by
    rw [h1 i hi]
    by_cases c : o = i
    · subst c; simp
    · rw [if_neg c, if_neg (by simp; omega)])
  exact this
section
variable {w : World} {g b : Nat} {M : Ms Ev}
theorem Sp.c0 (h : Sp w g b M) : w.cell? ⟨g, 0, none⟩ = some (.slice (some ⟨b, 0, none⟩) M.c.length M.c.length) := h.bg.cell 0
theorem Sp.c1 (h : Sp w g b M) : w.cell? ⟨g, 1, none⟩ = some (.int .i64 (M.h : Nat)) := h.bg.cell 1
theorem Sp.e0 (h : Sp w g b M) {k : Nat} (hk : k < M.c.length) : w.rangeAt b (k * 9) (evL (M.c.getD k Z0).x) := h.bb.range _ _ fun j u hj => by
  have hl := (List.getElem?_eq_some_iff.1 hj).1
  rw [evL_len] at hl
  rw [cA_at M.c k j hk (by omega)]
  unfold cf
  rw [List.getElem?_append_left (by rw [evL_len]; omega)]
  exact hj
theorem Sp.e1 (h : Sp w g b M) {k : Nat} (hk : k < M.c.length) : w.cell? ⟨b, k * 9 + 7, none⟩ = some (.bool (us M.c k)) := (h.bb.cell _).trans (cA_at M.c k 7 hk (by omega))
theorem Sp.e2 (h : Sp w g b M) {k : Nat} (hk : k < M.c.length) : w.cell? ⟨b, k * 9 + 8, none⟩ = some (.bool (ts M.c k)) := (h.bb.cell _).trans (cA_at M.c k 8 hk (by omega))
theorem Sp.th (h : Sp w g b M) {k : Nat} (hk : k < M.c.length) (o n : Nat) (hn : o + n ≤ 9) : w.there b (k * 9 + o) n := h.bb.there _ _ (by rw [cA_size]; omega)
end

set_option maxHeartbeats 1000000 in
theorem cap_nil (w : World) : Calls Try.prog 34 #[.pointer none] w fun e w' => e = .returned (.int .i64 0) ∧ w' = w := by
  go_enter Try.func34, Try.ntmps34
  go_wp2_with fail
  go_ret
  exact ⟨rfl, rfl⟩
set_option maxHeartbeats 1000000 in
theorem cap_any {w : World} {g b : Nat} {M : Ms Ev} (h : Sp w g b M) : Calls Try.prog 34 #[.pointer (some ⟨g, 0, none⟩)] w fun e w' => e = .returned (.int .i64 (M.c.length : Nat)) ∧ w' = w := by
  have c0 := h.c0
  have h1 := h.ok.n64
  generalize M.c.length = n at *
  clear h
  go_enter Try.func34, Try.ntmps34
  go_wp2_with fail
  go_ret
  exact ⟨rfl, rfl⟩

set_option maxHeartbeats 1000000 in
theorem has_nil (i : Int) (w : World) : Calls Try.prog 50 #[.pointer none, .int .i64 i] w fun e w' => e = .returned (.bool false) ∧ w' = w := by
  have HC := Lib.hid (fun w => cap_nil w)
  by_cases h0 : 0 ≤ i
  · have d0 : decide (0 ≤ i) = true := by simpa using h0
    have d1 : decide (i < 0) = false := by simp; omega
    clear h0
    go_enter Try.func50, Try.ntmps50
    go_wp2_with (go_at_call 34; with_reducible (refine (HC.out _).mono ?_); rintro e w1 ⟨rfl, rfl⟩)
    go_ret
    exact ⟨rfl, rfl⟩
  · have d0 : decide (0 ≤ i) = false := by simpa using h0
    clear h0
    go_enter Try.func50, Try.ntmps50
    go_wp2_with fail
    go_ret
    exact ⟨rfl, rfl⟩
set_option maxHeartbeats 1000000 in
theorem has_any (i : Int) {w : World} {g b : Nat} {M : Ms Ev} (h : Sp w g b M) : Calls Try.prog 50 #[.pointer (some ⟨g, 0, none⟩), .int .i64 i] w fun e w' => e = .returned (.bool (hasM M i)) ∧ w' = w := by
  have HC := Lib.hid (cap_any h)
  by_cases h0 : 0 ≤ i
  · have d0 : decide (0 ≤ i) = true := by simpa using h0
    by_cases h1 : i < M.c.length
    · obtain ⟨k, rfl⟩ : ∃ k : Nat, i = k := ⟨i.toNat, by omega⟩
      have hk : k < M.c.length := by omega
      have c0 := h.c0
      have e1 := h.e1 hk
      have d1 : decide ((k : Int) < M.c.length) = true := by simpa using hk
      have s0 : (0 : Int) ≤ (k : Nat) := by omega
      have h2 := h.ok.n64
      rw [has_nat hk]
      generalize us M.c k = u at *
      generalize M.c.length = n at *
      clear h
      go_enter Try.func50, Try.ntmps50
      go_wp2_with (go_at_call 34; with_reducible (refine HC.out.mono ?_); rintro e w1 ⟨rfl, rfl⟩)
      go_ret
      exact ⟨rfl, rfl⟩
    · have d1 : decide (i < M.c.length) = false := by simpa using h1
      have e : hasM M i = false := by unfold hasM; simp; omega
      rw [e]
      have h2 := h.ok.n64
      generalize M.c.length = n at *
      clear h
      go_enter Try.func50, Try.ntmps50
      go_wp2_with (go_at_call 34; with_reducible (refine HC.out.mono ?_); rintro e w1 ⟨rfl, rfl⟩)
      go_ret
      exact ⟨rfl, rfl⟩
  · have d0 : decide (0 ≤ i) = false := by simpa using h0
    have e : hasM M i = false := by unfold hasM; simp; omega
    rw [e]
    clear h0 HC h
    go_enter Try.func50, Try.ntmps50
    go_wp2_with fail
    go_ret
    exact ⟨rfl, rfl⟩
end Go.Proofs.Ytjjanogfcfapcaa
