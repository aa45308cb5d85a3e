/- A shard in memory: its slots, its places, its wheel, its entries' records; what each of them turns. -/
import Derived.Test.YtjjanogfcfapcaaVse
import Derived.Test.YtjjanogfcfapcaaVmp
import Derived.Test.YtjjanogfcfapcaaWvs
namespace Go.Proofs.Ytjjanogfcfapcaa
open Go.RowKit
set_option linter.unusedVariables false

theorem Ch.cell {X : Nat → Prop} {w w' : World} (h : Ch X w w') {b o : Nat} {v : Value} (hc : w.cell? ⟨b, o, none⟩ = some v) (hb : ¬ X b) : w'.cell? ⟨b, o, none⟩ = some v := by
  have e := h.block b (cell_size hc) hb
  unfold World.cell? at hc ⊢
  simp only at hc ⊢
  rw [e]
  exact hc
theorem Sl.ch {α : Type} {f : α → List Value} {X : Nat → Prop} {w w' : World} {A : Option Addr} {cap : Nat} {l : List α} (h : Sl f w A cap l) (hc : Ch X w w') (ha : ∀ b off, A = some ⟨b, off, none⟩ → l ≠ [] → ¬ X b) : Sl f w' A cap l := by
  refine ⟨h.nl, h.le, ?_⟩
  rcases h.has with h1 | ⟨b, off, h1, h2, h3⟩
  · exact .inl h1
  · by_cases e : l = []
    · exact .inl e
    · exact .inr ⟨b, off, h1, Nat.lt_of_lt_of_le h2 hc.size, fun j u hj => hc.cell (h3 j u hj) (ha b off h1 e)⟩
/-- An entry whose records lie where X isn't. -/
structure Re (X : Nat → Prop) (w : World) (x : Ev) : Prop where
  sl : Sl rf w x.A x.cap x.e.l
  away : ∀ b off, x.A = some ⟨b, off, none⟩ → x.e.l ≠ [] → ¬ X b
  q : x.e.q.Fine
  ex : x.e.ex < 18446744073709551616
  sm : x.e.l.length ≤ 3518437208883
section
variable {X Y : Nat → Prop} {w w' : World} {x : Ev}
theorem Re.ch (h : Re X w x) (hc : Ch X w w') : Re X w' x := ⟨h.sl.ch hc h.away, h.away, h.q, h.ex, h.sm⟩
theorem Re.low (h : Re X w x) (hb : Below w.heap.size w w') : Re X w' x := h.ch (Ch.bel hb)
theorem Re.zero (X : Nat → Prop) (w : World) : Re X w default := ⟨Sl.nil _ _, fun b off h => (by cases h), ⟨by show (0 : Nat) ≤ maxLen; omega, by show (0 : Nat) < 65536; omega, by show (0 : Nat) < 65536; omega⟩, by show (0 : Nat) < _; omega, by show (0 : Nat) ≤ _; omega⟩
end
/-- Where the parts of a shard lie. -/
structure Ly where
  g : Nat
  b : Nat
  p : Nat
  wg : Nat
  sb : Nat
  s : Nat
  bm : Nat → Nat
/-- The blocks that turn. -/
def Ly.X (K : Ly) (i : Nat) : Prop := i = K.g ∨ i = K.b ∨ i = K.p ∨ ∃ j, j < K.s ∧ i = K.bm j
structure Ly.Up (K : Ly) (h : Nat) : Prop where
  bg : K.b < K.g
  wg : K.g < K.wg
  sb : K.g < K.sb
  bm : ∀ j, j < K.s → K.g < K.bm j
  pw : K.wg < K.p
  ps : K.sb < K.p
  pm : ∀ j, j < K.s → K.bm j < K.p
  ph : K.p < h
/-- The program's shard h. -/
structure Sv (w : World) (h : Nat) (K : Ly) (M : Ms Ev) (f : Qu → Option Nat) (N : Nat) (l : List W.Ti) : Prop where
  up : K.Up h
  bh : Blk w h 71 #[.pointer (some ⟨K.g, 0, none⟩), .map (some K.p), .pointer (some ⟨K.wg, 0, none⟩)]
  sp : Sp w K.g K.b M
  pm : Pm w K.p N f
  wl : W.Wl w K.wg K.sb K.s l.length K.bm l
  re : ∀ k, Re K.X w (M.c.getD k Z0).x
theorem W.Wl.tight {w : World} {g sb s n : Nat} {bm : Nat → Nat} {l : List W.Ti} (h : W.Wl w g sb s n bm l) : W.Wl w g sb s l.length bm l :=
  ⟨h.c0, h.e0, fun j hj => (h.mp j hj).tight.mono (List.length_filter_le _ _), h.inj, h.ord, h.pos, h.le⟩
section
variable {w w' : World} {h : Nat} {K : Ly} {M M' : Ms Ev} {f f' : Qu → Option Nat} {N N' : Nat} {l l' : List W.Ti}
theorem Ly.Up.nh (u : K.Up h) : ¬ K.X h := by
  rintro (e | e | e | ⟨j, hj, e⟩)
  · have := u.wg; have := u.pw; have := u.ph; omega
  · have := u.bg; have := u.wg; have := u.pw; have := u.ph; omega
  · have := u.ph; omega
  · have := u.pm j hj; have := u.ph; omega
theorem W.Wl.ch {X : Nat → Prop} {g sb s n : Nat} {bm : Nat → Nat} (k : W.Wl w g sb s n bm l) (hc : Ch X w w') (h1 : ¬ X g) (h2 : ¬ X sb) (h3 : ∀ j, j < s → ¬ X (bm j)) : W.Wl w' g sb s n bm l :=
  ⟨hc.cell k.c0 h1, fun j hj => hc.cell (k.e0 j hj) h2, fun j hj => (k.mp j hj).block (hc.block _ (k.mp j hj).lt (h3 j hj)), k.inj, k.ord, k.pos, k.le⟩
theorem Sv.low (v : Sv w h K M f N l) (hb : Below w.heap.size w w') : Sv w' h K M f N l :=
  have hc : Ch (fun _ => False) w w' := Ch.bel hb
  ⟨v.up, v.bh.eq (hb.block _ v.bh.lt), v.sp.keep hb, v.pm.block (hb.block _ v.pm.lt), v.wl.ch hc (fun e => e) (fun e => e) (fun _ _ e => e), fun k => (v.re k).low hb⟩
theorem Sv.slots (v : Sv w h K M f N l) (hs : Sp w' K.g K.b M') (hf : Fp K.g K.b w w') (hr : ∀ k, Re K.X w' (M'.c.getD k Z0).x) : Sv w' h K M' f N l ∧ Ch K.X w w' := by
  have u := v.up
  have hc : Ch K.X w w' := Ch.mono hf (fun i e => by rcases e with e | e; exact .inl e; exact .inr (.inl e))
  have nb := u.bg; have n1 := u.wg; have n2 := u.sb; have n3 := u.pw; have n4 := u.ph
  refine ⟨⟨u, v.bh.eq (hf.block _ v.bh.lt (by omega)), hs, v.pm.block (hf.block _ v.pm.lt (by omega)), v.wl.ch hf (by omega) (by omega) (fun j hj => by have := u.bm j hj; omega), hr⟩, hc⟩
theorem Sv.wheel (v : Sv w h K M f N l) {n : Nat} (hw : W.Wl w' K.wg K.sb K.s n K.bm l') (hf : W.Fw K.bm K.s w w') : Sv w' h K M f N l' ∧ Ch K.X w w' := by
  have u := v.up
  have hc : Ch K.X w w' := ⟨hf.os, hf.tape, hf.output, hf.size, fun i hi hx => hf.block i hi (fun j hj e => hx (.inr (.inr (.inr ⟨j, hj, e⟩))))⟩
  have nb := u.bg; have n4 := u.ph
  have b0 := fun (i : Nat) (hi : i < w.heap.size) (hx : ∀ j, j < K.s → i ≠ K.bm j) => hf.block i hi hx
  refine ⟨⟨u, v.bh.eq (b0 _ v.bh.lt (fun j hj e => by have := u.pm j hj; omega)), ⟨v.sp.gb, v.sp.bg.eq (b0 _ v.sp.bg.lt (fun j hj e => by have := u.bm j hj; omega)), v.sp.bb.eq (b0 _ v.sp.bb.lt (fun j hj e => by have := u.bm j hj; omega)), v.sp.ok⟩, v.pm.block (b0 _ v.pm.lt (fun j hj e => by have := u.pm j hj; omega)), hw.tight, fun k => (v.re k).ch hc⟩, hc⟩
theorem Sv.map (v : Sv w h K M f N l) (hp : Pm w' K.p N' f') (ht : w.mapTurned w' K.p) : Sv w' h K M f' N' l ∧ Ch K.X w w' := by
  have u := v.up
  have g := ht.grown
  have hc : Ch (fun i => i = K.p) w w' := (Ch.refl _ w).grown g rfl
  have hX : Ch K.X w w' := hc.mono (fun i e => .inr (.inr (.inl e)))
  have nb := u.bg; have n1 := u.wg; have n2 := u.sb; have n3 := u.pw; have n4 := u.ps; have n5 := u.ph
  refine ⟨⟨u, v.bh.eq (hc.block _ v.bh.lt (by omega)), v.sp.keepC hc (by omega) (by omega), hp, v.wl.ch hc (by omega) (by omega) (fun j hj => by have := u.pm j hj; omega), fun k => (v.re k).ch hX⟩, hX⟩
theorem Sv.c0 (v : Sv w h K M f N l) : w.cell? ⟨h, 0, none⟩ = some (.pointer (some ⟨K.g, 0, none⟩)) := v.bh.cell 0
theorem Sv.c1 (v : Sv w h K M f N l) : w.cell? ⟨h, 1, none⟩ = some (.map (some K.p)) := v.bh.cell 1
theorem Sv.c2 (v : Sv w h K M f N l) : w.cell? ⟨h, 2, none⟩ = some (.pointer (some ⟨K.wg, 0, none⟩)) := v.bh.cell 2
theorem Sv.re_set (v : Sv w h K M f N l) {k : Nat} (hk : k < M.c.length) {e : Ce Ev} {w' : World} (hc : Ch K.X w w') (he : Re K.X w' e.x) (j : Nat) : Re K.X w' ((M.c.set k e).getD j Z0).x := by
  rw [getD_set _ _ _ _ hk]
  split
  · exact he
  · exact (v.re j).ch hc
end
/-- How many slots are used. -/
def cnt {α : Type} (c : List (Ce α)) : Nat := (c.filter (·.u)).length
theorem cnt_set {α : Type} [Inhabited α] (e : Ce α) : ∀ (c : List (Ce α)) (k : Nat), k < c.length → cnt (c.set k e) + (if us c k then 1 else 0) = cnt c + (if e.u then 1 else 0)
  | [], k, h => absurd h (by simp)
  | a :: c, 0, h => by
    unfold cnt us
    simp only [List.set_cons_zero, List.filter_cons, List.getD_cons_zero]
    cases a.u <;> cases e.u <;> simp
  | a :: c, k + 1, h => by
    have ih := cnt_set e c k (by simpa using h)
    have hu : us (a :: c) (k + 1) = us c k := by unfold us; simp
    unfold cnt at ih ⊢
    rw [hu]
    simp only [List.set_cons_succ, List.filter_cons]
    cases a.u
    · exact ih
    · simp only [if_true, List.length_cons]
      omega
theorem cnt_le {α : Type} (c : List (Ce α)) : cnt c ≤ c.length := List.length_filter_le _ _
/-- Nodup numbers below n are n at most. -/
theorem nodup_le : ∀ (n : Nat) (l : List Nat), l.Nodup → (∀ x ∈ l, x < n) → l.length ≤ n
  | 0, l, _, h => by
    cases l with
    | nil => exact Nat.le_refl _
    | cons a l => exact absurd (h a (List.mem_cons_self ..)) (by omega)
  | n + 1, l, hn, h => by
    have ih := nodup_le n (l.erase n) (hn.erase n) (fun x hx => by
      have h1 := h x (List.mem_of_mem_erase hx)
      have h2 : x ≠ n := fun e => by
        subst e
        exact (List.Nodup.not_mem_erase hn) hx
      omega)
    have := List.length_erase_le (a := n) (l := l)
    have h3 := List.le_length_erase (a := n) (l := l)
    omega
theorem ti_le {c : List (Ce En)} {l : List W.Ti} (h : TO c l) : l.length ≤ c.length := by
  have h1 : (l.map fun x => x.id.toNat).Nodup := by
    have := h.ord.nd
    rw [List.nodup_iff_pairwise_ne, List.pairwise_map] at this ⊢
    refine (List.Pairwise.and_mem.1 this).imp fun {a b} ⟨ha, hb, hne⟩ e => hne ?_
    have := h.nn a ha
    have := h.nn b hb
    omega
  have h2 := nodup_le c.length _ h1 (fun y hy => by
    obtain ⟨x, hx, rfl⟩ := List.mem_map.1 hy
    obtain ⟨k, e, h3, h4, _⟩ := h.mem hx
    have := W.cellOf_lt h4
    rw [tiC_len] at this
    omega)
  simpa using h2
end Go.Proofs.Ytjjanogfcfapcaa
