/- derricklaw12.ShardGoes: what stays (written by tools/gen_vfd.py). -/
import Derived.Test.YtjjanogfcfapcaaVfc
import Derived.Test.YtjjanogfcfapcaaVdz
import Derived.Test.YtjjanogfcfapcaaVdn
import Derived.Test.YtjjanogfcfapcaaVdr
import Derived.BigQuiet
namespace Go.Proofs.Ytjjanogfcfapcaa.D
open Go.RowKit
set_option linter.unusedVariables false

/-- The deed's box, the question's, and the shard. -/
structure Ng (w0 wr : World) (h : Nat) (K : Ly) (S : Sd) (g : Nat) (D : Dd) (q : Qu) : Prop where
  sh : Sh wr h K S
  bd : Blk wr g 41 (df D).toArray
  bq : Blk wr (g + 1) 35 (qf q).toArray
  rx : Re K.X wr D.x
  lo : Below w0.heap.size w0 wr
  kx : ∀ i, K.X i → g + 1 < i
  q0 : w0.heap.size ≤ g
section
variable {w0 wr w' : World} {h : Nat} {K : Ly} {S S' : Sd} {g : Nat} {D : Dd} {q : Qu} {v : En} {A1 : Option Addr} {c1 r : Nat}
theorem Ng.deed (n : Ng w0 wr h K S g D q) (s : Sh w' h K S') (hc : Ch K.X wr w') : Ng w0 w' h K S' g D q :=
  ⟨s, n.bd.eq (hc.block _ n.bd.lt (fun e => by have := n.kx _ e; omega)), n.bq.eq (hc.block _ n.bq.lt (fun e => by have := n.kx _ e; omega)), n.rx.ch hc, n.lo.trans (hc.isBelow (fun i hi => by have := n.kx i hi; have := n.q0; omega) n.lo.size), n.kx, n.q0⟩
theorem Ng.low (n : Ng w0 wr h K S g D q) (hb : Below wr.heap.size wr w') : Ng w0 w' h K S g D q := n.deed (n.sh.low hb) (Ch.bel hb)
/-- And the box of what was told first. -/
structure Nr (w0 wr : World) (h : Nat) (K : Ly) (S : Sd) (g : Nat) (D : Dd) (q : Qu) (v : En) (A1 : Option Addr) (c1 r : Nat) : Prop where
  nv : Ng w0 wr h K S g D q
  bo : Blk wr r 39 (evL ⟨v, A1, c1⟩).toArray
  up : h < r
  sl : Sl rf wr A1 c1 v.l
  ua : ∀ b off, A1 = some ⟨b, off, none⟩ → h < b
theorem Nr.deed (n : Nr w0 wr h K S g D q v A1 c1 r) (s : Sh w' h K S') (hc : Ch K.X wr w') : Nr w0 w' h K S' g D q v A1 c1 r := by
  have hx := (sh_lt n.nv.sh).2
  have hu := n.up
  exact ⟨n.nv.deed s hc, n.bo.eq (hc.block _ n.bo.lt (fun e => by have := hx _ e; omega)), n.up, n.sl.ch hc (fun b off e _ hX => by have := n.ua b off e; have := hx b hX; omega), n.ua⟩
theorem Nr.low (n : Nr w0 wr h K S g D q v A1 c1 r) (hb : Below wr.heap.size wr w') : Nr w0 w' h K S g D q v A1 c1 r := n.deed (n.nv.sh.low hb) (Ch.bel hb)
/-- What was told to go. -/
structure Gs (wr : World) (h : Nat) (A : Option Addr) (c : Nat) (G : List Qu) : Prop where
  sl : Sl qf wr A c G
  ua : ∀ b off, A = some ⟨b, off, none⟩ → h < b
  le : G.length ≤ 1000
theorem Gs.deed {A : Option Addr} {c : Nat} {G : List Qu} (n : Gs wr h A c G) (s : Sh wr h K S) (hc : Ch K.X wr w') : Gs w' h A c G :=
  ⟨n.sl.ch hc (fun b off e _ hX => by have := n.ua b off e; have := (sh_lt s).2 b hX; omega), n.ua, n.le⟩
theorem Gs.low {A : Option Addr} {c : Nat} {G : List Qu} (n : Gs wr h A c G) (hb : Below wr.heap.size wr w') : Gs w' h A c G := ⟨n.sl.below' hb, n.ua, n.le⟩
theorem Gs.nil (wr : World) (h : Nat) : Gs wr h none 0 [] := ⟨Sl.nil _ _, fun b off e => by (cases e), Nat.zero_le _⟩
theorem look_sm (s : Sh wr h K S) (q : Qu) (now : Nat) : (lookS S q now).2.1.l.length ≤ 3518437208883 := by
  obtain ⟨ok, M, hp, v⟩ := s
  unfold lookS
  split
  · rename_i k _
    split
    · have := (v.re k).sm
      rw [pure_x hp k] at this
      exact this
    · exact Nat.zero_le _
  · exact Nat.zero_le _
theorem goes_1 (ok : S.Ok) {q : Qu} {T : Sd} {G : List Qu} (h : ent T q = if q ∈ G then none else ent (lookS S q 0).1 q) : (lookS T q 0).2 = if q ∈ G then (default, false) else (lookS S q 0).2 := by
  rw [goes_f h, look_ent, look_ent (S := S), ent_look ok]
theorem goes_2 (ok : S.Ok) {q : Qu} {now : Nat} (hg : q ∈ (advS (lookS S q 0).1 now).2) : (lookS S q 0).2.1.ex ≤ now := by
  have h1 := goes_ex (lookS_ok ok q 0) hg
  rw [look_ent, ent_look ok, ← look_ent] at h1
  exact h1
theorem goes_ev (ok : S.Ok) (d q : Qu) : ent (evS S d).1 q = if q ∈ (if (evS S d).2 = true then [d] else []) then none else ent S q := by
  rw [ent_ev ok, ev_is]
  by_cases hq : q = d
  · rw [if_pos hq]
    subst hq
    cases he : ent S q with
    | none => simp
    | some e => simp
  · rw [if_neg hq]
    split
    · rw [if_neg (by simpa using hq)]
    · simp
end
theorem two_dq (w : World) (cs cs2 : Array Value) : Blk ((w.alloc (Obj.cells cs 41)).alloc (Obj.cells cs2 35)) w.heap.size 41 cs ∧ Blk ((w.alloc (Obj.cells cs 41)).alloc (Obj.cells cs2 35)) (w.heap.size + 1) 35 cs2 ∧ Below w.heap.size w ((w.alloc (Obj.cells cs 41)).alloc (Obj.cells cs2 35)) := by
  have b0 := Blk.new w 41 cs
  have l0 := (Below.refl w.heap.size w).alloc (Nat.le_refl _) (Obj.cells cs 41)
  have e0 : (w.alloc (Obj.cells cs 41)).heap.size = w.heap.size + 1 := by simp
  generalize w.alloc (Obj.cells cs 41) = a1 at *
  have b1 := Blk.new a1 35 cs2
  have l1 := (Below.refl a1.heap.size a1).alloc (Nat.le_refl _) (Obj.cells cs2 35)
  rw [e0] at b1
  exact ⟨b0.eq (l1.block _ (by omega)), b1, l0.trans (l1.mono (by omega))⟩
theorem q_cells {w : World} {g : Nat} {t : TypeId} {q : Qu} (h : Blk w g t (qf q).toArray) : w.cell? ⟨g, 0, none⟩ = some (.string q.n) ∧ w.cell? ⟨g, 1, none⟩ = some (.int .u16 (q.k : Nat)) ∧ w.cell? ⟨g, 2, none⟩ = some (.int .u16 (q.c : Nat)) := ⟨h.cell 0, h.cell 1, h.cell 2⟩
/-- A slice of one question. -/
theorem sl_single {w : World} {g : Nat} {t : TypeId} {q : Qu} (h : Blk w g t (qf q).toArray) : Sl qf w (some ⟨g, 0, none⟩) 1 [q] := by
  refine ⟨fun e => (by cases e), Nat.le_refl _, .inr ⟨g, 0, rfl, h.lt, fun j u hj => ?_⟩⟩
  rw [Nat.zero_add, h.cell, List.getElem?_toArray]
  simpa using hj
theorem go_cells {w0 wr : World} {h : Nat} {K : Ly} {S : Sd} {g : Nat} {D : Dd} {q : Qu} {v : En} {A1 : Option Addr} {c1 r : Nat} (n : Nr w0 wr h K S g D q v A1 c1 r) {k : Int} (hk : D.k = k) : wr.cell? ⟨g, 0, none⟩ = some (.int .i64 k) ∧ wr.cell? ⟨g, 1, none⟩ = some (.string D.x.e.q.n) ∧ wr.cell? ⟨g, 2, none⟩ = some (.int .u16 (D.x.e.q.k : Nat)) ∧ wr.cell? ⟨g, 3, none⟩ = some (.int .u16 (D.x.e.q.c : Nat)) ∧ wr.cell? ⟨g, 8, none⟩ = some (.int .u64 (D.now : Nat)) ∧
    wr.cell? ⟨g + 1, 0, none⟩ = some (.string q.n) ∧ wr.cell? ⟨g + 1, 1, none⟩ = some (.int .u16 (q.k : Nat)) ∧ wr.cell? ⟨g + 1, 2, none⟩ = some (.int .u16 (q.c : Nat)) ∧ wr.cell? ⟨r, 6, none⟩ = some (.int .u64 (v.ex : Nat)) := by
  obtain ⟨a0, a1, a2, a3, a8, _⟩ := d_cells n.nv.bd
  obtain ⟨b0, b1, b2⟩ := q_cells n.nv.bq
  rw [hk] at a0
  exact ⟨a0, a1, a2, a3, a8, b0, b1, b2, (e_cells n.bo).2.2.2.2.2.2⟩
end Go.Proofs.Ytjjanogfcfapcaa.D
