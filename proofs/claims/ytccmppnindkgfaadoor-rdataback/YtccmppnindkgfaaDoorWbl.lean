/- A pack beside two slices of numbers. -/
import Derived.Test.YtccmppnindkgfaaDoorWbk
namespace Go.Proofs.YtccmppnindkgfaaDoor
open Go.RowKit
set_option linter.unusedVariables false

/-- A pack with two slices of numbers. -/
structure Bk (B b : Nat) (S : List UInt8) (L : Kn) (v u : Value) (ats ends : List Nat) (w : World) : Prop where
  st : St B b S L w
  a : Ints B v ats w
  e : Ints B u ends w
  apart : Apart v u
theorem Bk.below {B b : Nat} {S : List UInt8} {L : Kn} {v u : Value} {ats ends : List Nat} {w w' : World} (h : Bk B b S L v u ats ends w) (hb : Below w.heap.size w w') : Bk B b S L v u ats ends w' := ⟨h.st.below hb, h.a.below hb, h.e.below hb, h.apart⟩
theorem Bk.addA {B b : Nat} {S : List UInt8} {L : Kn} {v u v' : Value} {ats ends : List Nat} {w w' : World} {o : Obj} (h : Bk B b S L v u ats ends w) (x : Nat) (hown : w'.ownsRow B 3 1 v' (ats.length + 1) (ints ats ++ [.int .i64 (x : Nat)])) (hg : (w.alloc o).grownBy w' v.ownBlock)
    (hloc : v'.ownBlock = v.ownBlock ∨ v'.ownBlock = some (w.alloc o).heap.size) : Bk B b S L v' u (ats ++ [x]) ends w' := by
  refine ⟨(h.st.alloc o).kept hg (fun g e => ?_), ?_, (h.e.alloc o).other hg h.apart.symm.ne, h.apart.step h.e (by simpa using hloc)⟩
  · obtain ⟨_, cur, h1⟩ := ints_is (h.a.alloc o) g e
    exact ⟨cur, 3, (0, 0), by decide, by decide, h1⟩
  · unfold Ints
    rw [ints_snoc, List.length_append]
    exact hown
theorem Bk.addE {B b : Nat} {S : List UInt8} {L : Kn} {v u u' : Value} {ats ends : List Nat} {w w' : World} {o : Obj} (h : Bk B b S L v u ats ends w) (x : Nat) (hown : w'.ownsRow B 3 1 u' (ends.length + 1) (ints ends ++ [.int .i64 (x : Nat)])) (hg : (w.alloc o).grownBy w' u.ownBlock)
    (hloc : u'.ownBlock = u.ownBlock ∨ u'.ownBlock = some (w.alloc o).heap.size) : Bk B b S L v u' ats (ends ++ [x]) w' := by
  refine ⟨(h.st.alloc o).kept hg (fun g e => ?_), (h.a.alloc o).other hg h.apart.ne, ?_, (h.apart.symm.step h.a (by simpa using hloc)).symm⟩
  · obtain ⟨_, cur, h1⟩ := ints_is (h.e.alloc o) g e
    exact ⟨cur, 3, (0, 0), by decide, by decide, h1⟩
  · unfold Ints
    rw [ints_snoc, List.length_append]
    exact hown
theorem Bk.turn {B b : Nat} {S S2 : List UInt8} {L L2 : Kn} {v u : Value} {ats ends : List Nat} {w w' : World} (h : Bk B b S L v u ats ends w) (hs : St B b S2 L2 w') (hk : Kp w w') : Bk B b S2 L2 v u ats ends w' := ⟨hs, h.a.kp hk, h.e.kp hk, h.apart⟩
theorem grown_below {B : Nat} {w0 w w' : World} {v : Value} {xs : List Nat} {o : Obj} (hb : Below B w0 w) (hB : B ≤ w.heap.size) (hg : (w.alloc o).grownBy w' v.ownBlock) (h : Ints B v xs w) : Below B w0 w' :=
  (hb.alloc hB o).grown hg (by simp; omega) (fun k e => (ints_is h k e).1)

theorem cell_lt0 {w : World} {p : Addr} {v : Value} (h : w.cell? p = some v) : p.block < w.heap.size := World.block_lt_of_cell? w p h
end Go.Proofs.YtccmppnindkgfaaDoor
