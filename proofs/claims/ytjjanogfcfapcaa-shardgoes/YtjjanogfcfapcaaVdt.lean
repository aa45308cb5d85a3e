/- derricklaw12.ran (written by tools/gen_vdt.py). -/
import Derived.Test.YtjjanogfcfapcaaVds
namespace Go.Proofs.Ytjjanogfcfapcaa.D
open Go.RowKit
set_option linter.unusedVariables false
set_option linter.unusedSimpArgs false
/-- A shard behind deeds. -/
def runS (n : Nat) (l : List Dd) : Sd := l.foldl doS (newS n)
theorem runS_snoc (n : Nat) (l : List Dd) (D : Dd) : runS n (l ++ [D]) = doS (runS n l) D := by unfold runS; rw [List.foldl_append]; rfl
theorem arg_re {X : Nat → Prop} {w w' : World} {x : Ev} (h : Arg w x) (hb : Below w.heap.size w w') (hX : ∀ i, X i → w.heap.size ≤ i) : Re X w' x := by
  refine ⟨h.sl.below' hb, fun b off hA hne hx => ?_, h.q, h.ex, h.sm⟩
  rcases h.sl.has with h1 | ⟨b', off', h1, h2, _⟩
  · exact hne h1
  · rw [h1] at hA
    cases hA
    have := hX b hx
    omega
theorem rnew_z (z : Int) (n : Nat) (hz : z = n) (h1 : 1 ≤ n) (h2 : n ≤ 64) (w : World) : Calls Try.prog 11 #[.int .i64 z] w fun e w' => ∃ d : Dv, e = .returned (.agg #[.slice (some ⟨d.gx, 0, none⟩) n d.cx, .slice (some ⟨d.gu, 0, none⟩) n d.cu, .slice (some ⟨d.gt, 0, none⟩) n d.ct, .int .i64 ((0 : Nat) : Int)]) ∧ Dw w.heap.size w' d (newM n : Ms Ev).c ∧ Below w.heap.size w w' := by
  subst hz
  refine (rnew_any n h1 h2 w).mono ?_
  rintro e w' ⟨d, e1, e2⟩
  have hl : (newM n : Ms Ev).c.length = n := by simp [newM]
  rw [dV_eq, hl] at e1
  exact ⟨d, e1, e2⟩
theorem al_new (P : Ev → Prop) (h0 : P default) (n : Nat) : Al P (newM n : Ms Ev).c := fun k => by
  have : ((newM n : Ms Ev).c.getD k Z0).x = default := by
    unfold newM
    simp only [List.getD_eq_getElem?_getD, List.getElem?_replicate]
    split <;> rfl
  rw [this]
  exact h0
theorem df_one (D : Dd) : (df D).toArray.size = 9 := rfl
/-- The cells of one deed of a list. -/
theorem Sl_df {w : World} {A : Option Addr} {cap : Nat} {l : List Dd} (h : Sl df w A cap l) (j : Nat) (hj : j < l.length) : ∃ b off, A = some ⟨b, off, Option.none⟩ ∧ b < w.heap.size ∧ w.rangeAt b (off + j * 9) (df l[j]) := by
  obtain ⟨b, off, h1, h2, h3⟩ := h.at df_len j hj
  exact ⟨b, off, h1, h2, fun i u hi => h3 i u hi⟩
theorem infoD9 (D : Dd) : (Try.prog.info? 41).map (·.size) = some (df D).length := by rw [df_len]; kernel_rfl
/-- Both shards, and the box of the document's. -/
structure Rn (w wr : World) (h : Nat) (K : Ly) (S : Sd) (B r : Nat) (d : Dv) (M : Ms Ev) : Prop where
  bo : Bo wr h K S B d M
  bx : Blk wr r 29 #[.slice (some ⟨d.gx, 0, none⟩) M.c.length d.cx, .slice (some ⟨d.gu, 0, none⟩) M.c.length d.cu, .slice (some ⟨d.gt, 0, none⟩) M.c.length d.ct, .int .i64 (M.h : Nat)]
  hr : h < r
  rb : w.heap.size ≤ r
  lo : Below w.heap.size w wr
  kx : ∀ i, K.X i → w.heap.size ≤ i
theorem Rn.low {w wr w' : World} {h : Nat} {K : Ly} {S : Sd} {B r : Nat} {d : Dv} {M : Ms Ev} (n : Rn w wr h K S B r d M) (hb : Below wr.heap.size wr w') : Rn w w' h K S B r d M :=
  ⟨n.bo.low hb, n.bx.eq (hb.block _ n.bx.lt), n.hr, n.rb, n.lo.trans (hb.mono n.lo.size), n.kx⟩
/-- Behind a deed. -/
theorem Rn.deed {w wr w' : World} {h : Nat} {K : Ly} {S S' : Sd} {B r : Nat} {d d' : Dv} {M M' : Ms Ev} (n : Rn w wr h K S B r d M) (b : Bo w' h K S' B d' M') (hc : Ch K.X wr w') : Blk w' r 29 #[.slice (some ⟨d.gx, 0, none⟩) M.c.length d.cx, .slice (some ⟨d.gu, 0, none⟩) M.c.length d.cu, .slice (some ⟨d.gt, 0, none⟩) M.c.length d.ct, .int .i64 (M.h : Nat)] ∧ Rn w (w'.setRow r #[.slice (some ⟨d'.gx, 0, none⟩) M'.c.length d'.cx, .slice (some ⟨d'.gu, 0, none⟩) M'.c.length d'.cu, .slice (some ⟨d'.gt, 0, none⟩) M'.c.length d'.ct, .int .i64 (M'.h : Nat)]) h K S' B r d' M' := by
  have hx : Blk w' r 29 #[.slice (some ⟨d.gx, 0, none⟩) M.c.length d.cx, .slice (some ⟨d.gu, 0, none⟩) M.c.length d.cu, .slice (some ⟨d.gt, 0, none⟩) M.c.length d.ct, .int .i64 (M.h : Nat)] := n.bx.eq (hc.block _ n.bx.lt (fun e => by have := (sh_lt n.bo.sh).2 r e; have := n.hr; omega))
  have hb : Below w.heap.size w w' := n.lo.trans (hc.isBelow n.kx n.lo.size)
  exact ⟨hx, b.set hx (noS_box _ _ _ _ _ _ _ _) n.hr _, setRow_heap _ _ _ _ _ _ hx, n.hr, n.rb, setRow_below hb n.rb _, n.kx⟩
theorem rn_new {w w1 w2 w3 : World} {h : Nat} {K : Ly} {n : Nat} (h1 : 1 ≤ n) (h2 : n ≤ 64) (s : Sh w1 h K (newS n)) (b1 : Below w.heap.size w w1) (kx : ∀ i, K.X i → w.heap.size ≤ i) {d : Dv} (dw : Dw w1.heap.size w2 d (newM n : Ms Ev).c) (b2 : Below w1.heap.size w1 w2) (hx : Blk w3 w2.heap.size 29 #[.slice (some ⟨d.gx, 0, none⟩) n d.cx, .slice (some ⟨d.gu, 0, none⟩) n d.cu, .slice (some ⟨d.gt, 0, none⟩) n d.ct, .int .i64 ((0 : Nat) : Nat)]) (b3 : Below w2.heap.size w2 w3) : Rn w w3 h K (newS n) w1.heap.size w2.heap.size d (newM n : Ms Ev) := by
  have hl : (newM n : Ms Ev).c.length = n := by simp [newM]
  have hs := sh_lt s
  refine ⟨⟨(s.low b2).low b3, newM_pure n, dw.below b3, al_new _ (Re.zero _ _) n, fun i hi => by have := hs.2 i hi; omega, Nat.le_trans b2.size b3.size⟩, ?_, Nat.lt_of_lt_of_le hs.1 b2.size, Nat.le_trans b1.size b2.size, (b1.trans (b2.mono b1.size)).trans (b3.mono (Nat.le_trans b1.size b2.size)), kx⟩
  rw [hl]
  exact hx
end Go.Proofs.Ytjjanogfcfapcaa.D
