/- derricklaw12.do: the boxes, and what stays (written by tools/gen_vdp.py). -/
import Derived.Test.YtjjanogfcfapcaaVdm
import Derived.Test.YtjjanogfcfapcaaVdn
import Derived.Test.YtjjanogfcfapcaaVdo
namespace Go.Proofs.Ytjjanogfcfapcaa.D
open Go.RowKit
set_option linter.unusedVariables false

/-- A block without any text. -/
def NoS (cs : Array Value) : Prop := ∀ (i : Nat) (n : ByteArray), cs[i]? ≠ some (.string n)
theorem noS_box (a b c e f g : Nat) (n h : Nat) : NoS #[.slice (some ⟨a, 0, none⟩) n b, .slice (some ⟨c, 0, none⟩) n e, .slice (some ⟨f, 0, none⟩) n g, .int .i64 (h : Nat)] := fun i s hi => by
  match i with
  | 0 => cases hi
  | 1 => cases hi
  | 2 => cases hi
  | 3 => cases hi
  | n + 4 => cases hi
theorem noS_z : NoS zD := fun i s hi => by
  match i with
  | 0 => cases hi
  | 1 => cases hi
  | 2 => cases hi
  | 3 => cases hi
  | n + 4 => cases hi
theorem ch_set (w : World) (g : Nat) (cs : Array Value) : Ch (fun i => i = g) w (w.setRow g cs) := ⟨rfl, rfl, rfl, by rw [setRow_size]; exact Nat.le_refl _, fun i _ hi => setRow_other w g i cs hi⟩
theorem re_set {X : Nat → Prop} {w : World} {x : Ev} {g : Nat} {cs : Array Value} (h : Re X w x) (hb : Blk w g 29 cs) (hs : NoS cs) (cs' : Array Value) : Re X (w.setRow g cs') x := by
  refine ⟨h.sl.ch (ch_set w g cs') (fun b off hA hne he => ?_), h.away, h.q, h.ex, h.sm⟩
  rcases h.sl.has with h1 | ⟨b', off', h1, h2, h3⟩
  · exact hne h1
  · rw [h1] at hA
    cases hA
    subst he
    obtain ⟨r, l, hl⟩ := List.exists_cons_of_ne_nil hne
    have h4 := h3 0 (.string r.n) (by rw [hl]; rfl)
    rw [Nat.add_zero, hb.cell] at h4
    exact hs _ _ h4
theorem sh_set {w : World} {h g : Nat} {K : Ly} {S : Sd} {cs : Array Value} (s : Sh w h K S) (hb : Blk w g 29 cs) (hs : NoS cs) (hg : h < g) (cs' : Array Value) : Sh (w.setRow g cs') h K S := by
  obtain ⟨ok, M, hp, v⟩ := s
  have hc := ch_set w g cs'
  have u1 := v.up.bg
  have u2 := v.up.wg
  have u3 := v.up.sb
  have u4 := v.up.pw
  have u5 := v.up.ps
  have u6 := v.up.ph
  refine ⟨ok, M, hp, ?_⟩
  exact ⟨v.up, v.bh.eq (hc.block _ v.bh.lt (by omega)), v.sp.keepC hc (by omega) (by omega), v.pm.block (hc.block _ v.pm.lt (by omega)), v.wl.ch hc (by omega) (by omega) (fun j hj => by have := v.up.pm j hj; omega), fun k => re_set (v.re k) hb hs cs'⟩
theorem sh_lt {w : World} {h : Nat} {K : Ly} {S : Sd} (s : Sh w h K S) : h < w.heap.size ∧ ∀ i, K.X i → i < h := by
  obtain ⟨ok, M, hp, v⟩ := s
  have u1 := v.up.bg
  have u2 := v.up.wg
  have u4 := v.up.pw
  have u6 := v.up.ph
  refine ⟨v.bh.lt, fun i hi => ?_⟩
  rcases hi with rfl | rfl | rfl | ⟨j, hj, rfl⟩
  · omega
  · omega
  · omega
  · have := v.up.pm j hj; omega
section
variable {w w' : World} {h : Nat} {K : Ly} {S S' : Sd} {B : Nat} {d d' : Dv} {M M' : Ms Ev}
theorem Bo.set (b : Bo w h K S B d M) {g : Nat} {cs : Array Value} (hb : Blk w g 29 cs) (hs : NoS cs) (hg : h < g) (cs' : Array Value) : Bo (w.setRow g cs') h K S B d M :=
  ⟨sh_set b.sh hb hs hg cs', b.pm, b.dw.setRow hb, fun k => re_set (b.re k) hb hs cs', b.xb, by rw [setRow_size]; exact b.le⟩
/-- The program's shard has turned, not yet the document's. -/
theorem Bo.dwc (b : Bo w h K S B d M) (hc : Ch K.X w w') : Dw B w' d M.c := b.dw.ch hc b.xb
theorem Bo.rec_ (b : Bo w h K S B d M) (hc : Ch K.X w w') : Al (Re K.X w') M.c := fun k => (b.re k).ch hc
end
/-- The three boxes of a deed. -/
structure Dk (w0 w : World) (q : Nat) (h : Nat) (K : Ly) (d : Dv) (M : Ms Ev) (D : Dd) : Prop where
  bx : Blk w q 29 #[.slice (some ⟨d.gx, 0, none⟩) M.c.length d.cx, .slice (some ⟨d.gu, 0, none⟩) M.c.length d.cu, .slice (some ⟨d.gt, 0, none⟩) M.c.length d.ct, .int .i64 (M.h : Nat)]
  be : Blk w (q + 1) 41 (df D).toArray
  br : Blk w (q + 2) 29 zD
  xq : ∀ i, K.X i → i < q
  hq : h < q
  q0 : w0.heap.size ≤ q
  ch : Ch K.X w0 w
theorem Dk.go {w0 w w' : World} {q h : Nat} {K : Ly} {d : Dv} {M : Ms Ev} {D : Dd} (k : Dk w0 w q h K d M D) (hc : Ch K.X w w') : Dk w0 w' q h K d M D :=
  have f : ∀ i, q ≤ i → ¬ K.X i := fun i hi hx => by have := k.xq i hx; omega
  ⟨k.bx.eq (hc.block _ k.bx.lt (f _ (by omega))), k.be.eq (hc.block _ k.be.lt (f _ (by omega))), k.br.eq (hc.block _ k.br.lt (f _ (by omega))), k.xq, k.hq, k.q0, k.ch.trans hc⟩
theorem Dk.low {w0 w w' : World} {q h : Nat} {K : Ly} {d : Dv} {M : Ms Ev} {D : Dd} (k : Dk w0 w q h K d M D) (hb : Below w.heap.size w w') : Dk w0 w' q h K d M D := k.go (Ch.bel hb)
theorem Dk.end_ {w0 w : World} {q h : Nat} {K : Ly} {d : Dv} {M : Ms Ev} {D : Dd} (k : Dk w0 w q h K d M D) (cs : Array Value) : Ch K.X w0 (w.setRow (q + 2) cs) := k.ch.tail (setRow_below (Below.refl _ w) (by have := k.q0; omega) cs)
theorem dk_of {w : World} {h : Nat} {K : Ly} {S : Sd} {B : Nat} {d : Dv} {M : Ms Ev} (b : Bo w h K S B d M) (D : Dd) :
    Dk w (((w.alloc (Obj.cells #[.slice (some ⟨d.gx, 0, none⟩) M.c.length d.cx, .slice (some ⟨d.gu, 0, none⟩) M.c.length d.cu, .slice (some ⟨d.gt, 0, none⟩) M.c.length d.ct, .int .i64 (M.h : Nat)] 29)).alloc (Obj.cells (df D).toArray 41)).alloc (Obj.cells zD 29)) w.heap.size h K d M D ∧ Bo (((w.alloc (Obj.cells #[.slice (some ⟨d.gx, 0, none⟩) M.c.length d.cx, .slice (some ⟨d.gu, 0, none⟩) M.c.length d.cu, .slice (some ⟨d.gt, 0, none⟩) M.c.length d.ct, .int .i64 (M.h : Nat)] 29)).alloc (Obj.cells (df D).toArray 41)).alloc (Obj.cells zD 29)) h K S B d M := by
  obtain ⟨h1, h2⟩ := bx_mid b.dw (df D).toArray 41
  generalize ((w.alloc (Obj.cells #[.slice (some ⟨d.gx, 0, none⟩) M.c.length d.cx, .slice (some ⟨d.gu, 0, none⟩) M.c.length d.cu, .slice (some ⟨d.gt, 0, none⟩) M.c.length d.ct, .int .i64 (M.h : Nat)] 29)).alloc (Obj.cells (df D).toArray 41)).alloc (Obj.cells zD 29) = w1 at *
  exact ⟨⟨h1.bx, h2, h1.br, fun i hi => Nat.lt_of_lt_of_le (b.xb i hi) b.le, (sh_lt b.sh).1, Nat.le_refl _, Ch.bel h1.b⟩, b.low h1.b⟩
/-- The cells of a deed. -/
theorem d_cells {w : World} {g : Nat} {t : TypeId} {D : Dd} (h : Blk w g t (df D).toArray) : w.cell? ⟨g, 0, none⟩ = some (.int .i64 D.k) ∧ w.cell? ⟨g, 1, none⟩ = some (.string D.x.e.q.n) ∧ w.cell? ⟨g, 2, none⟩ = some (.int .u16 (D.x.e.q.k : Nat)) ∧ w.cell? ⟨g, 3, none⟩ = some (.int .u16 (D.x.e.q.c : Nat)) ∧ w.cell? ⟨g, 8, none⟩ = some (.int .u64 (D.now : Nat)) ∧ w.rangeAt g 1 (evL D.x) :=
  ⟨h.cell 0, h.cell 1, h.cell 2, h.cell 3, h.cell 8, h.range 1 _ fun j u hj => by
    show (df D).toArray[1 + j]? = some u
    have hl := (List.getElem?_eq_some_iff.1 hj).1
    rw [evL_len] at hl
    unfold df
    rw [List.getElem?_toArray, Nat.add_comm, List.getElem?_cons_succ, List.getElem?_append_left (by rw [evL_len]; exact hl)]
    exact hj⟩
/-- What a deed makes. -/
def doS (S : Sd) (D : Dd) : Sd :=
  if D.k = 0 then (insS S D.x.e D.now).1
  else if D.k = 1 then (lookS S D.x.e.q D.now).1
  else if D.k = 2 then (evS S D.x.e.q).1
  else (advS S D.now).1
theorem load_E0 {w : World} {g : Nat} {x : Ev} (h : Blk w g 39 (evL x).toArray) : w.rangeAt g 0 (evL x) := h.range 0 _ fun j u hj => by rw [Nat.zero_add, List.getElem?_toArray]; exact hj
end Go.Proofs.Ytjjanogfcfapcaa.D
