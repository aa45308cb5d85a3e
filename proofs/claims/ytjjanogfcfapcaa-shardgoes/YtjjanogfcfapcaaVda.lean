/- The document's shard in memory (written by tools/gen_vd.py). -/
import Derived.Test.YtjjanogfcfapcaaBvc
import Derived.RegionTactic
import Derived.Deep.DeepCutAuto
import Derived.Below
import Derived.Laws.Rows
import Derived.Laws.Tables
import Derived.Deep.RegionHeld3
import Derived.Deep.RegionHeld
import Derived.Deep.RegionLawGrows
import Derived.Deep.AppendLies
namespace Go.Proofs.Ytjjanogfcfapcaa.D
open Go.RowKit
set_option linter.unusedVariables false

def xsV (c : List (Ce Ev)) : List Value := c.flatMap fun e => evL e.x
theorem xf_len (e : Ce Ev) : (evL e.x).length = 7 := rfl
def usV (c : List (Ce Ev)) : List Value := c.map fun e => .bool e.u
def tsV (c : List (Ce Ev)) : List Value := c.map fun e => .bool e.t
/-- Where the three slices lie. -/
structure Dv where
  gx : Nat
  cx : Nat
  gu : Nat
  cu : Nat
  gt : Nat
  ct : Nat
structure Dw (B : Nat) (w : World) (d : Dv) (c : List (Ce Ev)) : Prop where
  ox : w.ownsRow B 39 7 (.slice (some ⟨d.gx, 0, none⟩) c.length d.cx) c.length (xsV c)
  ou : w.ownsRow B 4 1 (.slice (some ⟨d.gu, 0, none⟩) c.length d.cu) c.length (usV c)
  ot : w.ownsRow B 4 1 (.slice (some ⟨d.gt, 0, none⟩) c.length d.ct) c.length (tsV c)
  ne : d.gu ≠ d.gt
def Dv.cs (d : Dv) (n h : Nat) : Array Value := #[.slice (some ⟨d.gx, 0, none⟩) n d.cx, .slice (some ⟨d.gu, 0, none⟩) n d.cu, .slice (some ⟨d.gt, 0, none⟩) n d.ct, .int .i64 (h : Nat)]
/-- The value of the document's slots. -/
def dV (d : Dv) (M : Ms Ev) : Value := .agg (d.cs M.c.length M.h)
theorem dV_eq (d : Dv) (M : Ms Ev) : dV d M = .agg #[.slice (some ⟨d.gx, 0, none⟩) M.c.length d.cx, .slice (some ⟨d.gu, 0, none⟩) M.c.length d.cu, .slice (some ⟨d.gt, 0, none⟩) M.c.length d.ct, .int .i64 (M.h : Nat)] := rfl
theorem Dw.below {B : Nat} {w w' : World} {d : Dv} {c : List (Ce Ev)} (h : Dw B w d c) (hb : Below w.heap.size w w') : Dw B w' d c := ⟨ownR_below h.ox hb, ownR_below h.ou hb, ownR_below h.ot hb, h.ne⟩
theorem own_eq {w w' : World} {B : Nat} {e : TypeId} {k g n cap : Nat} {xs : List Value} (h : w.ownsRow B e k (.slice (some ⟨g, 0, none⟩) n cap) n xs) (hg : w'.heap[g]? = w.heap[g]?) : w'.ownsRow B e k (.slice (some ⟨g, 0, none⟩) n cap) n xs := by
  refine ⟨h.1, ?_⟩
  rcases h.2 with ⟨h1, _⟩ | ⟨g', cap', cur, h1, h2, h3, h4⟩
  · cases h1
  · cases h1; exact .inr ⟨g, cap, cur, rfl, h2, hg.trans h3, h4⟩
theorem own_base {w : World} {B : Nat} {e : TypeId} {k g n cap : Nat} {xs : List Value} (h : w.ownsRow B e k (.slice (some ⟨g, 0, none⟩) n cap) n xs) : B ≤ g ∧ g < w.heap.size := by
  rcases h.2 with ⟨h1, _⟩ | ⟨g', cap', cur, h1, h2, h3, h4⟩
  · cases h1
  · cases h1; exact ⟨h2, heap_lt h3⟩
theorem own_blk {w : World} {B : Nat} {e : TypeId} {k g n cap : Nat} {xs : List Value} (h : w.ownsRow B e k (.slice (some ⟨g, 0, none⟩) n cap) n xs) : ∃ cur, Blk w g e cur := by
  rcases h.2 with ⟨h1, _⟩ | ⟨g', cap', cur, h1, h2, h3, h4⟩
  · cases h1
  · cases h1; exact ⟨cur, h3⟩
theorem own_mono {w : World} {B B' : Nat} {e : TypeId} {k : Nat} {v : Value} {n : Nat} {xs : List Value} (h : w.ownsRow B e k v n xs) (hB : B' ≤ B) : w.ownsRow B' e k v n xs := by
  refine ⟨h.1, ?_⟩
  rcases h.2 with h1 | ⟨g, cap, cur, h1, h2, h3, h4⟩
  · exact .inl h1
  · exact .inr ⟨g, cap, cur, h1, by omega, h3, h4⟩
/-- What a deed of the program's leaves: the document's slots, which lie above. -/
theorem Dw.ch {X : Nat → Prop} {B : Nat} {w w' : World} {d : Dv} {c : List (Ce Ev)} (h : Dw B w d c) (hc : Ch X w w') (hX : ∀ i, X i → i < B) : Dw B w' d c :=
  ⟨ownR_ch h.ox hc hX, ownR_ch h.ou hc hX, ownR_ch h.ot hc hX, h.ne⟩
theorem Dw.mono {B B' : Nat} {w : World} {d : Dv} {c : List (Ce Ev)} (h : Dw B w d c) (hB : B' ≤ B) : Dw B' w d c := ⟨own_mono h.ox hB, own_mono h.ou hB, own_mono h.ot hB, h.ne⟩
theorem xsV_at (c : List (Ce Ev)) (k i : Nat) (hk : k < c.length) (hi : i < 7) : (xsV c)[k * 7 + i]? = (evL (c.getD k Z0).x)[i]? := by
  unfold xsV
  rw [flat_at xf_len c k i hk hi]
  simp [hk]
theorem xsV_len (c : List (Ce Ev)) : (xsV c).length = c.length * 7 := flat_len xf_len c
theorem usV_at (c : List (Ce Ev)) (k : Nat) (hk : k < c.length) : (usV c)[k]? = some (.bool (us c k)) := by simp [usV, us, hk]
theorem tsV_at (c : List (Ce Ev)) (k : Nat) (hk : k < c.length) : (tsV c)[k]? = some (.bool (ts c k)) := by simp [tsV, ts, hk]
section
variable {B : Nat} {w : World} {d : Dv} {c : List (Ce Ev)}
theorem Dw.e0 (h : Dw B w d c) {k : Nat} (hk : k < c.length) : w.rangeAt d.gx (k * 7) (evL (c.getD k Z0).x) := fun j u hj => by
  have hl := (List.getElem?_eq_some_iff.1 hj).1
  rw [evL_len] at hl
  rw [h.ox.cellAt _ (by omega), xsV_at c k j hk hl]
  exact hj
theorem Dw.e1 (h : Dw B w d c) {k : Nat} (hk : k < c.length) : w.cell? ⟨d.gu, k, none⟩ = some (.bool (us c k)) := (h.ou.cellAt k (by omega)).trans (usV_at c k hk)
theorem Dw.e2 (h : Dw B w d c) {k : Nat} (hk : k < c.length) : w.cell? ⟨d.gt, k, none⟩ = some (.bool (ts c k)) := (h.ot.cellAt k (by omega)).trans (tsV_at c k hk)
end
theorem infoD : (Try.prog.info? 29).map (·.size) = some 4 := by kernel_rfl
theorem load_d (w : World) (g : Nat) (a b c e : Value) (hg : w.heap[g]? = some (.cells #[a, b, c, e] 29 (0, 0))) : (loadVar 29 ⟨g, 0, none⟩).run Try.prog w = .ok (.agg #[a, b, c, e]) w :=
  run_loadVar_row w g 29 29 #[a, b, c, e] (0, 0) _ hg Try.underlying29 rfl infoD
theorem ret_d {w : World} {fn : Func} {p : Tmp} {R : Ending → World → Prop} {a : Act} {g : Nat} {x y z u : Value} (h : fn.results = #[.cell p 29]) (hp : a.tmps.getD p undef = .pointer (some ⟨g, 0, none⟩)) (hd : a.defers = [])
    (hg : w.heap[g]? = some (.cells #[x, y, z, u] 29 (0, 0))) (hR : R (.returned (.agg #[x, y, z, u])) w) : bodyPost Try.prog fn R .ret a w :=
  bodyPost_ret (results_cell_row h _ w g 29 #[x, y, z, u] (0, 0) _ hp hg Try.underlying29 rfl infoD) hd hR
theorem ret_d2 {w : World} {fn : Func} {p q : Tmp} {R : Ending → World → Prop} {a : Act} {g : Nat} {x y z u v : Value} (h : fn.results = #[.cell p 29, .tmp q]) (hp : a.tmps.getD p undef = .pointer (some ⟨g, 0, none⟩)) (hq : a.tmps.getD q undef = v) (hd : a.defers = [])
    (hg : w.heap[g]? = some (.cells #[x, y, z, u] 29 (0, 0))) (hR : R (.returned (.tuple #[.agg #[x, y, z, u], v])) w) : bodyPost Try.prog fn R .ret a w := by
  refine bodyPost_ret (v := .tuple #[.agg #[x, y, z, u], v]) ?_ hd hR
  rw [results_cell_tmp h, hp, hq]
  simp [asAddr, Result.andThen, load_d w g x y z u hg]
theorem results_cell_tmp2 {fn : Func} {p q r : Tmp} {ty : TypeId} (h : fn.results = #[.cell p ty, .tmp q, .tmp r]) (tmps : Array Value) (P : Program) (w : World) :
    (results fn tmps).run P w =
      ((asAddr (tmps.getD p undef)).run P w).andThen fun a w₁ => ((loadVar ty a).run P w₁).andThen fun v w₂ => .ok (.tuple #[v, tmps.getD q undef, tmps.getD r undef]) w₂ := by
  simp only [results, h]
  simp [Sem.run_bind, Result.andThen]
theorem ret_d3 {w : World} {fn : Func} {p q r : Tmp} {R : Ending → World → Prop} {a : Act} {g : Nat} {x y z u v t : Value} (h : fn.results = #[.cell p 29, .tmp q, .tmp r]) (hp : a.tmps.getD p undef = .pointer (some ⟨g, 0, none⟩)) (hq : a.tmps.getD q undef = v) (hr : a.tmps.getD r undef = t) (hd : a.defers = [])
    (hg : w.heap[g]? = some (.cells #[x, y, z, u] 29 (0, 0))) (hR : R (.returned (.tuple #[.agg #[x, y, z, u], v, t])) w) : bodyPost Try.prog fn R .ret a w := by
  refine bodyPost_ret (v := .tuple #[.agg #[x, y, z, u], v, t]) ?_ hd hR
  rw [results_cell_tmp2 h, hp, hq, hr]
  simp [asAddr, Result.andThen, load_d w g x y z u hg]

theorem own_keep {w w' : World} {B : Nat} {e : TypeId} {k : Nat} {v : Value} {n : Nat} {xs : List Value} (h : w.ownsRow B e k v n xs) (hk : ∀ g, v.ownBlock = some g → w'.heap[g]? = w.heap[g]?) : w'.ownsRow B e k v n xs := by
  refine ⟨h.1, ?_⟩
  rcases h.2 with h1 | ⟨g, cap, cur, h1, h2, h3, h4⟩
  · exact .inl h1
  · exact .inr ⟨g, cap, cur, h1, h2, (hk g (by rw [h1]; rfl)).trans h3, h4⟩
theorem own_at {w : World} {B : Nat} {e : TypeId} {k : Nat} {v : Value} {n : Nat} {xs : List Value} (h : w.ownsRow B e k v n xs) {g : Nat} (hg : v.ownBlock = some g) : g < w.heap.size ∧ ∃ cur, Blk w g e cur := by
  rcases h.2 with ⟨h1, _⟩ | ⟨g', cap, cur, h1, h2, h3, h4⟩
  · rw [h1] at hg; cases hg
  · rw [h1] at hg
    have : g' = g := by simpa [Value.ownBlock] using hg
    subst this
    exact ⟨heap_lt h3, cur, h3⟩
theorem own_type {w : World} {B : Nat} {e t : TypeId} {k p : Nat} {v : Value} {n : Nat} {xs : List Value} {cs : Array Value} (h : w.ownsRow B e k v n xs) (hb : Blk w p t cs) (hne : e ≠ t) {g : Nat} (hg : v.ownBlock = some g) : g ≠ p := by
  intro he
  subst he
  obtain ⟨_, cur, hc⟩ := own_at h hg
  unfold Blk at hb hc
  rw [hc] at hb
  cases hb
  exact hne rfl
theorem own_two {w : World} {B B' : Nat} {e t : TypeId} {k k' : Nat} {v v' : Value} {n n' : Nat} {xs xs' : List Value} (h : w.ownsRow B e k v n xs) (h' : w.ownsRow B' t k' v' n' xs') (hne : e ≠ t) {g : Nat} (hg : v.ownBlock = some g) : v'.ownBlock ≠ some g := by
  intro he
  obtain ⟨_, cur, hc⟩ := own_at h' he
  exact own_type h hc hne hg rfl
def zD : Array Value := #[.slice none 0 0, .slice none 0 0, .slice none 0 0, .int .i64 0]
/-- Three rows, their headers' box p, and another box r. -/
structure Tri (B p r : Nat) (rs : Array Value) (w : World) (hh : Nat) (vX vU vT : Value) (nX nU nT : Nat) (xs us ts : List Value) : Prop where
  bp : Blk w p 29 #[vX, vU, vT, .int .i64 (hh : Nat)]
  br : Blk w r 29 rs
  rp : r ≠ p
  ox : w.ownsRow B 39 7 vX nX xs
  ou : w.ownsRow B 4 1 vU nU us
  ot : w.ownsRow B 4 1 vT nT ts
  ne : ∀ g, vU.ownBlock = some g → vT.ownBlock ≠ some g
section
variable {B p r : Nat} {rs : Array Value} {w w' : World} {hh : Nat} {vX vU vT : Value} {nX nU nT : Nat} {xs us ts : List Value}
theorem Tri.keep (h : Tri B p r rs w hh vX vU vT nX nU nT xs us ts) (hb : Below w.heap.size w w') : Tri B p r rs w' hh vX vU vT nX nU nT xs us ts :=
  ⟨h.bp.eq (hb.block _ h.bp.lt), h.br.eq (hb.block _ h.br.lt), h.rp, ownR_below h.ox hb, ownR_below h.ou hb, ownR_below h.ot hb, h.ne⟩
theorem Tri.bpG (h : Tri B p r rs w hh vX vU vT nX nU nT xs us ts) {row : Option Nat} (hg : w.grownBy w' row) (hr : row ≠ some p) : Blk w' p 29 #[vX, vU, vT, .int .i64 (hh : Nat)] := h.bp.eq (hg.block _ h.bp.lt (fun e => hr e.symm))
theorem Tri.px (h : Tri B p r rs w hh vX vU vT nX nU nT xs us ts) : vX.ownBlock ≠ some p := fun e => own_type h.ox h.bp (by decide) e rfl
theorem Tri.pu (h : Tri B p r rs w hh vX vU vT nX nU nT xs us ts) : vU.ownBlock ≠ some p := fun e => own_type h.ou h.bp (by decide) e rfl
theorem Tri.pt (h : Tri B p r rs w hh vX vU vT nX nU nT xs us ts) : vT.ownBlock ≠ some p := fun e => own_type h.ot h.bp (by decide) e rfl
theorem Tri.rx (h : Tri B p r rs w hh vX vU vT nX nU nT xs us ts) : vX.ownBlock ≠ some r := fun e => own_type h.ox h.br (by decide) e rfl
theorem Tri.ru (h : Tri B p r rs w hh vX vU vT nX nU nT xs us ts) : vU.ownBlock ≠ some r := fun e => own_type h.ou h.br (by decide) e rfl
theorem Tri.rt (h : Tri B p r rs w hh vX vU vT nX nU nT xs us ts) : vT.ownBlock ≠ some r := fun e => own_type h.ot h.br (by decide) e rfl
/-- A row has grown, and its new header is stored. -/
theorem Tri.setX (h : Tri B p r rs w hh vX vU vT nX nU nT xs us ts) {v' : Value} {n' : Nat} {xs' : List Value} (hg : w.grownBy w' vX.ownBlock) (ho : w'.ownsRow B 39 7 v' n' xs') : Tri B p r rs (w'.setCell ⟨p, 0, none⟩ v') hh v' vU vT n' nU nT xs' us ts := by
  have hp := h.bpG hg h.px
  refine ⟨hp.set_ 0 v', (h.br.eq (hg.block _ h.br.lt (fun e => h.rx e.symm))).far _ _ h.rp, h.rp, ?_, ?_, ?_, h.ne⟩
  · exact own_keep ho fun g hg' => Below.heap_setCell w' _ v' g (own_type ho hp (by decide) hg')
  · refine own_keep h.ou fun g hg' => ?_
    rw [Below.heap_setCell w' _ v' g (own_type h.ou h.bp (by decide) hg')]
    exact hg.block g (own_at h.ou hg').1 (fun e => own_two h.ou h.ox (by decide) hg' e.symm)
  · refine own_keep h.ot fun g hg' => ?_
    rw [Below.heap_setCell w' _ v' g (own_type h.ot h.bp (by decide) hg')]
    exact hg.block g (own_at h.ot hg').1 (fun e => own_two h.ot h.ox (by decide) hg' e.symm)
theorem Tri.setU (h : Tri B p r rs w hh vX vU vT nX nU nT xs us ts) {g0 c0 n' : Nat} {us' : List Value} (hg : w.grownBy w' vU.ownBlock) (ho : w'.ownsRow B 4 1 (.slice (some ⟨g0, 0, none⟩) n' c0) n' us') (hat : vU.ownBlock = some g0 ∨ g0 = w.heap.size) :
    Tri B p r rs (w'.setCell ⟨p, 1, none⟩ (.slice (some ⟨g0, 0, none⟩) n' c0)) hh vX (.slice (some ⟨g0, 0, none⟩) n' c0) vT nX n' nT xs us' ts := by
  have hp := h.bpG hg h.pu
  refine ⟨hp.set_ 1 _, (h.br.eq (hg.block _ h.br.lt (fun e => h.ru e.symm))).far _ _ h.rp, h.rp, ?_, ?_, ?_, ?_⟩
  · refine own_keep h.ox fun g hg' => ?_
    rw [Below.heap_setCell w' _ _ g (own_type h.ox h.bp (by decide) hg')]
    exact hg.block g (own_at h.ox hg').1 (fun e => own_two h.ox h.ou (by decide) hg' e.symm)
  · exact own_keep ho fun g hg' => Below.heap_setCell w' _ _ g (own_type ho hp (by decide) hg')
  · refine own_keep h.ot fun g hg' => ?_
    rw [Below.heap_setCell w' _ _ g (own_type h.ot h.bp (by decide) hg')]
    exact hg.block g (own_at h.ot hg').1 (fun e => h.ne g e.symm hg')
  · intro g hg' ht
    have e : g0 = g := by simpa [Value.ownBlock] using hg'
    subst e
    rcases hat with hat | hat
    · exact h.ne g0 hat ht
    · have := (own_at h.ot ht).1; omega
theorem Tri.setT (h : Tri B p r rs w hh vX vU vT nX nU nT xs us ts) {g0 c0 n' : Nat} {ts' : List Value} (hg : w.grownBy w' vT.ownBlock) (ho : w'.ownsRow B 4 1 (.slice (some ⟨g0, 0, none⟩) n' c0) n' ts') (hat : vT.ownBlock = some g0 ∨ g0 = w.heap.size) :
    Tri B p r rs (w'.setCell ⟨p, 2, none⟩ (.slice (some ⟨g0, 0, none⟩) n' c0)) hh vX vU (.slice (some ⟨g0, 0, none⟩) n' c0) nX nU n' xs us ts' := by
  have hp := h.bpG hg h.pt
  refine ⟨hp.set_ 2 _, (h.br.eq (hg.block _ h.br.lt (fun e => h.rt e.symm))).far _ _ h.rp, h.rp, ?_, ?_, ?_, ?_⟩
  · refine own_keep h.ox fun g hg' => ?_
    rw [Below.heap_setCell w' _ _ g (own_type h.ox h.bp (by decide) hg')]
    exact hg.block g (own_at h.ox hg').1 (fun e => own_two h.ox h.ot (by decide) hg' e.symm)
  · refine own_keep h.ou fun g hg' => ?_
    rw [Below.heap_setCell w' _ _ g (own_type h.ou h.bp (by decide) hg')]
    exact hg.block g (own_at h.ou hg').1 (fun e => h.ne g hg' e.symm)
  · exact own_keep ho fun g hg' => Below.heap_setCell w' _ _ g (own_type ho hp (by decide) hg')
  · intro g hg' ht
    have e : g0 = g := by simpa [Value.ownBlock] using ht
    subst e
    rcases hat with hat | hat
    · exact h.ne g0 hg' hat
    · have := (own_at h.ou hg').1; omega
end
theorem elT : (Try.prog.info? 39).map (fun i => (i.zero, i.size, i.bytes)) = some (some (evV default), 7, 72) := by kernel_rfl
theorem elB : (Try.prog.info? 4).map (fun i => (i.zero, i.size, i.bytes)) = some (some (.bool false), 1, 1) := by kernel_rfl
theorem newV (W : World) (e : TypeId) (u : Value) : ∀ j x, ([u] : List Value)[j]? = some x → (W.alloc (.cells #[u] e)).cell? ((⟨W.heap.size, 0, none⟩ : Addr).add j) = some x := fun j x hj => by
  have h := heap_alloc_new W (Obj.cells #[u] e)
  rw [Addr.add_lit, Nat.zero_add, blk_cell h j, ← hj]
  simp
theorem setRow_below {B g : Nat} {w0 w : World} (hb : Below B w0 w) (hBg : B ≤ g) (cs : Array Value) : Below B w0 (w.setRow g cs) :=
  ⟨hb.os, hb.tape, hb.output, by rw [setRow_size]; exact hb.size, fun k hk => by rw [setRow_other w g k cs (by omega)]; exact hb.block k hk⟩
theorem all4 (a b c d e f : Nat) (n h : Nat) : (#[Value.slice (some ⟨a, 0, none⟩) n b, .slice (some ⟨c, 0, none⟩) n d, .slice (some ⟨e, 0, none⟩) n f, .int .i64 (h : Nat)] : Array Value).all (·.oneCell') = true := by simp [Value.oneCell']
theorem rep_snoc (j : Nat) (u : Value) : List.replicate j u ++ [u] = List.replicate (j + 1) u := List.replicate_succ'.symm
theorem Tri.dw {B p r : Nat} {rs : Array Value} {w : World} {hh gx cx gu cu gt ct : Nat} {c : List (Ce Ev)} (h : Tri B p r rs w hh (.slice (some ⟨gx, 0, none⟩) c.length cx) (.slice (some ⟨gu, 0, none⟩) c.length cu) (.slice (some ⟨gt, 0, none⟩) c.length ct) c.length c.length c.length (xsV c) (usV c) (tsV c)) : Dw B w ⟨gx, cx, gu, cu, gt, ct⟩ c :=
  ⟨h.ox, h.ou, h.ot, fun e => h.ne gu rfl (by rw [show gu = gt from e]; rfl)⟩
theorem Dw.setRow {B r : Nat} {w : World} {d : Dv} {c : List (Ce Ev)} {rs cs : Array Value} (h : Dw B w d c) (hr : Blk w r 29 rs) : Dw B (w.setRow r cs) d c :=
  ⟨own_keep h.ox fun g hg => setRow_other w r g cs (own_type h.ox hr (by decide) hg), own_keep h.ou fun g hg => setRow_other w r g cs (own_type h.ou hr (by decide) hg), own_keep h.ot fun g hg => setRow_other w r g cs (own_type h.ot hr (by decide) hg), h.ne⟩

end Go.Proofs.Ytjjanogfcfapcaa.D
