/- Joined texts: Vck Vpa Vpb Vpc Vpd Vpe Vpf. -/
import Derived.Test.YtjjanogfcfapcaaBva
import Derived.Test.YtjjanogfcfapcaaBwe
import Derived.Deep.RegionHeld3
import Derived.Deep.CutBlock
import Derived.Deep.DeepCutAuto
import Derived.BigRegion

/- A shard in memory: its slots, its places, its wheel, its entries' records; what each of them turns. -/
namespace Go.Proofs.Ytjjanogfcfapcaa
open Go.RowKit
set_option linter.unusedVariables false

theorem Ch.cell {X : Nat → Prop} {w w' : World} (h : Ch X w w') {b o : Nat} {v : Value} (hc : w.cell? ⟨b, o, none⟩ = some v) (hb : ¬ X b) : w'.cell? ⟨b, o, none⟩ = some v := by
  have e := h.block b (cell_size hc) hb
  unfold World.cell? at hc ⊢
  simp only at hc ⊢
  rw [e]
  exact hc
theorem Sl.ch {α : Type} {f : α → List Value} {X : Nat → Prop} {w w' : World} {A : Option Addr} {cap : Nat} {l : List α} (h : Sl f w A cap l) (hc : Ch X w w') (ha : ∀ b off, A = some ⟨b, off, none⟩ → l ≠ [] → ¬ X b) : Sl f w' A cap l := by
  refine ⟨h.nl, h.le, ?_⟩
  rcases h.has with h1 | ⟨b, off, h1, h2, h3⟩
  · exact .inl h1
  · by_cases e : l = []
    · exact .inl e
    · exact .inr ⟨b, off, h1, Nat.lt_of_lt_of_le h2 hc.size, fun j u hj => hc.cell (h3 j u hj) (ha b off h1 e)⟩
/-- An entry whose records lie where X isn't. -/
structure Re (X : Nat → Prop) (w : World) (x : Ev) : Prop where
  sl : Sl rf w x.A x.cap x.e.l
  away : ∀ b off, x.A = some ⟨b, off, none⟩ → x.e.l ≠ [] → ¬ X b
  q : x.e.q.Fine
  ex : x.e.ex < 18446744073709551616
  sm : x.e.l.length ≤ 3518437208883
section
variable {X Y : Nat → Prop} {w w' : World} {x : Ev}
theorem Re.ch (h : Re X w x) (hc : Ch X w w') : Re X w' x := ⟨h.sl.ch hc h.away, h.away, h.q, h.ex, h.sm⟩
theorem Re.low (h : Re X w x) (hb : Below w.heap.size w w') : Re X w' x := h.ch (Ch.bel hb)
theorem Re.zero (X : Nat → Prop) (w : World) : Re X w default := ⟨Sl.nil _ _, fun b off h => (by cases h), ⟨by show (0 : Nat) ≤ maxLen; omega, by show (0 : Nat) < 65536; omega, by show (0 : Nat) < 65536; omega⟩, by show (0 : Nat) < _; omega, by show (0 : Nat) ≤ _; omega⟩
end
/-- Where the parts of a shard lie. -/
structure Ly where
  g : Nat
  b : Nat
  p : Nat
  wg : Nat
  sb : Nat
  s : Nat
  bm : Nat → Nat
/-- The blocks that turn. -/
def Ly.X (K : Ly) (i : Nat) : Prop := i = K.g ∨ i = K.b ∨ i = K.p ∨ ∃ j, j < K.s ∧ i = K.bm j
structure Ly.Up (K : Ly) (h : Nat) : Prop where
  bg : K.b < K.g
  wg : K.g < K.wg
  sb : K.g < K.sb
  bm : ∀ j, j < K.s → K.g < K.bm j
  pw : K.wg < K.p
  ps : K.sb < K.p
  pm : ∀ j, j < K.s → K.bm j < K.p
  ph : K.p < h
/-- The program's shard h. -/
structure Sv (w : World) (h : Nat) (K : Ly) (M : Ms Ev) (f : Qu → Option Nat) (N : Nat) (l : List W.Ti) : Prop where
  up : K.Up h
  bh : Blk w h 71 #[.pointer (some ⟨K.g, 0, none⟩), .map (some K.p), .pointer (some ⟨K.wg, 0, none⟩)]
  sp : Sp w K.g K.b M
  pm : Pm w K.p N f
  wl : W.Wl w K.wg K.sb K.s l.length K.bm l
  re : ∀ k, Re K.X w (M.c.getD k Z0).x
theorem W.Wl.tight {w : World} {g sb s n : Nat} {bm : Nat → Nat} {l : List W.Ti} (h : W.Wl w g sb s n bm l) : W.Wl w g sb s l.length bm l :=
  ⟨h.c0, h.e0, fun j hj => (h.mp j hj).tight.mono (List.length_filter_le _ _), h.inj, h.ord, h.pos, h.le⟩
section
variable {w w' : World} {h : Nat} {K : Ly} {M M' : Ms Ev} {f f' : Qu → Option Nat} {N N' : Nat} {l l' : List W.Ti}
theorem Ly.Up.nh (u : K.Up h) : ¬ K.X h := by
  rintro (e | e | e | ⟨j, hj, e⟩)
  · have := u.wg; have := u.pw; have := u.ph; omega
  · have := u.bg; have := u.wg; have := u.pw; have := u.ph; omega
  · have := u.ph; omega
  · have := u.pm j hj; have := u.ph; omega
theorem W.Wl.ch {X : Nat → Prop} {g sb s n : Nat} {bm : Nat → Nat} (k : W.Wl w g sb s n bm l) (hc : Ch X w w') (h1 : ¬ X g) (h2 : ¬ X sb) (h3 : ∀ j, j < s → ¬ X (bm j)) : W.Wl w' g sb s n bm l :=
  ⟨hc.cell k.c0 h1, fun j hj => hc.cell (k.e0 j hj) h2, fun j hj => (k.mp j hj).block (hc.block _ (k.mp j hj).lt (h3 j hj)), k.inj, k.ord, k.pos, k.le⟩
theorem Sv.low (v : Sv w h K M f N l) (hb : Below w.heap.size w w') : Sv w' h K M f N l :=
  have hc : Ch (fun _ => False) w w' := Ch.bel hb
  ⟨v.up, v.bh.eq (hb.block _ v.bh.lt), v.sp.keep hb, v.pm.block (hb.block _ v.pm.lt), v.wl.ch hc (fun e => e) (fun e => e) (fun _ _ e => e), fun k => (v.re k).low hb⟩
theorem Sv.slots (v : Sv w h K M f N l) (hs : Sp w' K.g K.b M') (hf : Fp K.g K.b w w') (hr : ∀ k, Re K.X w' (M'.c.getD k Z0).x) : Sv w' h K M' f N l ∧ Ch K.X w w' := by
  have u := v.up
  have hc : Ch K.X w w' := Ch.mono hf (fun i e => by rcases e with e | e; exact .inl e; exact .inr (.inl e))
  have nb := u.bg; have n1 := u.wg; have n2 := u.sb; have n3 := u.pw; have n4 := u.ph
  refine ⟨⟨u, v.bh.eq (hf.block _ v.bh.lt (by omega)), hs, v.pm.block (hf.block _ v.pm.lt (by omega)), v.wl.ch hf (by omega) (by omega) (fun j hj => by have := u.bm j hj; omega), hr⟩, hc⟩
theorem Sv.wheel (v : Sv w h K M f N l) {n : Nat} (hw : W.Wl w' K.wg K.sb K.s n K.bm l') (hf : W.Fw K.bm K.s w w') : Sv w' h K M f N l' ∧ Ch K.X w w' := by
  have u := v.up
  have hc : Ch K.X w w' := ⟨hf.os, hf.tape, hf.output, hf.size, fun i hi hx => hf.block i hi (fun j hj e => hx (.inr (.inr (.inr ⟨j, hj, e⟩))))⟩
  have nb := u.bg; have n4 := u.ph
  have b0 := fun (i : Nat) (hi : i < w.heap.size) (hx : ∀ j, j < K.s → i ≠ K.bm j) => hf.block i hi hx
  refine ⟨⟨u, v.bh.eq (b0 _ v.bh.lt (fun j hj e => by have := u.pm j hj; omega)), ⟨v.sp.gb, v.sp.bg.eq (b0 _ v.sp.bg.lt (fun j hj e => by have := u.bm j hj; omega)), v.sp.bb.eq (b0 _ v.sp.bb.lt (fun j hj e => by have := u.bm j hj; omega)), v.sp.ok⟩, v.pm.block (b0 _ v.pm.lt (fun j hj e => by have := u.pm j hj; omega)), hw.tight, fun k => (v.re k).ch hc⟩, hc⟩
theorem Sv.map (v : Sv w h K M f N l) (hp : Pm w' K.p N' f') (ht : w.mapTurned w' K.p) : Sv w' h K M f' N' l ∧ Ch K.X w w' := by
  have u := v.up
  have g := ht.grown
  have hc : Ch (fun i => i = K.p) w w' := (Ch.refl _ w).grown g rfl
  have hX : Ch K.X w w' := hc.mono (fun i e => .inr (.inr (.inl e)))
  have nb := u.bg; have n1 := u.wg; have n2 := u.sb; have n3 := u.pw; have n4 := u.ps; have n5 := u.ph
  refine ⟨⟨u, v.bh.eq (hc.block _ v.bh.lt (by omega)), v.sp.keepC hc (by omega) (by omega), hp, v.wl.ch hc (by omega) (by omega) (fun j hj => by have := u.pm j hj; omega), fun k => (v.re k).ch hX⟩, hX⟩
theorem Sv.c0 (v : Sv w h K M f N l) : w.cell? ⟨h, 0, none⟩ = some (.pointer (some ⟨K.g, 0, none⟩)) := v.bh.cell 0
theorem Sv.c1 (v : Sv w h K M f N l) : w.cell? ⟨h, 1, none⟩ = some (.map (some K.p)) := v.bh.cell 1
theorem Sv.c2 (v : Sv w h K M f N l) : w.cell? ⟨h, 2, none⟩ = some (.pointer (some ⟨K.wg, 0, none⟩)) := v.bh.cell 2
theorem Sv.re_set (v : Sv w h K M f N l) {k : Nat} (hk : k < M.c.length) {e : Ce Ev} {w' : World} (hc : Ch K.X w w') (he : Re K.X w' e.x) (j : Nat) : Re K.X w' ((M.c.set k e).getD j Z0).x := by
  rw [getD_set _ _ _ _ hk]
  split
  · exact he
  · exact (v.re j).ch hc
end
/-- How many slots are used. -/
def cnt {α : Type} (c : List (Ce α)) : Nat := (c.filter (·.u)).length
theorem cnt_set {α : Type} [Inhabited α] (e : Ce α) : ∀ (c : List (Ce α)) (k : Nat), k < c.length → cnt (c.set k e) + (if us c k then 1 else 0) = cnt c + (if e.u then 1 else 0)
  | [], k, h => absurd h (by simp)
  | a :: c, 0, h => by
    unfold cnt us
    simp only [List.set_cons_zero, List.filter_cons, List.getD_cons_zero]
    cases a.u <;> cases e.u <;> simp
  | a :: c, k + 1, h => by
    have ih := cnt_set e c k (by simpa using h)
    have hu : us (a :: c) (k + 1) = us c k := by unfold us; simp
    unfold cnt at ih ⊢
    rw [hu]
    simp only [List.set_cons_succ, List.filter_cons]
    cases a.u
    · exact ih
    · simp only [if_true, List.length_cons]
      omega
theorem cnt_le {α : Type} (c : List (Ce α)) : cnt c ≤ c.length := List.length_filter_le _ _
/-- Nodup numbers below n are n at most. -/
theorem nodup_le : ∀ (n : Nat) (l : List Nat), l.Nodup → (∀ x ∈ l, x < n) → l.length ≤ n
  | 0, l, _, h => by
    cases l with
    | nil => exact Nat.le_refl _
    | cons a l => exact absurd (h a (List.mem_cons_self ..)) (by omega)
  | n + 1, l, hn, h => by
    have ih := nodup_le n (l.erase n) (hn.erase n) (fun x hx => by
      have h1 := h x (List.mem_of_mem_erase hx)
      have h2 : x ≠ n := fun e => by
        subst e
        exact (List.Nodup.not_mem_erase hn) hx
      omega)
    have := List.length_erase_le (a := n) (l := l)
    have h3 := List.le_length_erase (a := n) (l := l)
    omega
theorem ti_le {c : List (Ce En)} {l : List W.Ti} (h : TO c l) : l.length ≤ c.length := by
  have h1 : (l.map fun x => x.id.toNat).Nodup := by
    have := h.ord.nd
    rw [List.nodup_iff_pairwise_ne, List.pairwise_map] at this ⊢
    refine (List.Pairwise.and_mem.1 this).imp fun {a b} ⟨ha, hb, hne⟩ e => hne ?_
    have := h.nn a ha
    have := h.nn b hb
    omega
  have h2 := nodup_le c.length _ h1 (fun y hy => by
    obtain ⟨x, hx, rfl⟩ := List.mem_map.1 hy
    obtain ⟨k, e, h3, h4, _⟩ := h.mem hx
    have := W.cellOf_lt h4
    rw [tiC_len] at this
    omega)
  simpa using h2
end Go.Proofs.Ytjjanogfcfapcaa

/- The contracts of the program's shard: find. -/
namespace Go.Proofs.Ytjjanogfcfapcaa
open Go.RowKit
set_option linter.unusedVariables false

theorem results_tct {fn : Func} {p q r : Tmp} {ty : TypeId} (h : fn.results = #[.tmp p, .cell q ty, .tmp r]) (tmps : Array Value) (P : Program) (w : World) :
    (results fn tmps).run P w =
      ((asAddr (tmps.getD q undef)).run P w).andThen fun a w₁ => ((loadVar ty a).run P w₁).andThen fun v w₂ => .ok (.tuple #[tmps.getD p undef, v, tmps.getD r undef]) w₂ := by
  simp only [results, h]
  simp [Sem.run_bind, Result.andThen]
theorem ret_e3 {w : World} {fn : Func} {p q r : Tmp} {R : Ending → World → Prop} {a : Act} {g : Nat} {u v : Value} (cs : Array Value) (hs : cs.size = 7) (h : fn.results = #[.tmp p, .cell q 39, .tmp r]) (hp : a.tmps.getD p undef = u) (hq : a.tmps.getD q undef = .pointer (some ⟨g, 0, none⟩)) (hr : a.tmps.getD r undef = v) (hd : a.defers = [])
    (hg : w.heap[g]? = some (.cells cs 39 (0, 0))) (hR : R (.returned (.tuple #[u, .agg cs, v])) w) : bodyPost Try.prog fn R .ret a w := by
  refine bodyPost_ret (v := .tuple #[u, .agg cs, v]) ?_ hd hR
  rw [results_tct h, hp, hq, hr]
  simp [asAddr, Result.andThen, load_e w g cs hs hg]
theorem zE_eq : zE = (evL default).toArray := rfl
theorem below_drewN (w : World) (n : Nat) : Below w.heap.size w (w.drewN n) := ⟨rfl, rfl, rfl, Nat.le_refl _, fun _ _ => rfl⟩
/-- The world of find: the question's box, and the result's. -/
structure Fi (w : World) (q : Qu) (w1 : World) : Prop where
  bq : Blk w1 w.heap.size 35 (qf q).toArray
  br : Blk w1 (w.heap.size + 1) 39 zE
  b : Below w.heap.size w w1
  sz : w1.heap.size = w.heap.size + 2
theorem fi_of (w : World) (q : Qu) : Fi w q ((w.alloc (.cells (qf q).toArray 35)).alloc (.cells zE 39)) := by
  have h1 := Blk.new w 35 (qf q).toArray
  have hb := (Below.refl w.heap.size w).alloc (Nat.le_refl _) (Obj.cells (qf q).toArray 35)
  have es : (w.alloc (Obj.cells (qf q).toArray 35)).heap.size = w.heap.size + 1 := by simp
  generalize w.alloc (Obj.cells (qf q).toArray 35) = w1 at *
  have h2 := Blk.new w1 39 zE
  have hb2 := (Below.refl w1.heap.size w1).alloc (Nat.le_refl _) (Obj.cells zE 39)
  rw [es] at h2
  exact ⟨h1.eq (hb2.block _ h1.lt), h2, hb.trans (hb2.mono hb.size), by simp [es]⟩

/-- A variable for an entry, and the entry in it. -/
theorem box_of (w : World) (x : Ev) : Blk ((w.alloc (.cells zE 39)).setRow w.heap.size (evL x).toArray) w.heap.size 39 (evL x).toArray ∧ Below w.heap.size w ((w.alloc (.cells zE 39)).setRow w.heap.size (evL x).toArray) :=
  ⟨setRow_heap _ _ _ _ _ _ (Blk.new w 39 zE), setRow_below ((Below.refl w.heap.size w).alloc (Nat.le_refl _) _) (Nat.le_refl _) _⟩
theorem Fi.dr {w w1 : World} {q : Qu} (h : Fi w q w1) (n : Nat) : Fi w q (w1.drewN n) := ⟨h.bq, h.br, ⟨h.b.os, h.b.tape, h.b.output, h.b.size, h.b.block⟩, h.sz⟩
set_option maxRecDepth 100000 in
set_option maxHeartbeats 2000000 in
theorem find_nil (q : Qu) (w : World) : Calls Try.prog 36 #[.pointer none, qV q] w fun e w' => e = .returned (.tuple #[.int .i64 0, evV default, .bool false]) ∧ Below w.heap.size w w' := by
  unfold qV
  have HF := Lib.hid (fi_of w q)
  go_enter Try.func36, Try.ntmps36
  go_upto_region 1 with (fail)
  unfold zE qf at HF
  generalize (w.alloc (Obj.cells #[.string q.n, .int .u16 (q.k : Nat), .int .u16 (q.c : Nat)] 35)).alloc (Obj.cells #[.string ⟨#[]⟩, .int .u16 0, .int .u16 0, .slice none 0 0, .int .i64 0, .int .i64 0, .int .u64 0] 39) = w1 at *
  go_wp2_with (refine wpList_store_row rfl 39 _ _ rfl (w.heap.size + 1) _ rfl rfl 39 _ HF.out.br infoE rfl (evL_one default) ?_)
  exact ret_e3 (evL default).toArray rfl rfl rfl rfl rfl rfl (setRow_heap _ _ _ _ _ _ HF.out.br) ⟨rfl, setRow_below HF.out.b (by omega) _⟩
set_option maxRecDepth 100000 in
set_option maxHeartbeats 2000000 in
theorem find_none (q : Qu) (hq : q.Fine) {w : World} {h : Nat} {K : Ly} {M : Ms Ev} {f : Qu → Option Nat} {N : Nat} {l : List W.Ti} (v : Sv w h K M f N l) (hf : f q = none) :
    Calls Try.prog 36 #[.pointer (some ⟨h, 0, none⟩), qV q] w fun e w' => e = .returned (.tuple #[.int .i64 0, evV default, .bool false]) ∧ Below w.heap.size w w' := by
  have hF := fi_of w q
  have v1 := v.low hF.b
  have HL := Lib.hid (fun n => (v1.low (below_drewN _ n)).pm.look hq)
  rw [hf] at HL
  have c1 := v1.c1
  have b0 := hF.bq.cell 0
  have b1 := hF.bq.cell 1
  have b2 := hF.bq.cell 2
  unfold qf at b0 b1 b2 c1 HL hF
  simp only [List.getElem?_toArray, List.getElem?_cons_zero, List.getElem?_cons_succ] at b0 b1 b2
  have HF := Lib.hid hF
  unfold qV at HL ⊢
  unfold zE at HL b0 b1 b2 c1 HF
  clear v v1 hF
  go_enter Try.func36, Try.ntmps36
  go_upto_region 1 with (fail)
  generalize (w.alloc (Obj.cells #[.string q.n, .int .u16 (q.k : Nat), .int .u16 (q.c : Nat)] 35)).alloc (Obj.cells #[.string ⟨#[]⟩, .int .u16 0, .int .u16 0, .slice none 0 0, .int .i64 0, .int .i64 0, .int .u64 0] 39) = w1 at *
  go_upto_region 3 with (fail)
  have hl := HL.out
  go_quiet (fail)
  have HF2 := Lib.hid (HF.out.dr nq)
  generalize w1.drewN nq = w2 at *
  clear hl b0 b1 b2 c1
  go_wp2_with (refine wpList_store_row rfl 39 _ _ rfl (w.heap.size + 1) _ rfl rfl 39 _ HF2.out.br infoE rfl (evL_one default) ?_)
  exact ret_e3 (evL default).toArray rfl rfl rfl rfl rfl rfl (setRow_heap _ _ _ _ _ _ HF2.out.br) ⟨rfl, setRow_below HF2.out.b (by omega) _⟩
set_option maxRecDepth 100000 in
set_option maxHeartbeats 4000000 in
theorem find_some (q : Qu) (hq : q.Fine) {w : World} {h : Nat} {K : Ly} {M : Ms Ev} {f : Qu → Option Nat} {N : Nat} {l : List W.Ti} (v : Sv w h K M f N l) {k : Nat} (hf : f q = some k) (hk : k < M.c.length) (hu : us M.c k = true) :
    Calls Try.prog 36 #[.pointer (some ⟨h, 0, none⟩), qV q] w fun e w' => e = .returned (.tuple #[.int .i64 (k : Nat), evV (M.c.getD k Z0).x, .bool true]) ∧ Below w.heap.size w w' := by
  have hF := fi_of w q
  have v1 := v.low hF.b
  have HL := Lib.hid (fun n => (v1.low (below_drewN _ n)).pm.look hq)
  rw [hf] at HL
  have c1 := v1.c1
  have b0 := hF.bq.cell 0
  have b1 := hF.bq.cell 1
  have b2 := hF.bq.cell 2
  have HV := Lib.hid v1
  unfold qf at b0 b1 b2 c1 HL hF HV
  simp only [List.getElem?_toArray, List.getElem?_cons_zero, List.getElem?_cons_succ] at b0 b1 b2
  have HF := Lib.hid hF
  unfold qV at HL ⊢
  unfold zE at HL b0 b1 b2 c1 HF HV
  clear v v1 hF
  obtain ⟨x, HX⟩ : ∃ x, Hid ((M.c.getD k Z0).x = x) := ⟨_, Lib.hid rfl⟩
  rw [HX.out]
  go_enter Try.func36, Try.ntmps36
  go_upto_region 1 with (fail)
  generalize (w.alloc (Obj.cells #[.string q.n, .int .u16 (q.k : Nat), .int .u16 (q.c : Nat)] 35)).alloc (Obj.cells #[.string ⟨#[]⟩, .int .u16 0, .int .u16 0, .slice none 0 0, .int .i64 0, .int .i64 0, .int .u64 0] 39) = w1 at *
  go_upto_region 3 with (fail)
  have hl := HL.out
  simp only [Option.getD_some, Option.isSome_some] at hl
  go_quiet (fail)
  have HF2 := Lib.hid (HF.out.dr nq)
  have HV2 := Lib.hid (HV.out.low (below_drewN _ nq))
  generalize w1.drewN nq = w2 at *
  clear hl b0 b1 b2 c1
  have HG := Lib.hid (get_k HV2.out.sp hk hu)
  rw [HX.out] at HG
  have c0 := HV2.out.c0
  go_upto_region 7 with (first | (refine wpList_store_row rfl 39 _ _ rfl w3.heap.size _ rfl rfl 39 _ HN.out (infoEa x) rfl (evL_one x) ?_) | (go_at_call 33; (with_reducible (refine HG.out.mono ?_)); rintro e w3 ⟨rfl, hb3⟩; have HB3 := Lib.hid hb3; have HN := Lib.hid (Blk.new w3 39 zE); unfold zE at HN; clear hb3))
  have hbr := HF2.out.br.eq (HB3.out.block _ HF2.out.br.lt)
  obtain ⟨hb4, h4⟩ := box_of w3 x
  unfold zE at hb4 h4
  have HN2 := Lib.hid (And.intro hbr (And.intro hb4 h4))
  generalize (w3.alloc (Obj.cells #[.string ⟨#[]⟩, .int .u16 0, .int .u16 0, .slice none 0 0, .int .i64 0, .int .i64 0, .int .u64 0] 39)).setRow w3.heap.size (evL x).toArray = w4 at *
  clear hbr hb4 h4 c0 HN
  have e0 := HN2.out.2.1.cell 0
  have e1 := HN2.out.2.1.cell 1
  have e2 := HN2.out.2.1.cell 2
  have e3 := HN2.out.2.1.cell 3
  have e4 := HN2.out.2.1.cell 4
  have e5 := HN2.out.2.1.cell 5
  have e6 := HN2.out.2.1.cell 6
  unfold evL at e0 e1 e2 e3 e4 e5 e6
  simp only [List.getElem?_toArray, List.getElem?_cons_zero, List.getElem?_cons_succ] at e0 e1 e2 e3 e4 e5 e6
  go_still_tail 3, (by kernel_rfl)
  change wpList _ _ _ _ _ w4.drew
  have hd := (Below.refl w4.heap.size w4).drew
  have HR := Lib.hid (HN2.out.1.eq ((HN2.out.2.2.trans (hd.mono HN2.out.2.2.size)).block _ HN2.out.1.lt))
  have HB := Lib.hid (HF2.out.b.trans ((HB3.out.trans ((HN2.out.2.2.trans (hd.mono HN2.out.2.2.size)).mono HB3.out.size)).mono HF2.out.b.size))
  clear hd e0 e1 e2 e3 e4 e5 e6
  generalize w4.drew = w5 at *
  go_wp2_with (refine wpList_store_row rfl 39 _ _ rfl (w.heap.size + 1) (evL x).toArray rfl rfl 39 _ HR.out (infoEa x) rfl (evL_one x) ?_)
  exact ret_e3 (evL x).toArray rfl rfl rfl rfl rfl rfl (setRow_heap _ _ _ _ _ _ HR.out) ⟨rfl, setRow_below HB.out (by omega) _⟩
end Go.Proofs.Ytjjanogfcfapcaa

/- The contracts of what a shard calls, told of the whole shard. -/
namespace Go.Proofs.Ytjjanogfcfapcaa
open Go.RowKit
set_option linter.unusedVariables false
section
variable {w : World} {h : Nat} {K : Ly} {M : Ms Ev} {f : Qu → Option Nat} {N : Nat} {l : List W.Ti}
theorem wf_nat {k : Nat} (hk : k < 1000) : (Lit.int .i64 (k : Nat)).wf = true := by
  simp [Lit.wf, IntKind.min, IntKind.max, IntKind.signed, IntKind.bits]
  omega
theorem free_sv (v : Sv w h K M f N l) {k : Nat} (hk : k < M.c.length) (hu : us M.c k = true) :
    Calls Try.prog 55 #[.pointer (some ⟨K.g, 0, none⟩), .int .i64 (k : Nat)] w fun e w' => e = .returned (.bool true) ∧ Sv w' h K ⟨M.c.set k Z0, M.h⟩ f N l ∧ Ch K.X w w' :=
  (free_k v.sp hk hu).mono fun _ _ ⟨he, hs, hf⟩ => ⟨he, v.slots hs hf (v.re_set hk (Ch.mono hf (fun i e => by rcases e with e | e; exact .inl e; exact .inr (.inl e))) (Re.zero _ _))⟩
theorem touch_sv (v : Sv w h K M f N l) {k : Nat} (hk : k < M.c.length) (hu : us M.c k = true) :
    Calls Try.prog 43 #[.pointer (some ⟨K.g, 0, none⟩), .int .i64 (k : Nat)] w fun e w' => e = .returned (.bool true) ∧ Sv w' h K ⟨M.c.set k ⟨(M.c.getD k Z0).x, true, true⟩, M.h⟩ f N l ∧ Ch K.X w w' :=
  (touch_k v.sp hk hu).mono fun _ _ ⟨he, hs, hf⟩ =>
    have hc : Ch K.X _ _ := Ch.mono hf (fun i e => by rcases e with e | e; exact .inl e; exact .inr (.inl e))
    ⟨he, v.slots hs hf (v.re_set hk hc ((v.re k).ch hc))⟩
theorem set_sv (v : Sv w h K M f N l) {k : Nat} (hk : k < M.c.length) (hu : us M.c k = true) {x : Ev} (hx : Re K.X w x) :
    Calls Try.prog 51 #[.pointer (some ⟨K.g, 0, none⟩), .int .i64 (k : Nat), evV x] w fun e w' => e = .returned (.bool true) ∧ Sv w' h K ⟨M.c.set k ⟨x, true, ts M.c k⟩, M.h⟩ f N l ∧ Ch K.X w w' :=
  (set_k x v.sp hk hu).mono fun _ _ ⟨he, hs, hf⟩ =>
    have hc : Ch K.X _ _ := Ch.mono hf (fun i e => by rcases e with e | e; exact .inl e; exact .inr (.inl e))
    ⟨he, v.slots hs hf (v.re_set hk hc (hx.ch hc))⟩
theorem put_sv (v : Sv w h K M f N l) {k : Nat} (hk : firstC M.c = some k) {x : Ev} (hx : Re K.X w x) :
    Calls Try.prog 54 #[.pointer (some ⟨K.g, 0, none⟩), evV x] w fun e w' => e = .returned (.tuple #[.int .i64 (k : Nat), .int .i64 0]) ∧ Sv w' h K ⟨M.c.set k ⟨x, true, false⟩, M.h⟩ f N l ∧ Ch K.X w w' :=
  (put_k x v.sp hk).mono fun _ _ ⟨he, hs, hf⟩ =>
    have hc : Ch K.X _ _ := Ch.mono hf (fun i e => by rcases e with e | e; exact .inl e; exact .inr (.inl e))
    ⟨he, v.slots hs hf (v.re_set (first_of hk).1 hc (hx.ch hc))⟩
theorem vic_sv (v : Sv w h K M f N l) :
    Calls Try.prog 53 #[.pointer (some ⟨K.g, 0, none⟩)] w fun e w' => e = .returned (.tuple #[.int .i64 (vicI M), .bool (vicB M)]) ∧ Sv w' h K (vicM M).1 f N l ∧ Ch K.X w w' :=
  (vic_any v.sp).mono fun _ _ ⟨he, hs, hf⟩ =>
    have hc : Ch K.X _ _ := Ch.mono hf (fun i e => by rcases e with e | e; exact .inl e; exact .inr (.inl e))
    ⟨he, v.slots hs hf (fun j => by rw [vicM_xs v.sp.ok]; exact (v.re j).ch hc)⟩
theorem wdel_sv (v : Sv w h K M f N l) {k : Nat} (hk : k < 1000) :
    Calls Try.prog 56 #[.pointer (some ⟨K.wg, 0, none⟩), .int .i64 (k : Nat)] w fun e w' => e = .returned (.bool (W.look l k).isSome) ∧ Sv w' h K M f N (W.delL l k) ∧ Ch K.X w w' :=
  (W.del_any k (wf_nat hk) v.wl).mono fun _ _ ⟨he, hg, hl⟩ => ⟨he, v.wheel hl ((W.Fw.refl K.bm K.s w).grown hg (fun r e => by cases e; exact .inr ⟨_, W.spk_lt v.wl.pos k, rfl⟩))⟩
theorem wset_sv (v : Sv w h K M f N l) {k : Nat} (hk : k < 1000) {t : Nat} (ht : t < 18446744073709551616) (hl : l.length < 100000) :
    Calls Try.prog 52 #[.pointer (some ⟨K.wg, 0, none⟩), .int .i64 (k : Nat), .int .u64 (t : Nat)] w fun e w' => e = .returned (.int .i64 0) ∧ Sv w' h K M f N (W.setL l k t) ∧ Ch K.X w w' :=
  (W.set_any k (wf_nat hk) t ht v.wl hl).mono fun _ _ ⟨he, hg, hl⟩ => ⟨he, v.wheel hl ((W.Fw.refl K.bm K.s w).grown hg (fun r e => by cases e; exact .inr ⟨_, W.spk_lt v.wl.pos k, rfl⟩))⟩
theorem wdue_sv (v : Sv w h K M f N l) (now : Nat) (hl : l.length ≤ 200) :
    Calls Try.prog 44 #[.pointer (some ⟨K.wg, 0, none⟩), .int .u64 (now : Nat)] w fun e w' => ∃ A c, e = .returned (.slice A (W.dueL l now).length c) ∧ W.NsI w' A ((W.dueL l now).map (·.id)) ∧ Sv w' h K M f N (W.restL l now) ∧ Ch K.X w w' :=
  (W.due_any 200 W.sort200 (by omega) now v.wl (Nat.le_trans (List.takeWhile_sublist _).length_le hl) (by omega)).mono fun _ _ ⟨A, c, he, hn, hw, hf⟩ => ⟨A, c, he, hn, v.wheel hw hf⟩
end
theorem elQ3 : (Try.prog.info? 35).map (·.size) = some 3 := by kernel_rfl
theorem load_q (w : World) (g : Nat) (cs : Array Value) (hs : cs.size = 3) (hg : w.heap[g]? = some (.cells cs 35 (0, 0))) : (loadVar 35 ⟨g, 0, none⟩).run Try.prog w = .ok (.agg cs) w :=
  run_loadVar_row w g 35 35 cs (0, 0) _ hg Try.underlying35 rfl (by rw [hs]; exact elQ3)
theorem ret_q {w : World} {fn : Func} {p : Tmp} {R : Ending → World → Prop} {a : Act} {g : Nat} (cs : Array Value) (hs : cs.size = 3) (h : fn.results = #[.cell p 35]) (hp : a.tmps.getD p undef = .pointer (some ⟨g, 0, none⟩)) (hd : a.defers = [])
    (hg : w.heap[g]? = some (.cells cs 35 (0, 0))) (hR : R (.returned (.agg cs)) w) : bodyPost Try.prog fn R .ret a w :=
  bodyPost_ret (results_cell_row h _ w g 35 cs (0, 0) _ hp hg Try.underlying35 rfl (by rw [hs]; exact elQ3)) hd hR
theorem qf_one1 (q : Qu) : (qf q).toArray.all (·.oneCell') = true := by simp [qf, Value.oneCell']
def zQ : Array Value := #[.string ⟨#[]⟩, .int .u16 0, .int .u16 0]
theorem blk_new_eq (w : World) (t : TypeId) (cs : Array Value) : Blk (w.alloc (.cells cs t)) w.heap.size t cs := Blk.new w t cs
end Go.Proofs.Ytjjanogfcfapcaa

/- The contract of the program's shard: remove. -/
namespace Go.Proofs.Ytjjanogfcfapcaa
open Go.RowKit
set_option linter.unusedVariables false
section
variable {w w' : World} {h : Nat} {K : Ly} {M : Ms Ev} {f : Qu → Option Nat} {N : Nat} {l : List W.Ti}
theorem Sv.xlt (v : Sv w h K M f N l) {i : Nat} (hi : K.X i) : i < w.heap.size := by
  rcases hi with e | e | e | ⟨j, hj, e⟩
  · rw [e]; exact v.sp.bg.lt
  · rw [e]; exact v.sp.bb.lt
  · rw [e]; exact v.pm.lt
  · rw [e]; exact (v.wl.mp j hj).lt
theorem Sv.notX (v : Sv w h K M f N l) {i : Nat} (hi : w.heap.size ≤ i) : ¬ K.X i := fun e => by have := v.xlt e; omega
/-- A row that the call has made is stored: no part of the shard's. -/
theorem Sv.row {w0 : World} {M0 : Ms Ev} {f0 : Qu → Option Nat} {N0 : Nat} {l0 : List W.Ti} (v : Sv w h K M f N l) (v0 : Sv w0 h K M0 f0 N0 l0) {r : Nat} (hr : w0.heap.size ≤ r) (cs : Array Value) (hre : ∀ j, Re K.X (w.setRow r cs) (M.c.getD j Z0).x) : Sv (w.setRow r cs) h K M f N l := by
  have hc : Ch (fun i => i = r) w (w.setRow r cs) := ⟨rfl, rfl, rfl, by rw [setRow_size]; exact Nat.le_refl _, fun i _ hi => setRow_other w r i cs hi⟩
  have a1 := v0.bh.lt
  have a2 := v0.sp.bg.lt
  have a3 := v0.sp.bb.lt
  have a4 := v0.pm.lt
  have a5 := cell_size v0.wl.c0
  have a6 := cell_size (v0.wl.e0 0 v0.wl.pos)
  simp only at a5 a6
  refine ⟨v.up, v.bh.eq (hc.block _ v.bh.lt (by omega)), v.sp.keepC hc (by omega) (by omega), v.pm.block (hc.block _ v.pm.lt (by omega)), v.wl.ch hc (by omega) (by omega) (fun j hj => by have := (v0.wl.mp j hj).lt; omega), hre⟩
theorem Blk.ch {X : Nat → Prop} {g : Nat} {t : TypeId} {cs : Array Value} (b : Blk w g t cs) (hc : Ch X w w') (hx : ¬ X g) : Blk w' g t cs := b.eq (hc.block g b.lt hx)
end
set_option maxRecDepth 100000 in
set_option maxHeartbeats 4000000 in
theorem remove_any {w : World} {h : Nat} {K : Ly} {M : Ms Ev} {f : Qu → Option Nat} {N : Nat} {l : List W.Ti} (v : Sv w h K M f N l) {k : Nat} (hk : k < M.c.length) (hu : us M.c k = true) :
    Calls Try.prog 42 #[.pointer (some ⟨h, 0, none⟩), .int .i64 (k : Nat)] w fun e w' => e = .returned (qV (M.c.getD k Z0).x.e.q) ∧
      Sv w' h K ⟨M.c.set k Z0, M.h⟩ (fun x => if x = (M.c.getD k Z0).x.e.q then none else f x) (if (f (M.c.getD k Z0).x.e.q).isSome then N - 1 else N) (W.delL l k) ∧ Ch K.X w w' := by
  have hb := (Below.refl w.heap.size w).alloc (Nat.le_refl _) (Obj.cells zQ 35)
  have v1 := v.low hb
  have HR := Lib.hid (Blk.new w 35 zQ)
  have HX := Lib.hid (fun (i : Nat) (hi : w.heap.size ≤ i) => v.notX hi)
  have HG := Lib.hid (get_k v1.sp hk hu)
  have hq := (v.re k).q
  have c0 := v1.c0
  have HV1 := Lib.hid (And.intro v1 (Ch.bel (X := K.X) hb))
  have h64 := v.sp.ok.n64
  have HZ := Lib.hid (show w.heap.size < (w.alloc (Obj.cells zQ 35)).heap.size by simp)
  have HV0 := Lib.hid v
  obtain ⟨N', HN'⟩ : ∃ N', Hid ((if (f (M.c.getD k Z0).x.e.q).isSome then N - 1 else N) = N') := ⟨_, Lib.hid rfl⟩
  rw [HN'.out]
  clear v v1 hb
  unfold zQ at HR HG c0 HV1 HZ
  obtain ⟨x, HE⟩ : ∃ x, Hid ((M.c.getD k Z0).x = x) := ⟨_, Lib.hid rfl⟩
  rw [HE.out] at HG hq HN' ⊢
  go_enter Try.func42, Try.ntmps42
  go_upto_region 1 with (fail)
  generalize w.alloc (Obj.cells #[.string ⟨#[]⟩, .int .u16 0, .int .u16 0] 35) = w1 at *
  go_upto_region 2 with (first | (refine wpList_store_row rfl 39 _ _ rfl w2.heap.size _ rfl rfl 39 _ HN.out (infoEa x) rfl (evL_one x) ?_) | (go_at_call 33; (with_reducible (refine HG.out.mono ?_)); rintro e w2 ⟨rfl, hb2⟩; have HB2 := Lib.hid hb2; have HN := Lib.hid (Blk.new w2 39 zE); unfold zE at HN; clear hb2))
  obtain ⟨k3, b3⟩ := box_of w2 x
  have b23 := HB2.out.trans (b3.mono HB2.out.size)
  have HQ := Lib.hid k3
  have HV3 := Lib.hid (And.intro (HV1.out.1.low b23) (HV1.out.2.below b23))
  have HR3 := Lib.hid (HR.out.eq (b23.block _ HR.out.lt))
  have HS := Lib.hid (Nat.lt_of_lt_of_le HZ.out HB2.out.size)
  unfold zE at HQ HV3 HR3
  clear k3 b3 b23 c0 HR HG HV1 HN HB2
  generalize (w2.alloc (Obj.cells #[.string ⟨#[]⟩, .int .u16 0, .int .u16 0, .slice none 0 0, .int .i64 0, .int .i64 0, .int .u64 0] 39)).setRow w2.heap.size (evL x).toArray = w3 at *
  generalize w2.heap.size = r at *
  have c0 := HV3.out.1.c0
  have HF := Lib.hid (free_sv HV3.out.1 hk hu)
  go_upto_region 3 with (go_at_call 55; (with_reducible (refine HF.out.mono ?_)); rintro e w4 ⟨rfl, v4, hc4⟩; have HV4 := Lib.hid (And.intro v4 (And.intro (HV3.out.2.trans hc4) hc4)); clear v4 hc4)
  have HQ4 := Lib.hid (And.intro (HQ.out.ch HV4.out.2.2 (HX.out _ (Nat.le_of_lt HS.out))) (HR3.out.ch HV4.out.2.2 (HX.out _ (Nat.le_refl _))))
  clear c0 HF HQ HR3 HV3
  have c2 := HV4.out.1.c2
  have HF := Lib.hid (wdel_sv HV4.out.1 (k := k) (by omega))
  go_upto_region 4 with (go_at_call 56; (with_reducible (refine HF.out.mono ?_)); rintro e w5 ⟨rfl, v5, hc5⟩; have HV5 := Lib.hid (And.intro v5 (And.intro (HV4.out.2.1.trans hc5) hc5)); clear v5 hc5)
  have hd := (Below.refl w5.heap.size w5).drew
  have HQ5 := Lib.hid (And.intro (HQ4.out.1.ch (HV5.out.2.2.below hd) (HX.out _ (Nat.le_of_lt HS.out))) (HQ4.out.2.ch (HV5.out.2.2.below hd) (HX.out _ (Nat.le_refl _))))
  have HV6 := Lib.hid (And.intro (HV5.out.1.low hd) (HV5.out.2.1.below hd))
  clear c2 HF
  have c1 := HV5.out.1.c1
  have hq5 := HQ4.out.1.ch HV5.out.2.2 (HX.out _ (Nat.le_of_lt HS.out))
  have b0 := hq5.cell 0
  have b1 := hq5.cell 1
  have b2 := hq5.cell 2
  unfold evL at b0 b1 b2
  simp only [List.getElem?_toArray, List.getElem?_cons_zero, List.getElem?_cons_succ] at b0 b1 b2
  clear hq5 hd HQ4 HV4
  go_still_tail 6, (by kernel_rfl)
  change wpList _ _ _ _ _ w5.drew
  clear b0 b1 b2 c1 HV5
  generalize w5.drew = w6 at *
  go_upto_region 5 with (refine wpList_pm_del rfl _ _ rfl x.e.q hq rfl HV6.out.1.pm rfl ?_; intro w7 hp7 ht7)
  have hm := HV6.out.1.map hp7 ht7
  have HQ7 := Lib.hid (And.intro (HQ5.out.1.ch hm.2 (HX.out _ (Nat.le_of_lt HS.out))) (HQ5.out.2.ch hm.2 (HX.out _ (Nat.le_refl _))))
  rw [HN'.out] at hm
  have HV7 := Lib.hid (And.intro hm.1 (HV6.out.2.trans hm.2))
  clear hm hp7 ht7 HQ5 HV6
  have b0 := HQ7.out.1.cell 0
  have b1 := HQ7.out.1.cell 1
  have b2 := HQ7.out.1.cell 2
  unfold evL at b0 b1 b2
  simp only [List.getElem?_toArray, List.getElem?_cons_zero, List.getElem?_cons_succ] at b0 b1 b2
  go_wp2_with (refine wpList_store_row rfl 35 _ _ rfl w.heap.size (qf x.e.q).toArray rfl rfl 35 _ HQ7.out.2 elQ3 rfl (qf_one1 _) ?_)
  refine ret_q (qf x.e.q).toArray rfl rfl rfl rfl (setRow_heap _ _ _ _ _ _ HQ7.out.2) ?_
  have hc : Ch K.X w (w7.setRow w.heap.size (qf x.e.q).toArray) := ⟨HV7.out.2.os, HV7.out.2.tape, HV7.out.2.output, by rw [setRow_size]; exact HV7.out.2.size, fun i hi hx => (setRow_other w7 _ i _ (by omega)).trans (HV7.out.2.block i hi hx)⟩
  exact ⟨rfl, HV7.out.1.row HV0.out (Nat.le_refl _) _ (HV0.out.re_set hk hc (Re.zero _ _)), hc⟩
end Go.Proofs.Ytjjanogfcfapcaa

/- The contracts of slices.Clone of records; of the program's shard: Room, Keys, Len. -/
namespace Go.Proofs.Ytjjanogfcfapcaa
open Go.RowKit
set_option linter.unusedVariables false

def zR : Value := .agg #[.string ⟨#[]⟩, .int .u16 0, .int .u16 0, .int .u32 0, .string ⟨#[]⟩]
theorem elR : (Try.prog.info? 89).map (fun i => (i.zero, i.size, i.bytes)) = some (some zR, 5, 40) := by kernel_rfl
/-- A slice that the call has made: its block is new. -/
def Nw (B : Nat) (A : Option Addr) : Prop := ∀ b off, A = some ⟨b, off, none⟩ → B ≤ b
theorem Sl.owned {α : Type} {f : α → List Value} {w : World} {B : Nat} {e : TypeId} {k : Nat} {A : Option Addr} {cap : Nat} {l : List α} (hk : ∀ r, (f r).length = k) (h : w.ownsRow B e k (.slice A l.length cap) l.length (l.flatMap f)) : Sl f w A cap l ∧ Nw B A := by
  obtain ⟨A', cap', e1, s⟩ := Sl.own hk h
  simp only [Value.slice.injEq, true_and] at e1
  obtain ⟨rfl, rfl⟩ := e1
  refine ⟨s, fun b off hb => ?_⟩
  rcases h.2 with ⟨h1, _⟩ | ⟨g, c, cur, h1, h2, _⟩
  · simp only [Value.slice.injEq] at h1
    rw [h1.1] at hb
    cases hb
  · simp only [Value.slice.injEq] at h1
    rw [h1.1] at hb
    cases hb
    exact h2
set_option maxRecDepth 100000 in
set_option maxHeartbeats 1000000 in
theorem clone_any (A : Option Addr) (cap : Nat) (l : List Rc) (hs : l.length ≤ 3518437208883) (w : World) (hI : Sl rf w A cap l) :
    Calls Try.prog 38 #[.slice A l.length cap] w fun e w' => ∃ A' cap', e = .returned (.slice A' l.length cap') ∧ Sl rf w' A' cap' l ∧ Nw w.heap.size A' ∧ Below w.heap.size w w' := by
  have qn : ∀ (w : World) (a : Option Addr) (n c n' c' : Nat), (binOp .eql 36 (.slice a n c) (.slice none n' c')).run Try.prog w = .ok (.bool a.isNone) w := fun w a n c n' c' => Lib.run_eql_slice_nil w _ _ a n c n' c' Try.underlying36
  cases A with
  | none =>
    obtain rfl := hI.empty rfl
    have hz := hI.nl rfl
    subst hz
    go_enter Try.func38, Try.ntmps38
    go_wp2_with fail
    go_ret
    exact ⟨none, 0, rfl, Sl.nil _ _, (fun b off h => by cases h), Below.refl _ _⟩
  | some a =>
    obtain ⟨i0, hi, hz0, hz1, hz2⟩ := el_of elR
    have HI := Lib.hid hI.src
    clear hI
    go_enter Try.func38, Try.ntmps38
    go_wp2_with (at_builtin; refine wpList_append_own _ rfl _ _ 36 rfl w.heap.size 89 i0 zR 5 40 Try.underlying36 hi hz0 hz1 hz2 rfl (by decide) _ _ _ rfl (World.ownsRow_made w #[] 0 (Nat.le_refl _) (Nat.zero_le _) (by simp)) a l.length cap (l.flatMap rf) rfl (flat_len rf_len l) ?qc2 (rf_one l) ?qc4 ?qc5 ?qc6 ?_)
    case qc2 =>
      intro j u hj
      exact Lib.cell?_alloc_some _ (HI.out j u hj)
    case qc4 => unfold maxLen; omega
    case qc5 => omega
    case qc6 => simp
    intro v' w1 hown hgrow hnil
    have hown2 : w1.ownsRow w.heap.size 89 5 v' l.length (l.flatMap rf) := by simpa using hown
    have hb := ((Below.refl _ w).alloc (Nat.le_refl _) (Obj.cells #[] 89)).grown hgrow (by simp) (by intro k hk; simp [Value.ownBlock] at hk; omega)
    obtain ⟨A', cap', rfl⟩ := ownR_form hown2
    have HF := Lib.hid (And.intro (Sl.owned rf_len hown2) hb)
    clear hown hown2 hgrow hnil hb
    go_wp2_with fail
    go_ret
    exact ⟨A', cap', rfl, HF.out.1.1, HF.out.1.2, HF.out.2⟩

set_option maxHeartbeats 1000000 in
theorem room_nil (w : World) : Calls Try.prog 17 #[.pointer none] w fun e w' => e = .returned (.int .i64 0) ∧ w' = w := by
  go_enter Try.func17, Try.ntmps17
  go_wp2_with fail
  go_ret
  exact ⟨rfl, rfl⟩
set_option maxHeartbeats 1000000 in
theorem room_any {w : World} {h : Nat} {K : Ly} {M : Ms Ev} {f : Qu → Option Nat} {N : Nat} {l : List W.Ti} (v : Sv w h K M f N l) :
    Calls Try.prog 17 #[.pointer (some ⟨h, 0, none⟩)] w fun e w' => e = .returned (.int .i64 (M.c.length : Nat)) ∧ w' = w := by
  have HC := Lib.hid (cap_any v.sp)
  have c0 := v.c0
  clear v
  generalize M.c.length = n at *
  go_enter Try.func17, Try.ntmps17
  go_wp2_with (go_at_call 34; (with_reducible (refine HC.out.mono ?_)); rintro e w1 ⟨rfl, rfl⟩)
  go_ret
  exact ⟨rfl, rfl⟩
theorem keys_all (c : List (Ce En)) : keysOf c = (allC c c.length).map (qAt c) := by
  unfold keysOf allC
  have e : c = (List.range c.length).map fun i => c.getD i Z0 := by
    apply List.ext_getElem
    · simp
    · intro i h1 h2
      simp [h1]
  have key : ∀ l : List Nat, ((l.map fun i => c.getD i Z0).filter (·.u)).map (·.x.q) = (l.filter (us c)).map (qAt c) := by
    intro l
    rw [List.filter_map, List.map_map]
    rfl
  calc (c.filter (·.u)).map (·.x.q) = (((List.range c.length).map fun i => c.getD i Z0).filter (·.u)).map (·.x.q) := by rw [← e]
    _ = _ := key _
theorem keys_len (c : List (Ce En)) : (keysOf c).length = cnt c := by unfold keysOf cnt; rw [List.length_map]
theorem all_pc (c : List (Ce Ev)) (k : Nat) : allC (pc c) k = allC c k := by
  unfold allC
  rw [show us (pc c) = us c from funext (us_pc c)]
theorem cnt_pc (c : List (Ce Ev)) : cnt (pc c) = cnt c := by
  unfold cnt pc
  rw [List.filter_map, List.length_map]
  rfl
theorem newQ (W : World) (x : Qu) : ∀ j u, (qf x)[j]? = some u → (W.alloc (.cells #[.string x.n, .int .u16 (x.k : Nat), .int .u16 (x.c : Nat)] 35)).cell? ((⟨W.heap.size, 0, none⟩ : Addr).add j) = some u := fun j u hj => by
  have h := heap_alloc_new W (Obj.cells #[.string x.n, .int .u16 (x.k : Nat), .int .u16 (x.c : Nat)] 35)
  rw [Addr.add_lit, Nat.zero_add, blk_cell h j, ← hj]
  simp [qf]
theorem qAt_pc (c : List (Ce Ev)) (k : Nat) : qAt (pc c) k = (c.getD k Z0).x.e.q := by unfold qAt; rw [pc_getD]; rfl
set_option maxHeartbeats 1000000 in
theorem keys_nil (w : World) : Calls Try.prog 14 #[.pointer none] w fun e w' => e = .returned (.slice none 0 0) ∧ w' = w := by
  go_enter Try.func14, Try.ntmps14
  go_wp2_with fail
  go_ret
  exact ⟨rfl, rfl⟩
set_option maxRecDepth 100000 in
set_option maxHeartbeats 4000000 in
theorem keys_any {w : World} {h : Nat} {K : Ly} {M : Ms Ev} {f : Qu → Option Nat} {N : Nat} {l : List W.Ti} (v : Sv w h K M f N l) :
    Calls Try.prog 14 #[.pointer (some ⟨h, 0, none⟩)] w fun e w' => ∃ A cap, e = .returned (.slice A (keysOf (pc M.c)).length cap) ∧ Sl qf w' A cap (keysOf (pc M.c)) ∧ Nw w.heap.size A ∧ Below w.heap.size w w' := by
  obtain ⟨i0, hi, hz0, hz1, hz2⟩ := el_of elQ
  have HC := Lib.hid (all_any v.sp)
  have HV := Lib.hid v
  have c0 := v.c0
  have hkl : (keysOf (pc M.c)).length = (allM M).length := by rw [keys_all, List.length_map, pc_len, all_pc]; rfl
  have hka : ∀ j (hj : j < (allM M).length), (keysOf (pc M.c))[j]'(by rw [hkl]; exact hj) = (M.c.getD (allM M)[j] Z0).x.e.q := fun j hj => by
    rw [← qAt_pc]
    simp only [keys_all, pc_len, all_pc, List.getElem_map]
    rfl
  have hm : ∀ j (hj : j < (allM M).length), (allM M)[j] < M.c.length ∧ us M.c (allM M)[j] = true := fun j hj => all_mem.1 (List.getElem_mem hj)
  have h64 : (allM M).length ≤ 64 := Nat.le_trans (allC_le _ _) v.sp.ok.n64
  have HM := Lib.hid (And.intro hka hm)
  clear v hka hm
  generalize keysOf (pc M.c) = ks at *
  obtain ⟨al, HAL⟩ : ∃ al, Hid (allM M = al) := ⟨_, Lib.hid rfl⟩
  simp only [HAL.out] at HC HM h64 hkl
  rw [hkl]
  have HKL := Lib.hid hkl
  clear hkl
  go_enter Try.func14, Try.ntmps14
  go_wp2_with (go_at_call 32; (with_reducible (refine HC.out.mono ?_)); rintro e w1 ⟨A1, c1, rfl, hn1, hb1⟩; have HN := Lib.hid hn1; have HB := Lib.hid hb1; clear hn1 hb1)
  go_loopw [3, 5, 6, 7, 16] (fun v _ _ _ x wr => ∃ j : Nat, j ≤ al.length ∧ x = .int .i64 j ∧ wr.ownsRow w1.heap.size 35 3 v j ((ks.take j).flatMap qf) ∧ Below w1.heap.size w1 wr) (fun _ _ _ _ x _ => al.length - (intOf x).toNat)
  case atStart => exact ⟨0, Nat.zero_le _, rfl, World.ownsRow_nil _ _ _ _, Below.refl _ _⟩
  case round =>
    obtain ⟨j, hj, rfl, hown, hbel⟩ := hrel
    obtain ⟨Av, cv, rfl⟩ := ownR_form hown
    by_cases hlt : j < al.length
    · have d1 : decide ((j : Int) < (al.length : Nat)) = true := by simp; omega
      obtain ⟨b, off, rfl, hc⟩ := HN.out j hlt
      have e0 := (hbel.cell (p := ⟨b, off + j, none⟩) (cell_size hc)).trans hc
      have s0 : (0 : Int) ≤ (j : Nat) := by omega
      have s1 : (j : Int) < (al.length : Nat) := by omega
      obtain ⟨hk, hu⟩ := HM.out.2 j hlt
      have HK := Lib.hid (HM.out.1 j hlt)
      obtain ⟨k, hkk⟩ : ∃ k, al[j] = k := ⟨_, rfl⟩
      rw [hkk] at e0 hk hu HK
      have hvr := HV.out.low (HB.out.trans (hbel.mono HB.out.size))
      have HG := Lib.hid (get_k hvr.sp hk hu)
      have c0 := hvr.c0
      obtain ⟨x, hx⟩ : ∃ x, (M.c.getD k Z0).x = x := ⟨_, rfl⟩
      rw [hx] at HG HK
      have HOB := Lib.hid (And.intro hown hbel)
      clear hvr hown hbel hkk hx hk hu hc
      go_upto_region 8 with (first | (refine wpList_store_row rfl 39 _ _ rfl w3.heap.size _ rfl rfl 39 _ HNw.out (infoEa x) rfl (evL_one x) ?_) | (go_at_call 33; (with_reducible (refine HG.out.mono ?_)); rintro e w3 ⟨rfl, hb3⟩; have HB3 := Lib.hid hb3; have HNw := Lib.hid (Blk.new w3 39 zE); unfold zE at HNw; clear hb3))
      obtain ⟨k4, b4⟩ := box_of w3 x
      have b34 := HB3.out.trans (b4.mono HB3.out.size)
      have HOB4 := Lib.hid (And.intro (ownR_below HOB.out.1 b34) (HOB.out.2.trans (b34.mono HOB.out.2.size)))
      unfold zE at HOB4 k4
      have HK4 := Lib.hid k4
      clear k4 b4 b34 HNw HG HB3 HOB e0 c0
      generalize (w3.alloc (Obj.cells #[.string ⟨#[]⟩, .int .u16 0, .int .u16 0, .slice none 0 0, .int .i64 0, .int .i64 0, .int .u64 0] 39)).setRow w3.heap.size (evL x).toArray = w4 at *
      generalize w3.heap.size = r at *
      have q0 := HK4.out.cell 0
      have q1 := HK4.out.cell 1
      have q2 := HK4.out.cell 2
      unfold evL at q0 q1 q2
      simp only [List.getElem?_toArray, List.getElem?_cons_zero, List.getElem?_cons_succ] at q0 q1 q2
      clear HK4
      have HO5 := Lib.hid (HOB4.out.1.alloc (Obj.cells #[.string x.e.q.n, .int .u16 (x.e.q.k : Nat), .int .u16 (x.e.q.c : Nat)] 35))
      have HB5 := Lib.hid (HOB4.out.2.alloc HOB4.out.2.size (Obj.cells #[.string x.e.q.n, .int .u16 (x.e.q.k : Nat), .int .u16 (x.e.q.c : Nat)] 35))
      clear HOB4
      go_wp2_with (at_builtin; (refine wpList_append_own _ rfl _ _ 43 rfl w1.heap.size 35 i0 (qV ⟨⟨#[]⟩, 0, 0⟩) 3 24 Try.underlying43 hi hz0 hz1 hz2 rfl (by decide) _ _ _ rfl HO5.out ⟨w4.heap.size, 0, none⟩ 1 1 (qf x.e.q) rfl rfl (newQ w4 x.e.q) ?q3 ?q4 ?q5 HB5.out.size ?_))
      case q3 => intro u hu; simp [qf] at hu; rcases hu with rfl | rfl | rfl <;> rfl
      case q4 => unfold maxLen; omega
      case q5 => omega
      intro v' w6 hown2 hgrow hnil
      have hb6 := HB5.out.grown hgrow HB5.out.size (fun k hk => (HO5.out.lt k hk).1)
      have ht : ks.take (j + 1) = ks.take j ++ [x.e.q] := by rw [List.take_add_one, List.getElem?_eq_getElem (by rw [HKL.out]; exact hlt), HK.out]; rfl
      rw [show (ks.take j).flatMap qf ++ qf x.e.q = (ks.take (j + 1)).flatMap qf by rw [ht, List.flatMap_append]; simp] at hown2
      have HF := Lib.hid (And.intro hown2 hb6)
      clear hown2 hgrow hnil hb6 ht q0 q1 q2
      go_wp2_with fail
      go_roundw
      case rel => exact ⟨j + 1, hlt, by go_num, HF.out.1, HF.out.2⟩
      case measure => simp [intOf]; omega
    · obtain rfl : j = al.length := by omega
      have d1 : decide ((al.length : Int) < (al.length : Nat)) = false := by simp
      rw [← HKL.out, List.take_length] at hown
      have HF := Lib.hid (And.intro (Sl.owned qf_len hown) hbel)
      clear hown hbel
      go_wp2_with fail
      go_ret
      rw [← HKL.out]
      exact ⟨Av, cv, rfl, HF.out.1.1, (fun b off hb => Nat.le_trans HB.out.size (HF.out.1.2 b off hb)), HB.out.trans (HF.out.2.mono HB.out.size)⟩

set_option maxHeartbeats 1000000 in
theorem len_any_s {w : World} {h : Nat} {K : Ly} {M : Ms Ev} {f : Qu → Option Nat} {N : Nat} {l : List W.Ti} (v : Sv w h K M f N l) :
    Calls Try.prog 16 #[.pointer (some ⟨h, 0, none⟩)] w fun e w' => e = .returned (.int .i64 (cnt M.c : Nat)) ∧ Below w.heap.size w w' := by
  have HC := Lib.hid (keys_any v)
  rw [keys_len, cnt_pc] at HC
  clear v
  generalize cnt M.c = n at *
  go_enter Try.func16, Try.ntmps16
  go_wp2_with (go_at_call 14; (with_reducible (refine HC.out.mono ?_)); rintro e w1 ⟨A, cap, rfl, _, _, hb⟩; have HB := Lib.hid hb; clear hb)
  go_ret
  exact ⟨rfl, HB.out⟩
set_option maxHeartbeats 1000000 in
theorem len_nil_s (w : World) : Calls Try.prog 16 #[.pointer none] w fun e w' => e = .returned (.int .i64 0) ∧ w' = w := by
  have HC := Lib.hid (keys_nil w)
  go_enter Try.func16, Try.ntmps16
  go_wp2_with (go_at_call 14; (with_reducible (refine HC.out.mono ?_)); rintro e w1 ⟨rfl, rfl⟩)
  go_ret
  exact ⟨rfl, rfl⟩
end Go.Proofs.Ytjjanogfcfapcaa

/- The contracts of ttl.Live, rank.Beats; of the program's shard: Lookup, Evict. -/
namespace Go.Proofs.Ytjjanogfcfapcaa
open Go.RowKit
set_option linter.unusedVariables false

theorem q_cells {w : World} {g : Nat} {t : TypeId} {q : Qu} (h : Blk w g t (qf q).toArray) : w.cell? ⟨g, 0, none⟩ = some (.string q.n) ∧ w.cell? ⟨g, 1, none⟩ = some (.int .u16 (q.k : Nat)) ∧ w.cell? ⟨g, 2, none⟩ = some (.int .u16 (q.c : Nat)) := ⟨h.cell 0, h.cell 1, h.cell 2⟩
theorem e_cells {w : World} {g : Nat} {t : TypeId} {x : Ev} (h : Blk w g t (evL x).toArray) : w.cell? ⟨g, 0, none⟩ = some (.string x.e.q.n) ∧ w.cell? ⟨g, 1, none⟩ = some (.int .u16 (x.e.q.k : Nat)) ∧ w.cell? ⟨g, 2, none⟩ = some (.int .u16 (x.e.q.c : Nat)) ∧
    w.cell? ⟨g, 3, none⟩ = some (.slice x.A x.e.l.length x.cap) ∧ w.cell? ⟨g, 4, none⟩ = some (.int .i64 x.e.rc) ∧ w.cell? ⟨g, 5, none⟩ = some (.int .i64 x.e.rk) ∧ w.cell? ⟨g, 6, none⟩ = some (.int .u64 (x.e.ex : Nat)) := ⟨h.cell 0, h.cell 1, h.cell 2, h.cell 3, h.cell 4, h.cell 5, h.cell 6⟩
theorem live_any (e n : Nat) (w : World) : Calls Try.prog 35 #[.int .u64 (e : Nat), .int .u64 (n : Nat)] w fun x w' => x = .returned (.bool (decide (n < e))) ∧ w' = w := by
  go_enter Try.func35, Try.ntmps35
  go_wp2_with fail
  go_ret
  exact ⟨rfl, rfl⟩
set_option maxHeartbeats 1000000 in
theorem beats_any (x y : Ev) (now : Nat) (w : World) :
    Calls Try.prog 37 #[evV x, evV y, .int .u64 (now : Nat)] w fun e w' => e = .returned (.bool (btE x.e y.e now)) ∧ Below w.heap.size w w' := by
  rw [evV_eq, evV_eq]
  have HB := Lib.hid (fun o o' => ((Below.refl w.heap.size w).alloc (Nat.le_refl _) o).alloc (by simp) o')
  have HL := Lib.hid (fun W => live_any x.e.ex now W)
  by_cases h : now < x.e.ex
  · have HR := Lib.hid (show btE x.e y.e now = decide (x.e.rk ≤ y.e.rk) by unfold btE; simp [h])
    have hd : decide (now < x.e.ex) = true := by simpa using h
    clear h
    go_enter Try.func37, Try.ntmps37
    go_wp2_with (go_at_call 35; (with_reducible (refine (HL.out _).mono ?_)); rintro e w1 ⟨rfl, rfl⟩)
    go_ret
    exact ⟨by rw [HR.out]; rfl, HB.out _ _⟩
  · have HR := Lib.hid (show btE x.e y.e now = true by unfold btE; simp [h])
    have hd : decide (now < x.e.ex) = false := by simpa using h
    clear h
    go_enter Try.func37, Try.ntmps37
    go_wp2_with (go_at_call 35; (with_reducible (refine (HL.out _).mono ?_)); rintro e w1 ⟨rfl, rfl⟩)
    go_ret
    exact ⟨by rw [HR.out]; rfl, HB.out _ _⟩

set_option maxRecDepth 100000 in
set_option maxHeartbeats 2000000 in
theorem look_nil (q : Qu) (now : Nat) (w : World) : Calls Try.prog 22 #[.pointer none, qV q, .int .u64 (now : Nat)] w fun e w' => e = .returned (.tuple #[evV default, .bool false]) ∧ Below w.heap.size w w' := by
  have HC := Lib.hid (fun W => find_nil q W)
  unfold qV at HC ⊢
  have HF := Lib.hid (fi_of w q)
  go_enter Try.func22, Try.ntmps22
  go_upto_region 1 with (fail)
  unfold zE qf at HF
  generalize (w.alloc (Obj.cells #[.string q.n, .int .u16 (q.k : Nat), .int .u16 (q.c : Nat)] 35)).alloc (Obj.cells #[.string ⟨#[]⟩, .int .u16 0, .int .u16 0, .slice none 0 0, .int .i64 0, .int .i64 0, .int .u64 0] 39) = w1 at *
  obtain ⟨b0, b1, b2⟩ := q_cells (q := q) HF.out.bq
  go_upto_region 2 with (first | (refine wpList_store_row rfl 39 _ _ rfl w2.heap.size _ rfl rfl 39 _ HNw.out (infoEa default) rfl (evL_one default) ?_) | (go_at_call 36; (with_reducible (refine (HC.out _).mono ?_)); rintro e w2 ⟨rfl, hb2⟩; have HB2 := Lib.hid hb2; have HNw := Lib.hid (Blk.new w2 39 zE); unfold zE at HNw; clear hb2))
  clear b0 b1 b2
  obtain ⟨k3, b3⟩ := box_of w2 (default : Ev)
  have hs3 := setRow_size (w2.alloc (Obj.cells zE 39)) w2.heap.size (evL (default : Ev)).toArray
  have b23 := HB2.out.trans (b3.mono HB2.out.size)
  have HF3 := Lib.hid (And.intro (HF.out.br.eq (b23.block _ HF.out.br.lt)) (And.intro (HF.out.b.trans (b23.mono HF.out.b.size)) (And.intro k3 (show w.heap.size + 1 < w2.heap.size from Nat.lt_of_lt_of_le HF.out.br.lt HB2.out.size))))
  unfold zE at HF3
  clear k3 b3 b23 hs3 HNw HF HB2 HC
  generalize (w2.alloc (Obj.cells #[.string ⟨#[]⟩, .int .u16 0, .int .u16 0, .slice none 0 0, .int .i64 0, .int .i64 0, .int .u64 0] 39)).setRow w2.heap.size (evL (default : Ev)).toArray = w3 at *
  generalize w2.heap.size = r at *
  go_wp2_with (refine wpList_store_row rfl 39 _ _ rfl (w.heap.size + 1) _ rfl rfl 39 _ HF3.out.1 infoE rfl (evL_one default) ?_)
  exact ret_e2 (evL default).toArray rfl rfl rfl rfl rfl (setRow_heap _ _ _ _ _ _ HF3.out.1) ⟨rfl, setRow_below HF3.out.2.1 (by omega) _⟩
set_option maxRecDepth 100000 in
set_option maxHeartbeats 2000000 in
theorem look_none (q : Qu) (hq : q.Fine) (now : Nat) {w : World} {h : Nat} {K : Ly} {M : Ms Ev} {f : Qu → Option Nat} {N : Nat} {l : List W.Ti} (v : Sv w h K M f N l) (hf : f q = none) :
    Calls Try.prog 22 #[.pointer (some ⟨h, 0, none⟩), qV q, .int .u64 (now : Nat)] w fun e w' => e = .returned (.tuple #[evV default, .bool false]) ∧ Below w.heap.size w w' := by
  have hF := fi_of w q
  have HC := Lib.hid (find_none q hq (v.low hF.b) hf)
  have HF := Lib.hid hF
  unfold qV at HC ⊢
  unfold zE qf at HC HF
  clear v hF
  go_enter Try.func22, Try.ntmps22
  go_upto_region 1 with (fail)
  generalize (w.alloc (Obj.cells #[.string q.n, .int .u16 (q.k : Nat), .int .u16 (q.c : Nat)] 35)).alloc (Obj.cells #[.string ⟨#[]⟩, .int .u16 0, .int .u16 0, .slice none 0 0, .int .i64 0, .int .i64 0, .int .u64 0] 39) = w1 at *
  obtain ⟨b0, b1, b2⟩ := q_cells (q := q) HF.out.bq
  go_upto_region 2 with (first | (refine wpList_store_row rfl 39 _ _ rfl w2.heap.size _ rfl rfl 39 _ HNw.out (infoEa default) rfl (evL_one default) ?_) | (go_at_call 36; (with_reducible (refine (HC.out).mono ?_)); rintro e w2 ⟨rfl, hb2⟩; have HB2 := Lib.hid hb2; have HNw := Lib.hid (Blk.new w2 39 zE); unfold zE at HNw; clear hb2))
  clear b0 b1 b2
  obtain ⟨k3, b3⟩ := box_of w2 (default : Ev)
  have hs3 := setRow_size (w2.alloc (Obj.cells zE 39)) w2.heap.size (evL (default : Ev)).toArray
  have b23 := HB2.out.trans (b3.mono HB2.out.size)
  have HF3 := Lib.hid (And.intro (HF.out.br.eq (b23.block _ HF.out.br.lt)) (And.intro (HF.out.b.trans (b23.mono HF.out.b.size)) (And.intro k3 (show w.heap.size + 1 < w2.heap.size from Nat.lt_of_lt_of_le HF.out.br.lt HB2.out.size))))
  unfold zE at HF3
  clear k3 b3 b23 hs3 HNw HF HB2 HC
  generalize (w2.alloc (Obj.cells #[.string ⟨#[]⟩, .int .u16 0, .int .u16 0, .slice none 0 0, .int .i64 0, .int .i64 0, .int .u64 0] 39)).setRow w2.heap.size (evL (default : Ev)).toArray = w3 at *
  generalize w2.heap.size = r at *
  go_wp2_with (refine wpList_store_row rfl 39 _ _ rfl (w.heap.size + 1) _ rfl rfl 39 _ HF3.out.1 infoE rfl (evL_one default) ?_)
  exact ret_e2 (evL default).toArray rfl rfl rfl rfl rfl (setRow_heap _ _ _ _ _ _ HF3.out.1) ⟨rfl, setRow_below HF3.out.2.1 (by omega) _⟩
set_option maxRecDepth 100000 in
set_option maxHeartbeats 2000000 in
theorem look_late (q : Qu) (hq : q.Fine) (now : Nat) {w : World} {h : Nat} {K : Ly} {M : Ms Ev} {f : Qu → Option Nat} {N : Nat} {l : List W.Ti} (v : Sv w h K M f N l) {k : Nat} (hf : f q = some k) (hk : k < M.c.length) (hu : us M.c k = true) (hl : ¬ now < (M.c.getD k Z0).x.e.ex) :
    Calls Try.prog 22 #[.pointer (some ⟨h, 0, none⟩), qV q, .int .u64 (now : Nat)] w fun e w' => e = .returned (.tuple #[evV default, .bool false]) ∧ Below w.heap.size w w' := by
  have hF := fi_of w q
  have HC := Lib.hid (find_some q hq (v.low hF.b) hf hk hu)
  have HF := Lib.hid hF
  have hd : decide (now < (M.c.getD k Z0).x.e.ex) = false := by simpa using hl
  unfold qV at HC ⊢
  unfold zE qf at HC HF
  clear v hF hl hf
  generalize (M.c.getD k Z0).x = x at *
  have HL := Lib.hid (fun W => live_any x.e.ex now W)
  go_enter Try.func22, Try.ntmps22
  go_upto_region 1 with (fail)
  generalize (w.alloc (Obj.cells #[.string q.n, .int .u16 (q.k : Nat), .int .u16 (q.c : Nat)] 35)).alloc (Obj.cells #[.string ⟨#[]⟩, .int .u16 0, .int .u16 0, .slice none 0 0, .int .i64 0, .int .i64 0, .int .u64 0] 39) = w1 at *
  obtain ⟨b0, b1, b2⟩ := q_cells (q := q) HF.out.bq
  go_upto_region 2 with (first | (refine wpList_store_row rfl 39 _ _ rfl w2.heap.size _ rfl rfl 39 _ HNw.out (infoEa x) rfl (evL_one x) ?_) | (go_at_call 36; (with_reducible (refine (HC.out).mono ?_)); rintro e w2 ⟨rfl, hb2⟩; have HB2 := Lib.hid hb2; have HNw := Lib.hid (Blk.new w2 39 zE); unfold zE at HNw; clear hb2))
  clear b0 b1 b2
  obtain ⟨k3, b3⟩ := box_of w2 x
  have hs3 := setRow_size (w2.alloc (Obj.cells zE 39)) w2.heap.size (evL x).toArray
  have b23 := HB2.out.trans (b3.mono HB2.out.size)
  have HF3 := Lib.hid (And.intro (HF.out.br.eq (b23.block _ HF.out.br.lt)) (And.intro (HF.out.b.trans (b23.mono HF.out.b.size)) (And.intro k3 (show w.heap.size + 1 < w2.heap.size from Nat.lt_of_lt_of_le HF.out.br.lt HB2.out.size))))
  unfold zE at HF3
  clear k3 b3 b23 hs3 HNw HF HB2 HC
  generalize (w2.alloc (Obj.cells #[.string ⟨#[]⟩, .int .u16 0, .int .u16 0, .slice none 0 0, .int .i64 0, .int .i64 0, .int .u64 0] 39)).setRow w2.heap.size (evL x).toArray = w3 at *
  generalize w2.heap.size = r at *
  obtain ⟨e0, e1, e2, e3, e4, e5, e6⟩ := e_cells HF3.out.2.2.1
  clear e0 e1 e2 e3 e4 e5
  go_wp2_with (first | (refine wpList_store_row rfl 39 _ _ rfl (w.heap.size + 1) _ rfl rfl 39 _ HF3.out.1 infoE rfl (evL_one default) ?_) | (go_at_call 35; (with_reducible (refine (HL.out _).mono ?_)); rintro e w4 ⟨rfl, rfl⟩))
  exact ret_e2 (evL default).toArray rfl rfl rfl rfl rfl (setRow_heap _ _ _ _ _ _ HF3.out.1) ⟨rfl, setRow_below HF3.out.2.1 (by omega) _⟩
end Go.Proofs.Ytjjanogfcfapcaa

/- The contracts of the program's shard: Lookup of what is live, Evict. -/
namespace Go.Proofs.Ytjjanogfcfapcaa
open Go.RowKit
set_option linter.unusedVariables false
theorem Ch.tail {X : Nat → Prop} {a b c : World} (h : Ch X a b) (k : Below a.heap.size b c) : Ch X a c := ⟨k.os.trans h.os, k.tape.trans h.tape, k.output.trans h.output, Nat.le_trans h.size k.size, fun i hi hx => (k.block i hi).trans (h.block i hi hx)⟩
/-- What the call has made turns: no part of the shard's. -/
theorem Sv.junk {w w' w0 : World} {h : Nat} {K : Ly} {M M0 : Ms Ev} {f f0 : Qu → Option Nat} {N N0 : Nat} {l l0 : List W.Ti} (v : Sv w h K M f N l) (v0 : Sv w0 h K M0 f0 N0 l0) (hb : Below w0.heap.size w w') (hre : ∀ j, Re K.X w' (M.c.getD j Z0).x) : Sv w' h K M f N l := by
  have hc : Ch (fun i => w0.heap.size ≤ i) w w' := ⟨hb.os, hb.tape, hb.output, hb.size, fun i _ hi => hb.block i (by omega)⟩
  have a1 := v0.bh.lt
  have a2 := v0.sp.bg.lt
  have a3 := v0.sp.bb.lt
  have a4 := v0.pm.lt
  have a5 := cell_size v0.wl.c0
  have a6 := cell_size (v0.wl.e0 0 v0.wl.pos)
  simp only at a5 a6
  exact ⟨v.up, v.bh.eq (hc.block _ v.bh.lt (by omega)), v.sp.keepC hc (by omega) (by omega), v.pm.block (hc.block _ v.pm.lt (by omega)), v.wl.ch hc (by omega) (by omega) (fun j hj => by have := (v0.wl.mp j hj).lt; omega), hre⟩
theorem evL_put (x : Ev) (A : Option Addr) (cap : Nat) : (evL x).toArray.setIfInBounds 3 (.slice A x.e.l.length cap) = (evL ⟨x.e, A, cap⟩).toArray := rfl

set_option maxRecDepth 100000 in
set_option maxHeartbeats 4000000 in
theorem look_live (q : Qu) (hq : q.Fine) (now : Nat) {w : World} {h : Nat} {K : Ly} {M : Ms Ev} {f : Qu → Option Nat} {N : Nat} {l : List W.Ti} (v : Sv w h K M f N l) {k : Nat} (hf : f q = some k) (hk : k < M.c.length) (hu : us M.c k = true) (hl : now < (M.c.getD k Z0).x.e.ex) :
    Calls Try.prog 22 #[.pointer (some ⟨h, 0, none⟩), qV q, .int .u64 (now : Nat)] w fun e w' => ∃ A cap, e = .returned (.tuple #[evV ⟨(M.c.getD k Z0).x.e, A, cap⟩, .bool true]) ∧ Sl rf w' A cap (M.c.getD k Z0).x.e.l ∧ Nw w.heap.size A ∧
      Sv w' h K ⟨M.c.set k ⟨(M.c.getD k Z0).x, true, true⟩, M.h⟩ f N l ∧ Ch K.X w w' := by
  have hF := fi_of w q
  have HC := Lib.hid (find_some q hq (v.low hF.b) hf hk hu)
  have HF := Lib.hid hF
  have HV := Lib.hid (v.low hF.b)
  have HV0 := Lib.hid v
  have HX := Lib.hid (fun (i : Nat) (hi : w.heap.size ≤ i) => v.notX hi)
  have HRe := Lib.hid (v.re k)
  have hd : decide (now < (M.c.getD k Z0).x.e.ex) = true := by simpa using hl
  unfold qV at HC ⊢
  unfold zE qf at HC HF HV
  clear v hF hl hf
  obtain ⟨x, HE⟩ : ∃ x, Hid ((M.c.getD k Z0).x = x) := ⟨_, Lib.hid rfl⟩
  rw [HE.out] at HC hd HRe ⊢
  have HL := Lib.hid (fun W => live_any x.e.ex now W)
  go_enter Try.func22, Try.ntmps22
  go_upto_region 1 with (fail)
  generalize (w.alloc (Obj.cells #[.string q.n, .int .u16 (q.k : Nat), .int .u16 (q.c : Nat)] 35)).alloc (Obj.cells #[.string ⟨#[]⟩, .int .u16 0, .int .u16 0, .slice none 0 0, .int .i64 0, .int .i64 0, .int .u64 0] 39) = w1 at *
  obtain ⟨b0, b1, b2⟩ := q_cells (q := q) HF.out.bq
  go_upto_region 2 with (first | (refine wpList_store_row rfl 39 _ _ rfl w2.heap.size _ rfl rfl 39 _ HNw.out (infoEa x) rfl (evL_one x) ?_) | (go_at_call 36; (with_reducible (refine (HC.out).mono ?_)); rintro e w2 ⟨rfl, hb2⟩; have HB2 := Lib.hid hb2; have HNw := Lib.hid (Blk.new w2 39 zE); unfold zE at HNw; clear hb2))
  clear b0 b1 b2
  obtain ⟨k3, b3⟩ := box_of w2 x
  have b23 := HB2.out.trans (b3.mono HB2.out.size)
  have HV3 := Lib.hid (HV.out.low b23)
  have HF3 := Lib.hid (And.intro (HF.out.br.eq (b23.block _ HF.out.br.lt)) (And.intro (HF.out.b.trans (b23.mono HF.out.b.size)) (And.intro k3 (show w.heap.size + 1 < w2.heap.size from Nat.lt_of_lt_of_le HF.out.br.lt HB2.out.size))))
  unfold zE at HF3 HV3
  clear k3 b3 b23 HNw HF HB2 HC HV
  generalize (w2.alloc (Obj.cells #[.string ⟨#[]⟩, .int .u16 0, .int .u16 0, .slice none 0 0, .int .i64 0, .int .i64 0, .int .u64 0] 39)).setRow w2.heap.size (evL x).toArray = w3 at *
  generalize w2.heap.size = r at *
  obtain ⟨e0, e1, e2, e3, e4, e5, e6⟩ := e_cells HF3.out.2.2.1
  clear e0 e1 e2 e3 e4 e5
  go_upto_region 4 with (go_at_call 35; (with_reducible (refine (HL.out _).mono ?_)); rintro e w4 ⟨rfl, rfl⟩)
  clear e6
  have HT := Lib.hid (touch_sv HV3.out hk hu)
  rw [HE.out] at HT
  have c0 := HV3.out.c0
  go_upto_region 5 with (go_at_call 43; (with_reducible (refine HT.out.mono ?_)); rintro e w5 ⟨rfl, v5, hc5⟩; have HV5 := Lib.hid (And.intro v5 hc5); clear v5 hc5)
  have hc5 := HV5.out.2
  have hC5 := (Ch.bel HF3.out.2.1 |>.trans hc5 : Ch K.X w w5)
  have hr := HF3.out.2.2.2
  have k5 := HF3.out.2.2.1.ch hc5 (HX.out r (by omega))
  have HK5 := Lib.hid (And.intro k5 (And.intro (HF3.out.1.ch hc5 (HX.out _ (by omega))) hC5))
  have HCl := Lib.hid (clone_any x.A x.cap x.e.l HRe.out.sm w5 (HRe.out.ch hC5).sl)
  have HS := Lib.hid hr
  obtain ⟨e0, e1, e2, e3, e4, e5, e6⟩ := e_cells k5
  have f3 := k5.frozen 3
  clear hc5 hC5 k5 hr c0 HT HF3 HV3 HL
  have HE3 := Lib.hid e3
  clear e0 e1 e2 e4 e5 e6 f3
  go_upto_region 6 with (go_at_call 38; (with_reducible (refine HCl.out.mono ?_)); rintro e w6 ⟨A', cap', rfl, sl6, nw6, hb6⟩; have HS6 := Lib.hid (And.intro sl6 (And.intro nw6 hb6)); have g3 := (HK5.out.1.eq (hb6.block _ HK5.out.1.lt)).frozen 3; have d3 := (hb6.cell (p := ⟨r, 3, none⟩) HK5.out.1.lt).trans HE3.out; clear sl6 nw6 hb6)
  clear e3 g3 d3 HE3
  have hb6 := HS6.out.2.2
  have k7 := (HK5.out.1.eq (hb6.block _ HK5.out.1.lt)).set_ 3 (.slice A' x.e.l.length cap')
  rw [evL_put] at k7
  have r7 := (HK5.out.2.1.eq (hb6.block _ HK5.out.2.1.lt)).far ⟨r, 3, none⟩ (.slice A' x.e.l.length cap') (by have := HS.out; simp only; omega)
  have b7 : Below w.heap.size w5 (w6.setCell ⟨r, 3, none⟩ (.slice A' x.e.l.length cap')) := (hb6.mono HK5.out.2.2.size).setCell (p := ⟨r, 3, none⟩) (by have := HS.out; simp only; omega) _
  have s7 : Sl rf (w6.setCell ⟨r, 3, none⟩ (.slice A' x.e.l.length cap')) A' cap' x.e.l := by
    refine HS6.out.1.ch (X := fun i => i = r) ⟨rfl, rfl, rfl, by simp, fun i _ hi => Below.heap_setCell w6 ⟨r, 3, none⟩ _ i hi⟩ (fun b off hb _ e => ?_)
    have h1 := HS6.out.2.1 b off hb
    have h2 := HK5.out.1.lt
    omega
  have HK7 := Lib.hid (And.intro k7 (And.intro r7 (And.intro b7 s7)))
  have HN := Lib.hid (show Nw w5.heap.size A' from HS6.out.2.1)
  clear hb6 k7 r7 b7 s7 HS6 HCl
  generalize w6.setCell ⟨r, 3, none⟩ (.slice A' x.e.l.length cap') = w7 at *
  go_wp2_with (first | (refine wpList_load_row rfl 39 _ rfl r rfl 39 _ _ _ HK7.out.1 Try.underlying39 rfl infoE ?_) | (refine wpList_store_row rfl 39 _ _ rfl (w.heap.size + 1) _ rfl rfl 39 _ HK7.out.2.1 infoE rfl (evL_one _) ?_))
  have b8 := setRow_below (g := w.heap.size + 1) HK7.out.2.2.1 (by omega) (evL ⟨x.e, A', cap'⟩).toArray
  have hc8 : Ch K.X w (w7.setRow (w.heap.size + 1) (evL ⟨x.e, A', cap'⟩).toArray) := HK5.out.2.2.tail b8
  have hv8 := HV5.out.1.junk HV0.out b8 (HV0.out.re_set hk hc8 (HRe.out.ch hc8))
  have s8 : Sl rf (w7.setRow (w.heap.size + 1) (evL ⟨x.e, A', cap'⟩).toArray) A' cap' x.e.l := by
    refine HK7.out.2.2.2.ch (X := fun i => i = w.heap.size + 1) ⟨rfl, rfl, rfl, by simp, fun i _ hi => setRow_other w7 _ i _ hi⟩ (fun b off hb _ e => ?_)
    have h1 := HN.out b off hb
    have h2 := HK5.out.2.1.lt
    omega
  exact ret_e2 (evL ⟨x.e, A', cap'⟩).toArray rfl rfl rfl rfl rfl (setRow_heap _ _ _ _ _ _ HK7.out.2.1) ⟨A', cap', rfl, s8, (fun b off hb => Nat.le_trans HK5.out.2.2.size (HN.out b off hb)), hv8, hc8⟩
end Go.Proofs.Ytjjanogfcfapcaa
