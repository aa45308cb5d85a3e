/- The steps of the region of derrickref12.with (written by tools/gen_vd.py). -/
import Derived.Test.YtjjanogfcfapcaaVda
namespace Go.Proofs.Ytjjanogfcfapcaa.D
open Go.RowKit
set_option linter.unusedVariables false

/-- What stands behind the making of the three slices. -/
def WithR (w1 : World) (r n hh : Nat) (c : List (Ce Ev)) (tv : Value) (wx : World) : Prop :=
  ∃ p gx cx gu cu gt ct : Nat, tv = .pointer (some ⟨p, 0, none⟩) ∧ Tri w1.heap.size p r zD wx hh (.slice (some ⟨gx, 0, none⟩) n cx) (.slice (some ⟨gu, 0, none⟩) n cu) (.slice (some ⟨gt, 0, none⟩) n ct) n n n (xsV c) (usV c) (tsV c) ∧ Below w1.heap.size w1 wx ∧ w1.heap.size ≤ p
/-- How far the region has come: which slices are made, and the box. -/
structure St (w1 wk : World) (n : Nat) (c : List (Ce Ev)) (x u t : Option (Nat × Nat)) (p : Option Nat) : Prop where
  b : Below w1.heap.size w1 wk
  ox : ∀ g k, x = some (g, k) → wk.ownsRow w1.heap.size 39 7 (.slice (some ⟨g, 0, none⟩) n k) n (xsV c)
  ou : ∀ g k, u = some (g, k) → wk.ownsRow w1.heap.size 4 1 (.slice (some ⟨g, 0, none⟩) n k) n (usV c)
  ot : ∀ g k, t = some (g, k) → wk.ownsRow w1.heap.size 4 1 (.slice (some ⟨g, 0, none⟩) n k) n (tsV c)
  ne : ∀ g k g' k', u = some (g, k) → t = some (g', k') → g ≠ g'
  bp : ∀ q, p = some q → Blk wk q 29 zD ∧ w1.heap.size ≤ q
section
variable {w1 wk wk' : World} {n : Nat} {c : List (Ce Ev)} {x u t : Option (Nat × Nat)} {p : Option Nat}
theorem St.begin (w1 : World) (n : Nat) (c : List (Ce Ev)) : St w1 w1.drew n c none none none none := ⟨(Below.refl _ w1).drew, fun g k h => (by cases h), fun g k h => (by cases h), fun g k h => (by cases h), fun g k g' k' h => (by cases h), fun q h => (by cases h)⟩
theorem St.go (h : St w1 wk n c x u t p) (hb : Below wk.heap.size wk wk') : St w1 wk' n c x u t p :=
  ⟨h.b.trans (hb.mono h.b.size), fun g k e => ownR_below (h.ox g k e) hb, fun g k e => ownR_below (h.ou g k e) hb, fun g k e => ownR_below (h.ot g k e) hb, h.ne, fun q e => ⟨(h.bp q e).1.eq (hb.block _ (h.bp q e).1.lt), (h.bp q e).2⟩⟩
theorem St.al (h : St w1 wk n c x u t p) (o : Obj) : St w1 (wk.alloc o) n c x u t p := h.go ((Below.refl _ wk).alloc (Nat.le_refl _) o)
theorem St.ap (h : St w1 wk n c x u t none) : St w1 (wk.alloc (.cells zD 29)) n c x u t (some wk.heap.size) := by
  have h2 := h.al (.cells zD 29)
  refine ⟨h2.b, h2.ox, h2.ou, h2.ot, h2.ne, fun q e => ?_⟩
  cases e
  exact ⟨Blk.new wk _ _, h.b.size⟩
theorem St.aX (h : St w1 wk n c none u t p) {g k : Nat} (ho : wk'.ownsRow wk.heap.size 39 7 (.slice (some ⟨g, 0, none⟩) n k) n (xsV c)) (hb : Below wk.heap.size wk wk') : St w1 wk' n c (some (g, k)) u t p := by
  have h2 := h.go hb
  refine ⟨h2.b, fun g k e => ?_, h2.ou, h2.ot, h2.ne, h2.bp⟩
  cases e
  exact own_mono ho h.b.size
theorem St.aU (h : St w1 wk n c x none none p) {g k : Nat} (ho : wk'.ownsRow wk.heap.size 4 1 (.slice (some ⟨g, 0, none⟩) n k) n (usV c)) (hb : Below wk.heap.size wk wk') : St w1 wk' n c x (some (g, k)) none p := by
  have h2 := h.go hb
  refine ⟨h2.b, h2.ox, fun g k e => ?_, h2.ot, fun g k g' k' _ e => (by cases e), h2.bp⟩
  cases e
  exact own_mono ho h.b.size
theorem St.aT {gu ku : Nat} (h : St w1 wk n c x (some (gu, ku)) none p) {g k : Nat} (ho : wk'.ownsRow wk.heap.size 4 1 (.slice (some ⟨g, 0, none⟩) n k) n (tsV c)) (hb : Below wk.heap.size wk wk') : St w1 wk' n c x (some (gu, ku)) (some (g, k)) p := by
  have h2 := h.go hb
  refine ⟨h2.b, h2.ox, h2.ou, fun g k e => ?_, fun g k g' k' e e' => ?_, h2.bp⟩
  · cases e
    exact own_mono ho h.b.size
  · cases e
    cases e'
    have h3 := (own_base (h.ou _ _ rfl)).2
    have h4 := (own_base ho).1
    omega
end
theorem src_own {w : World} {B k : Nat} {e : TypeId} {g n cap : Nat} {xs : List Value} (h : w.ownsRow B e k (.slice (some ⟨g, 0, none⟩) n cap) n xs) : ∀ j u, xs[j]? = some u → w.cell? ((⟨g, 0, none⟩ : Addr).add j) = some u := fun j u hj => by
  have h1 := (List.getElem?_eq_some_iff.1 hj).1
  rw [Addr.add_lit, Nat.zero_add, h.cellAt j (by rw [← h.1]; exact h1)]
  exact hj
theorem src_own1 {w : World} {B : Nat} {e : TypeId} {g n cap : Nat} {xs : List Value} (h : w.ownsRow B e 1 (.slice (some ⟨g, 0, none⟩) n cap) n xs) : ∀ j u, xs[j]? = some u → w.cell? ((⟨g, 0, none⟩ : Addr).add j) = some u := fun j u hj => by
  have h1 := (List.getElem?_eq_some_iff.1 hj).1
  have h2 := h.1
  rw [Addr.add_lit, Nat.zero_add, h.cellAt j (by omega)]
  exact hj
theorem one_x (c : List (Ce Ev)) : ∀ u ∈ xsV c, u.oneCell' = true := fun u hu => by
  obtain ⟨e, _, h1⟩ := List.mem_flatMap.1 hu
  exact Array.all_eq_true_iff_forall_mem.1 (evL_one e.x) u (by simpa using h1)
theorem one_u (c : List (Ce Ev)) : ∀ u ∈ usV c, u.oneCell' = true := fun u hu => by obtain ⟨e, _, rfl⟩ := List.mem_map.1 hu; rfl
theorem one_t (c : List (Ce Ev)) : ∀ u ∈ tsV c, u.oneCell' = true := fun u hu => by obtain ⟨e, _, rfl⟩ := List.mem_map.1 hu; rfl
section
variable {ops : Array Oper} {o : Oper} {a : Act} {w1 wk : World} {K : Act → World → Prop} {Q : Exit → Act → World → Prop} {E : Prop} {n : Nat} {c : List (Ce Ev)} {x u t : Option (Nat × Nat)} {p : Option Nat}
theorem wanted_of (hg : o.guard = none) : Region.wanted o (yielded ops a.tmps) = true := by simp [Region.wanted, hg]
theorem sX (h : St w1 wk n c x u t p) (hg : o.guard = none) (ho : o.op = .buildSlice 26 0 #[]) (hK : ∀ w', St w1 w' n c x u t p → K (a.put o.dst (.slice (some ⟨wk.heap.size, 0, none⟩) 0 0)) w') : if Region.wanted o (yielded ops a.tmps) = true then Oper.wp Try.prog o a wk K Q else E := by
  rw [if_pos (wanted_of hg)]
  have h2 := hK _ (h.al (Obj.cells #[] 39))
  unfold Oper.wp
  simp only [execOp, ho]
  go_simp
  exact h2
theorem sU (h : St w1 wk n c x u t p) (hg : o.guard = none) (ho : o.op = .buildSlice 27 0 #[]) (hK : ∀ w', St w1 w' n c x u t p → K (a.put o.dst (.slice (some ⟨wk.heap.size, 0, none⟩) 0 0)) w') : if Region.wanted o (yielded ops a.tmps) = true then Oper.wp Try.prog o a wk K Q else E := by
  rw [if_pos (wanted_of hg)]
  have h2 := hK _ (h.al (Obj.cells #[] 4))
  unfold Oper.wp
  simp only [execOp, ho]
  go_simp
  exact h2
theorem sA (h : St w1 wk n c x u t none) (hg : o.guard = none) (ho : o.op = .alloc 29) (hK : ∀ w', St w1 w' n c x u t (some wk.heap.size) → K (a.put o.dst (.pointer (some ⟨wk.heap.size, 0, none⟩))) w') : if Region.wanted o (yielded ops a.tmps) = true then Oper.wp Try.prog o a wk K Q else E := by
  rw [if_pos (wanted_of hg)]
  have h2 := hK _ h.ap
  unfold Oper.wp
  simp only [execOp, ho]
  go_simp
  exact h2
theorem gX {B : Nat} {d : Dv} (D : Dw B w1 d c) (hc : c.length = n) (hn : 1 ≤ n) (hm : n ≤ 64) (h : St w1 wk n c none u t p) (hg : o.guard = none) {s y : Operand} (ho : o.op = .call { callee := .builtin .append, args := #[s, y], argTypes := #[26, 26] }) {b : Nat} (hs : a.eval s = .slice (some ⟨b, 0, none⟩) 0 0) (hy : a.eval y = .slice (some ⟨d.gx, 0, none⟩) n d.cx) (hK : ∀ g k w', St w1 w' n c (some (g, k)) u t p → K (a.put o.dst (.slice (some ⟨g, 0, none⟩) n k)) w') : if Region.wanted o (yielded ops a.tmps) = true then Oper.wp Try.prog o a wk K Q else E := by
  obtain ⟨i1, hi1, hz1, hs1, hy1⟩ := el_of elT
  refine step_append_grows hg _ _ 26 ho 39 i1 (evV default) 7 72 Try.underlying26 hi1 hz1 hs1 hy1 rfl (by decide) (some ⟨b, 0, none⟩) 0 0 [] hs (fun h => by cases h) rfl (fun b hb j u hu => by simp at hu) ⟨d.gx, 0, none⟩ n d.cx (xsV c) hy (by rw [xsV_len, hc]) (src_own (hc ▸ ownR_below D.ox h.b)) (one_x c) (by omega) (by unfold maxLen; omega) (by omega) ?_
  intro v' w' hown hgr
  rw [Nat.zero_add, List.nil_append] at hown
  obtain ⟨A, k, rfl⟩ := ownR_form hown
  obtain ⟨g, rfl, hge⟩ := own_block hown (by omega)
  exact hK g k w' (h.aX hown ((Below.refl _ _).grown hgr (Nat.le_refl _) (fun k hk => by cases hk)))
theorem gU {B : Nat} {d : Dv} (D : Dw B w1 d c) (hc : c.length = n) (hn : 1 ≤ n) (hm : n ≤ 64) (h : St w1 wk n c x none none p) (hg : o.guard = none) {s y : Operand} (ho : o.op = .call { callee := .builtin .append, args := #[s, y], argTypes := #[27, 27] }) {b : Nat} (hs : a.eval s = .slice (some ⟨b, 0, none⟩) 0 0) (hy : a.eval y = .slice (some ⟨d.gu, 0, none⟩) n d.cu) (hK : ∀ g k w', St w1 w' n c x (some (g, k)) none p → K (a.put o.dst (.slice (some ⟨g, 0, none⟩) n k)) w') : if Region.wanted o (yielded ops a.tmps) = true then Oper.wp Try.prog o a wk K Q else E := by
  obtain ⟨i1, hi1, hz1, hs1, hy1⟩ := el_of elB
  refine step_append_grows hg _ _ 27 ho 4 i1 (.bool false) 1 1 Try.underlying27 hi1 hz1 hs1 hy1 rfl (by decide) (some ⟨b, 0, none⟩) 0 0 [] hs (fun h => by cases h) rfl (fun b hb j u hu => by simp at hu) ⟨d.gu, 0, none⟩ n d.cu (usV c) hy (by simp [usV, hc]) (src_own1 (hc ▸ ownR_below D.ou h.b)) (one_u c) (by omega) (by unfold maxLen; omega) (by omega) ?_
  intro v' w' hown hgr
  rw [Nat.zero_add, List.nil_append] at hown
  obtain ⟨A, k, rfl⟩ := ownR_form hown
  obtain ⟨g, rfl, hge⟩ := own_block hown (by omega)
  exact hK g k w' (h.aU hown ((Below.refl _ _).grown hgr (Nat.le_refl _) (fun k hk => by cases hk)))
theorem gT {B gu ku : Nat} {d : Dv} (D : Dw B w1 d c) (hc : c.length = n) (hn : 1 ≤ n) (hm : n ≤ 64) (h : St w1 wk n c x (some (gu, ku)) none p) (hg : o.guard = none) {s y : Operand} (ho : o.op = .call { callee := .builtin .append, args := #[s, y], argTypes := #[27, 27] }) {b : Nat} (hs : a.eval s = .slice (some ⟨b, 0, none⟩) 0 0) (hy : a.eval y = .slice (some ⟨d.gt, 0, none⟩) n d.ct) (hK : ∀ g k w', St w1 w' n c x (some (gu, ku)) (some (g, k)) p → K (a.put o.dst (.slice (some ⟨g, 0, none⟩) n k)) w') : if Region.wanted o (yielded ops a.tmps) = true then Oper.wp Try.prog o a wk K Q else E := by
  obtain ⟨i1, hi1, hz1, hs1, hy1⟩ := el_of elB
  refine step_append_grows hg _ _ 27 ho 4 i1 (.bool false) 1 1 Try.underlying27 hi1 hz1 hs1 hy1 rfl (by decide) (some ⟨b, 0, none⟩) 0 0 [] hs (fun h => by cases h) rfl (fun b hb j u hu => by simp at hu) ⟨d.gt, 0, none⟩ n d.ct (tsV c) hy (by simp [tsV, hc]) (src_own1 (hc ▸ ownR_below D.ot h.b)) (one_t c) (by omega) (by unfold maxLen; omega) (by omega) ?_
  intro v' w' hown hgr
  rw [Nat.zero_add, List.nil_append] at hown
  obtain ⟨A, k, rfl⟩ := ownR_form hown
  obtain ⟨g, rfl, hge⟩ := own_block hown (by omega)
  exact hK g k w' (h.aT hown ((Below.refl _ _).grown hgr (Nat.le_refl _) (fun k hk => by cases hk)))
theorem own_setRow {w : World} {B e k : Nat} {v : Value} {m : Nat} {xs : List Value} {q s : Nat} {old : Array Value} (cs : Array Value) (h : w.ownsRow B e k v m xs) (hb : Blk w q s old) (hne : e ≠ s) : (w.setRow q cs).ownsRow B e k v m xs := own_keep h fun g hg => setRow_other w q g cs (own_type h hb hne hg)
theorem sS {r hh gx kx gu ku gt kt q : Nat} (hr : Blk w1 r 29 zD) (h : St w1 wk n c (some (gx, kx)) (some (gu, ku)) (some (gt, kt)) (some q)) (hg : o.guard = none) {y z : Operand} (ho : o.op = .store 29 y z) (hy : a.eval y = .pointer (some ⟨q, 0, none⟩)) (hz : a.eval z = .agg #[.slice (some ⟨gx, 0, none⟩) n kx, .slice (some ⟨gu, 0, none⟩) n ku, .slice (some ⟨gt, 0, none⟩) n kt, .int .i64 (hh : Nat)])
    (hK : ∀ w', WithR w1 r n hh c (.pointer (some ⟨q, 0, none⟩)) w' → Below w1.heap.size w1 w' → K (a.put o.dst undef) w') : if Region.wanted o (yielded ops a.tmps) = true then Oper.wp Try.prog o a wk K Q else E := by
  rw [if_pos (wanted_of hg)]
  obtain ⟨hp, hpb⟩ := h.bp q rfl
  have hrp : r ≠ q := by have := hr.lt; omega
  have hr2 := hr.eq (h.b.block _ hr.lt)
  have hb2 := setRow_below h.b hpb #[.slice (some ⟨gx, 0, none⟩) n kx, .slice (some ⟨gu, 0, none⟩) n ku, .slice (some ⟨gt, 0, none⟩) n kt, .int .i64 (hh : Nat)]
  refine wp_store_row 29 y z ho q _ hy hz 29 zD hp infoD rfl (all4 _ _ _ _ _ _ _ _) (hK _ ⟨q, gx, kx, gu, ku, gt, kt, rfl, ⟨setRow_heap _ _ _ _ _ _ hp, (setRow_other wk q r _ hrp).trans hr2, hrp, own_setRow _ (h.ox _ _ rfl) hp (by decide), own_setRow _ (h.ou _ _ rfl) hp (by decide), own_setRow _ (h.ot _ _ rfl) hp (by decide), ?_⟩, hb2, hpb⟩ hb2)
  intro g h1 h2
  have e1 : gu = g := by simpa [Value.ownBlock] using h1
  have e2 : gt = g := by simpa [Value.ownBlock] using h2
  exact h.ne gu ku gt kt rfl rfl (e1.trans e2.symm)
end
section
variable {B p r : Nat} {rs : Array Value} {w w' : World} {hh : Nat} {vX vU vT : Value} {n nX nU nT g c0 : Nat} {xs us ts : List Value}
theorem own_far {e : TypeId} {k : Nat} {v : Value} {q : Nat} (i : Nat) (u : Value) (h : w.ownsRow B e k v nX xs) (hg : v.ownBlock ≠ some q) : (w.setCell ⟨q, i, none⟩ u).ownsRow B e k v nX xs := own_keep h fun g hg' => Below.heap_setCell w _ u g (fun e => hg (by rw [hg', show g = q from e]))
theorem own_fars {e : TypeId} {k : Nat} {v : Value} {q : Nat} (i : Nat) (us : List Value) (h : w.ownsRow B e k v nX xs) (hg : v.ownBlock ≠ some q) : (w.setCells q i us).ownsRow B e k v nX xs := own_keep h fun g hg' => setCells_other us i w (fun e => hg (by rw [hg', show g = q from e]))
/-- Values put into a list, one behind the other. -/
def putL : List Value → Nat → List Value → List Value
  | xs, _, [] => xs
  | xs, o, v :: r => putL (xs.set o v) (o + 1) r
theorem putL_len : ∀ (vs xs : List Value) (o : Nat), (putL xs o vs).length = xs.length
  | [], xs, o => rfl
  | v :: r, xs, o => by rw [putL, putL_len r]; simp
theorem putL_at : ∀ (vs xs : List Value) (o i : Nat), o + vs.length ≤ xs.length → (putL xs o vs)[i]? = if o ≤ i ∧ i < o + vs.length then vs[i - o]? else xs[i]?
  | [], xs, o, i, _ => by rw [putL, if_neg (by simp only [List.length_nil]; omega)]
  | v :: r, xs, o, i, h => by
    simp only [List.length_cons] at h
    rw [putL, putL_at r _ (o + 1) i (by simp; omega)]
    by_cases h1 : o = i
    · subst h1
      rw [if_neg (by omega), if_pos (by simp only [List.length_cons]; omega), Nat.sub_self, List.getElem?_set_self (by omega)]
      rfl
    · rw [List.getElem?_set_ne h1]
      by_cases h2 : o + 1 ≤ i ∧ i < o + 1 + r.length
      · rw [if_pos h2, if_pos (by simp only [List.length_cons]; omega)]
        obtain ⟨q, hq⟩ : ∃ q, i - o = q + 1 := ⟨i - o - 1, by omega⟩
        rw [hq, show i - (o + 1) = q by omega]
        rfl
      · rw [if_neg h2, if_neg (by simp only [List.length_cons]; omega)]
theorem own_cells {e : TypeId} {k : Nat} : ∀ (vs : List Value) (o : Nat) (w : World) (xs : List Value), w.ownsRow B e k (.slice (some ⟨g, 0, none⟩) n c0) n xs → (w.setCells g o vs).ownsRow B e k (.slice (some ⟨g, 0, none⟩) n c0) n (putL xs o vs)
  | [], _, _, _, h => h
  | v :: r, o, _, _, h => by
    rw [World.setCells, putL]
    exact own_cells r (o + 1) _ _ (h.stored o v).1
theorem putL_row (c : List (Ce Ev)) (k : Nat) (hk : k < c.length) (e : Ce Ev) : putL (xsV c) (k * 7) (evL e.x) = xsV (c.set k e) := by
  apply List.ext_getElem?
  intro q
  have h1 : k * 7 + (evL e.x).length ≤ (xsV c).length := by rw [xsV_len, evL_len]; omega
  rw [putL_at _ _ _ _ h1, evL_len]
  by_cases hq : q < c.length * 7
  · have e1 : q = q / 7 * 7 + q % 7 := by omega
    have h2 : q / 7 < (c.set k e).length := by rw [List.length_set]; omega
    have h3 : (xsV (c.set k e))[q]? = (evL ((c.set k e).getD (q / 7) Z0).x)[q % 7]? := by
      conv => lhs; rw [e1]
      exact xsV_at _ _ _ h2 (by omega)
    have h4 : (xsV c)[q]? = (evL (c.getD (q / 7) Z0).x)[q % 7]? := by
      conv => lhs; rw [e1]
      exact xsV_at _ _ _ (by omega) (by omega)
    rw [h3, h4, getD_set _ _ _ _ hk]
    by_cases h5 : k = q / 7
    · rw [if_pos h5, if_pos (by omega), show q - k * 7 = q % 7 by omega]
    · rw [if_neg h5, if_neg (by omega)]
  · rw [if_neg (by omega), List.getElem?_eq_none (by rw [xsV_len]; omega), List.getElem?_eq_none (by rw [xsV_len, List.length_set]; omega)]
theorem Tri.putX (h : Tri B p r rs w hh (.slice (some ⟨g, 0, none⟩) n c0) vU vT n nU nT xs us ts) (o : Nat) (vs : List Value) : Tri B p r rs (w.setCells g o vs) hh (.slice (some ⟨g, 0, none⟩) n c0) vU vT n nU nT (putL xs o vs) us ts :=
  ⟨h.bp.far_ _ _ (fun e => h.px (by rw [show p = g from e]; rfl)), h.br.far_ _ _ (fun e => h.rx (by rw [show r = g from e]; rfl)), h.rp, own_cells vs o w xs h.ox, own_fars o vs h.ou (fun e => own_two h.ou h.ox (by decide) e rfl), own_fars o vs h.ot (fun e => own_two h.ot h.ox (by decide) e rfl), h.ne⟩
theorem Tri.putU (h : Tri B p r rs w hh vX (.slice (some ⟨g, 0, none⟩) n c0) vT nX n nT xs us ts) (i : Nat) (u : Value) : Tri B p r rs (w.setCell ⟨g, i, none⟩ u) hh vX (.slice (some ⟨g, 0, none⟩) n c0) vT nX n nT xs (us.set i u) ts :=
  ⟨h.bp.far _ _ (fun e => h.pu (by rw [show p = g from e]; rfl)), h.br.far _ _ (fun e => h.ru (by rw [show r = g from e]; rfl)), h.rp, own_far i u h.ox (fun e => own_two h.ox h.ou (by decide) e rfl), (h.ou.stored i u).1, own_far i u h.ot (fun e => h.ne g rfl e), h.ne⟩
theorem Tri.putT (h : Tri B p r rs w hh vX vU (.slice (some ⟨g, 0, none⟩) n c0) nX nU n xs us ts) (i : Nat) (u : Value) : Tri B p r rs (w.setCell ⟨g, i, none⟩ u) hh vX vU (.slice (some ⟨g, 0, none⟩) n c0) nX nU n xs us (ts.set i u) :=
  ⟨h.bp.far _ _ (fun e => h.pt (by rw [show p = g from e]; rfl)), h.br.far _ _ (fun e => h.rt (by rw [show r = g from e]; rfl)), h.rp, own_far i u h.ox (fun e => own_two h.ox h.ot (by decide) e rfl), own_far i u h.ou (fun e => h.ne g e rfl), (h.ot.stored i u).1, h.ne⟩
end
end Go.Proofs.Ytjjanogfcfapcaa.D
