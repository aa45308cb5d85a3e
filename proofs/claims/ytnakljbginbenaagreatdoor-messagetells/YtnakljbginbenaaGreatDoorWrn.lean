/- The contract of derrickref03.Name: as the program's. -/
import Derived.Test.YtnakljbginbenaaGreatDoorWra
import Derived.Laws.AppendOwnNone
import Derived.Deep.DeepCutAuto
import Derived.RegionTactic
namespace Go.Proofs.YtnakljbginbenaaGreatDoor
open Go.RowKit
set_option linter.unusedVariables false

theorem infoPl : (Tryz.prog.info? 157).map (fun i => (i.zero, i.size, i.bytes)) = some (some (.agg #[.string ⟨#[]⟩, .int .i64 0]), 2, 24) := by kernel_rfl
theorem plc_one (L : Kn) : ∀ u ∈ plCells L, u.oneCell' = true := by
  intro u hu
  simp only [plCells, List.mem_flatMap] at hu
  obtain ⟨p, _, hp⟩ := hu
  rcases List.mem_cons.1 hp with rfl | hp
  · rfl
  · rw [List.mem_singleton.1 hp]; rfl
/-- 'append([]Place{}, p.L...)'. -/
theorem rcopy (W : World) (B Bv : Nat) (v : Value) (L : Kn) (hP : Plc Bv v L W) (g : Nat) (hg : W.heap[g]? = some (.cells #[] 157 (0, 0))) (hB : B ≤ g) (hL : L.length ≤ 1099511627776) (ty : TypeId) :
    ∃ v' w', (Builtin.append_ #[92, 92] ty #[.slice (some ⟨g, 0, none⟩) 0 0, v]).run Tryz.prog W = .ok v' w' ∧ Plc B v' L w' ∧ W.grownBy w' (some g) := by
  obtain ⟨i0, hi, hz0, hz1, hz2⟩ := info_parts infoPl
  have hlt := heap_lt hg
  have hown : W.ownsRow B 157 2 (.slice (some ⟨g, 0, none⟩) 0 0) 0 [] := ⟨rfl, .inr ⟨g, 0, #[], rfl, hB, hg, Nat.le_refl _, by decide, rfl, rfl⟩⟩
  rcases hP.2 with ⟨rfl, h0⟩ | ⟨g', cap, cur, rfl, hb, hgg, hle, hcm, hcs, htk⟩
  · have hL0 : L = [] := List.eq_nil_of_length_eq_zero h0
    subst hL0
    exact ⟨_, _, run_append_owned_none (P := Tryz.prog) (w := W) B 92 ty 157 i0 2 Tryz.underlying92 hi _ 0 [] hown, hown, ⟨rfl, rfl, rfl, Nat.le_refl _, fun _ _ _ => rfl⟩⟩
  · obtain ⟨v', w', h1, h2, h3, _⟩ := run_append_own_at (P := Tryz.prog) W B 92 ty 157 i0 _ 2 24 Tryz.underlying92 hi hz0 hz1 hz2 rfl (by decide) _ 0 [] hown ⟨g', 0, none⟩ L.length cap (plCells L) (plCells_len L) (World.ownsRow.cells hP (g := g') rfl) (plc_one L) (by unfold maxLen; omega) (by omega) (by omega)
    rw [Nat.zero_add] at h2
    exact ⟨v', w', h1, h2, h3⟩
theorem step_append_rel {ops : Array Oper} {o : Oper} {a : Act} {w : World} {K : Act → World → Prop} {Q : Exit → Act → World → Prop} {E : Prop} (hgd : o.guard = none) (s x : Operand)
    (ho : o.op = .call { callee := .builtin .append, args := #[s, x], argTypes := #[92, 92] }) (vs vx : Value) (hs : a.eval s = vs) (hx : a.eval x = vx) (R : Value → World → Prop)
    (hrun : ∃ v' w', (Builtin.append_ #[92, 92] o.type #[vs, vx]).run Tryz.prog w = .ok v' w' ∧ R v' w') (h : ∀ v' w', R v' w' → K (a.put o.dst v') w') :
    if Region.wanted o (yielded ops a.tmps) = true then Oper.wp Tryz.prog o a w K Q else E := by
  have hw : Region.wanted o (yielded ops a.tmps) = true := by simp [Region.wanted, hgd]
  rw [if_pos hw]
  obtain ⟨v', w', hr, hR⟩ := hrun
  unfold Oper.wp
  simp only [execOp, ho, resolve, invoke, builtin, Sem.run_bind, Sem.run_pure, Result.andThen_ok, List.map_toArray, List.map_cons, List.map_nil, hs, hx, hr]
  exact h v' w' hR

/-- What is known behind it. -/
structure Cpd (w w1 : World) (L : Kn) (W : World) (g : Nat) (v' : Value) (w' : World) : Prop where
  old : ∀ k, k < w1.heap.size → w'.heap[k]? = w1.heap[k]?
  plc : Plc w.heap.size v' L w'
  bel : Below w.heap.size w w'
  size : W.heap.size ≤ w'.heap.size
  kept : ∀ k, k < W.heap.size → k ≠ g → w'.heap[k]? = W.heap[k]?
theorem rcopyR (w w1 W : World) (B : Nat) (v : Value) (L : Kn) (hP : Plc B v L w1) (hb1 : Below w.heap.size w w1) (hb : Below w1.heap.size w1 W) (g : Nat) (hg : W.heap[g]? = some (.cells #[] 157 (0, 0))) (hgB : w1.heap.size ≤ g) (hL : L.length ≤ 1099511627776) (ty : TypeId) :
    ∃ v' w', (Builtin.append_ #[92, 92] ty #[.slice (some ⟨g, 0, none⟩) 0 0, v]).run Tryz.prog W = .ok v' w' ∧ Cpd w w1 L W g v' w' := by
  obtain ⟨v', w', h1, h2, h3⟩ := rcopy W w.heap.size B v L (hP.below hb) g hg (Nat.le_trans hb1.size hgB) hL ty
  refine ⟨v', w', h1, fun k hk => ?_, h2, ?_, h3.size, fun k hk hne => h3.block k hk (fun e => hne (Option.some.inj e))⟩
  · exact (h3.block k (Nat.lt_of_lt_of_le hk hb.size) (fun e => by have := Option.some.inj e; omega)).trans (hb.block k hk)
  · have hbW : Below w.heap.size w W := hb1.trans (hb.mono hb1.size)
    exact hbW.grown h3 hbW.size (fun k e => by rw [← Option.some.inj e]; exact Nat.le_trans hb1.size hgB)

/-- What stands behind the copy. -/
def Begun (w : World) (x : ByteArray) (L : Kn) (t : Value) (wx : World) : Prop :=
  ∃ (g : Nat) (v' : Value), t = .pointer (some ⟨g, 0, none⟩) ∧ wx.heap[g]? = some (.cells #[.string x, v'] 94 (0, 0)) ∧ w.heap.size + 2 ≤ g ∧ Plc w.heap.size v' L wx ∧ Below w.heap.size w wx ∧ wx.heap[w.heap.size + 1]? = some (.cells #[.string ⟨#[]⟩, .slice none 0 0] 94 (0, 0))
theorem Plc.other {B : Nat} {v : Value} {L : Kn} {w w' : World} {k : Nat} {cs : Array Value} {t : TypeId} (h : Plc B v L w) (hk : w.heap[k]? = some (.cells cs t (0, 0))) (ht : t ≠ 157) (hg : w.grownBy w' (some k)) : Plc B v L w' := by
  refine World.ownsRow.kept h hg ?_
  rcases h.2 with ⟨rfl, _⟩ | ⟨g, cap, cur, rfl, hb, hgg, _⟩
  · exact .inl rfl
  · refine .inr (fun e => ?_)
    have e' : g = k := Option.some.inj e
    subst e'
    rw [hk] at hgg
    cases hgg
    exact ht rfl
theorem begunA {w w1 w2 W : World} {g0 : Nat} {x : ByteArray} {L : Kn} {v : Value} (hC : Cpd w w1 L W g0 v w2) (hs1 : w.heap.size + 2 ≤ w1.heap.size) (hr : w1.heap[w.heap.size + 1]? = some (.cells #[.string ⟨#[]⟩, .slice none 0 0] 94 (0, 0))) (hW : w1.heap.size ≤ W.heap.size) :
    Begun w x L (.pointer (some ⟨w2.heap.size, 0, none⟩)) (w2.alloc (.cells #[.string x, v] 94)) := by
  have h1 := hC.size
  have hb : Below w2.heap.size w2 (w2.alloc (.cells #[.string x, v] 94)) := (Below.refl _ w2).alloc (Nat.le_refl _) _
  exact ⟨w2.heap.size, v, rfl, heap_alloc_new w2 _, by omega, hC.plc.below hb, hC.bel.alloc hC.bel.size _, (hb.block _ (by omega)).trans ((hC.old _ (by omega)).trans hr)⟩
theorem begunB {w w1 w2 W : World} {g0 k : Nat} {x : ByteArray} {L : Kn} {v : Value} (hC : Cpd w w1 L W g0 v w2) (hs1 : w.heap.size + 2 ≤ w1.heap.size) (hr : w1.heap[w.heap.size + 1]? = some (.cells #[.string ⟨#[]⟩, .slice none 0 0] 94 (0, 0))) (hk : w1.heap.size ≤ k)
    (hz : w2.heap[k]? = some (.cells #[.string ⟨#[]⟩, .slice none 0 0] 94 (0, 0))) : Begun w x L (.pointer (some ⟨k, 0, none⟩)) ((w2.setCell ⟨k, 0, none⟩ (.string x)).setCell ⟨k, 1, none⟩ v) := by
  have s1 := blk_set hz 0 (.string x)
  have s2 := blk_set s1 1 v
  have g1 := grown_set w2 ⟨k, 0, none⟩ (.string x)
  have g2 := grown_set (w2.setCell ⟨k, 0, none⟩ (.string x)) ⟨k, 1, none⟩ v
  refine ⟨k, v, rfl, s2, by omega, (hC.plc.other hz (by decide) g1).other s1 (by decide) g2, (hC.bel.setCell (p := ⟨k, 0, none⟩) (show w.heap.size ≤ k by omega) _).setCell (p := ⟨k, 1, none⟩) (show w.heap.size ≤ k by omega) _, ?_⟩
  have hlt : w.heap.size + 1 < w2.heap.size := by have := heap_lt hz; omega
  exact (g2.block _ (by simp; omega) (fun e => by have : w.heap.size + 1 = k := Option.some.inj e; omega)).trans ((g1.block _ hlt (fun e => by have : w.heap.size + 1 = k := Option.some.inj e; omega)).trans ((hC.old _ (by omega)).trans hr))

/-- What stands behind a label's begin. -/
structure Mid (w : World) (g : Nat) (s' : ByteArray) (u : Value) (L : Kn) (wx : World) : Prop where
  box : wx.heap[g]? = some (.cells #[.string s', u] 94 (0, 0))
  plc : Plc w.heap.size u L wx
  bel : Below w.heap.size w wx
  res : wx.heap[w.heap.size + 1]? = some (.cells #[.string ⟨#[]⟩, .slice none 0 0] 94 (0, 0))
theorem Mid.set {w wx : World} {g : Nat} {s' : ByteArray} {u : Value} {L : Kn} (h : Mid w g s' u L wx) (hg : w.heap.size + 2 ≤ g) (y : ByteArray) : Mid w g y u L (wx.setCell ⟨g, 0, none⟩ (.string y)) := by
  have g1 := grown_set wx ⟨g, 0, none⟩ (.string y)
  refine ⟨blk_set h.box 0 _, h.plc.other h.box (by decide) g1, h.bel.setCell (p := ⟨g, 0, none⟩) (show w.heap.size ≤ g by omega) _, ?_⟩
  exact (g1.block _ (heap_lt h.res) (fun e => by have : w.heap.size + 1 = g := Option.some.inj e; omega)).trans h.res
theorem Mid.app {w wx wy : World} {g : Nat} {s' : ByteArray} {u u' : Value} {L L' : Kn} {o : Obj} (h : Mid w g s' u L wx) (hg : w.heap.size + 2 ≤ g) (hgr : (wx.alloc o).grownBy wy u.ownBlock) (hP : Plc w.heap.size u' L' wy) :
    wy.heap[g]? = some (.cells #[.string s', u] 94 (0, 0)) ∧ Mid w g s' u' L' (wy.setCell ⟨g, 1, none⟩ u') := by
  have hal : Below wx.heap.size wx (wx.alloc o) := (Below.refl _ wx).alloc (Nat.le_refl _) o
  have hne : ∀ (k : Nat) (cs : Array Value), wx.heap[k]? = some (.cells cs 94 (0, 0)) → wy.heap[k]? = some (.cells cs 94 (0, 0)) := fun k cs hk => by
    refine (hgr.block k (Nat.lt_of_lt_of_le (heap_lt hk) hal.size) (fun e => ?_)).trans ((hal.block k (heap_lt hk)).trans hk)
    rcases h.plc.2 with ⟨rfl, _⟩ | ⟨g', cap, cur, rfl, hb, hgg, _⟩
    · cases e
    · have e' : k = g' := Option.some.inj e
      subst e'
      rw [hk] at hgg
      cases hgg
  have hbox := hne g _ h.box
  have g1 := grown_set wy ⟨g, 1, none⟩ u'
  refine ⟨hbox, blk_set hbox 1 _, hP.other hbox (by decide) g1, ?_, ?_⟩
  · have hb1 : Below w.heap.size w wy := (h.bel.alloc h.bel.size o).grown hgr (Nat.le_trans h.bel.size hal.size) (fun k e => by
      rcases h.plc.2 with ⟨rfl, _⟩ | ⟨g', cap, cur, rfl, hb, _⟩
      · cases e
      · cases e; exact hb)
    exact hb1.setCell (p := ⟨g, 1, none⟩) (show w.heap.size ≤ g by omega) _
  · have hr := hne (w.heap.size + 1) _ h.res
    exact (g1.block _ (heap_lt hr) (fun e => by have : w.heap.size + 1 = g := Option.some.inj e; omega)).trans hr
theorem plCells_snoc (L : Kn) (k : List UInt8) (a : Nat) : plCells (L ++ [(k, a)]) = plCells L ++ [.string ⟨k.toArray⟩, .int .i64 (a : Nat)] := by simp [plCells]
/-- What is returned. -/
theorem rdone {w w3 : World} {y : ByteArray} {v : Value} {L : Kn} (h3 : w3.heap[w.heap.size + 1]? = some (.cells #[.string ⟨#[]⟩, .slice none 0 0] 94 (0, 0))) (hP : Plc w.heap.size v L w3) (hb : Below w.heap.size w w3) :
    ((w3.setCell ⟨w.heap.size + 1, 0, none⟩ (.string y)).setCell ⟨w.heap.size + 1, 1, none⟩ v).heap[w.heap.size + 1]? = some (.cells #[.string y, v] 94 (0, 0)) ∧
      Plc w.heap.size v L ((w3.setCell ⟨w.heap.size + 1, 0, none⟩ (.string y)).setCell ⟨w.heap.size + 1, 1, none⟩ v) ∧ Below w.heap.size w ((w3.setCell ⟨w.heap.size + 1, 0, none⟩ (.string y)).setCell ⟨w.heap.size + 1, 1, none⟩ v) := by
  have s1 := blk_set h3 0 (.string y)
  have s2 := blk_set s1 1 v
  have g1 := grown_set w3 ⟨w.heap.size + 1, 0, none⟩ (.string y)
  have g2 := grown_set (w3.setCell ⟨w.heap.size + 1, 0, none⟩ (.string y)) ⟨w.heap.size + 1, 1, none⟩ v
  exact ⟨s2, (hP.other h3 (by decide) g1).other s1 (by decide) g2, (hb.setCell (p := ⟨w.heap.size + 1, 0, none⟩) (show w.heap.size ≤ w.heap.size + 1 by omega) _).setCell (p := ⟨w.heap.size + 1, 1, none⟩) (show w.heap.size ≤ w.heap.size + 1 by omega) _⟩
theorem two_new (w : World) (a b : Value) (t : TypeId) : ∀ j u, [a, b][j]? = some u → (w.alloc (.cells #[a, b] t)).cell? ((⟨w.heap.size, 0, none⟩ : Addr).add j) = some u := by
  intro j u hu
  have e : (⟨w.heap.size, 0, none⟩ : Addr).add j = ⟨w.heap.size, j, none⟩ := by
    unfold Addr.add
    split
    · rename_i h0; simp_all
    · simp
  rw [e, cell_of_row _ w.heap.size j #[a, b] t (0, 0) (heap_alloc_new w _)]
  simpa using hu
theorem first_byte {s : ByteArray} {l : List UInt8} {ls : List (List UInt8)} (h : NameIs s (l :: ls)) : ∃ h0 : 0 < s.size, s[0].toNat = l.length ∧ 1 + l.length ≤ s.size ∧ (s.extract 0 (1 + l.length)).data.toList = enc1 l ∧ s.extract (1 + l.length) s.size = parS s := by
  obtain ⟨hm, b0, hNp, hps, hext, hlt⟩ := name_tail h
  have hokl := h.ok l (by simp)
  have hd : s.data.toList.drop 0 = UInt8.ofNat l.length :: (l ++ wire ls) := by rw [List.drop_zero, h.eq, wire_cons]; rfl
  obtain ⟨h1, h2, _⟩ := lsz_at hd
  unfold okLb at hokl
  rw [UInt8.toNat_ofNat'] at h2
  have hlen : s.size = l.length + 1 + (wire ls).length := by rw [← ba_len, h.eq, wire_len_cons]
  have hpl : (parS s).size = (wire ls).length := by rw [← ba_len, hNp.eq]
  have hz := lsz_eq h1
  refine ⟨h1, by omega, by omega, ?_, ?_⟩
  · rw [show 1 + l.length = s.size - (parS s).size by omega]; exact hext
  · apply ba_ext
    rw [hNp.eq, extract_list, ← ba_len, List.take_length, h.eq, wire_cons, List.drop_left']
    rw [enc1_len]; omega

set_option maxRecDepth 100000 in
set_option maxHeartbeats 8000000 in
theorem rname_yes (B : Nat) (x n : ByteArray) (v : Value) (L : Kn) (w : World) (hP : Plc B v L w) (hK : KnOk x.data.toList L) (hx : x.size ≤ 1000000) (hm : mayB n = true) :
    Calls Tryz.prog 85 #[.agg #[.string x, v], .string n] w fun e w' => ∃ v', e = .returned (.tuple #[.agg #[.string ⟨(put x.data.toList L (labs n)).1.toArray⟩, v'], .int .i64 0]) ∧ Plc w.heap.size v' (put x.data.toList L (labs n)).2 w' ∧ Below w.heap.size w w' := by
  have hN := may_name hm
  have hns := hN.size
  have HN := Lib.hid hN
  have hLl : L.length ≤ 1000000 := by have := hK.2; rw [ba_len] at this; omega
  obtain ⟨A, cap, rfl⟩ := hP.form
  clear hN
  go_enter Tryz.func85, Tryz.ntmps85
  go_wp2_with fail
  refine (ref_may n (by omega) _).mono ?_; rintro e w1 ⟨rfl, hb1⟩
  rw [hm]
  clear hm
  obtain ⟨W0, hW0⟩ : ∃ W0, (w.alloc (.cells #[.string x, .slice A L.length cap] 94)).alloc (.cells #[.string ⟨#[]⟩, .slice none 0 0] 94) = W0 := ⟨_, rfl⟩
  rw [hW0] at hb1
  have hz0 : W0.heap.size = w.heap.size + 2 := by rw [← hW0]; simp
  have hbel0 : Below w.heap.size w W0 := by rw [← hW0]; exact ((Below.refl _ w).alloc (Nat.le_refl _) _).alloc (by simp) _
  have hx0 : W0.heap[w.heap.size]? = some (.cells #[.string x, .slice A L.length cap] 94 (0, 0)) := by rw [← hW0]; exact (Below.heap_alloc _ _ _ (by simp)).trans (heap_alloc_new w _)
  have hr0 : W0.heap[w.heap.size + 1]? = some (.cells #[.string ⟨#[]⟩, .slice none 0 0] 94 (0, 0)) := by rw [← hW0]; exact heap_alloc2_new w _ _
  have hbel1 : Below w.heap.size w w1 := hbel0.trans (hb1.mono (by omega))
  have hx1 := (hb1.block w.heap.size (by omega)).trans hx0
  have hr1 := (hb1.block (w.heap.size + 1) (by omega)).trans hr0
  have hP1 := hP.below hbel1
  have hs1 : w.heap.size + 2 ≤ w1.heap.size := by have := hb1.size; omega
  have c0 : w1.cell? ⟨w.heap.size, 0, none⟩ = some (.string x) := blk_cell hx1 0
  have c1 : w1.cell? ⟨w.heap.size, 1, none⟩ = some (.slice A L.length cap) := blk_cell hx1 1
  have HR1 := Lib.hid hr1
  have HX1 := Lib.hid hx1
  have HP1 := Lib.hid hP1
  have HB1 := Lib.hid hbel1
  clear hW0 hz0 hbel0 hx0 hr0 hb1 hbel1 hx1 hr1 hP1 hP
  go_upto_region 3 with (fail)
  go_cut [6] (fun t wx => Begun w x L t wx)
  case first =>
    obtain ⟨Z, hZ⟩ : ∃ Z : Obj, Z = .cells #[.string ⟨#[]⟩, .slice none 0 0] 94 := ⟨_, rfl⟩
    obtain ⟨Y, hY⟩ : ∃ Y : Obj, Y = .cells #[] 157 := ⟨_, rfl⟩
    have hal : ∀ o, Below w1.heap.size w1 (w1.alloc o) := fun o => (Below.refl _ w1).alloc (Nat.le_refl _) o
    have hal2 : ∀ o o', Below w1.heap.size w1 ((w1.alloc o).alloc o') := fun o o' => (hal o).alloc (by simp) o'
    have hdr : ∀ {W : World}, Below w1.heap.size w1 W → Below w1.heap.size w1 W.drew := fun h => h.drew
    have d0 : ∀ o, (w1.alloc o).cell? ⟨w.heap.size, 0, none⟩ = some (.string x) := fun o => ((hal o).cell (p := ⟨w.heap.size, 0, none⟩) (show w.heap.size < _ by omega)).trans c0
    have d1 : ∀ o, (w1.alloc o).cell? ⟨w.heap.size, 1, none⟩ = some (.slice A L.length cap) := fun o => ((hal o).cell (p := ⟨w.heap.size, 1, none⟩) (show w.heap.size < _ by omega)).trans c1
    have d2 : ∀ o o', ((w1.alloc o).alloc o').cell? ⟨w.heap.size, 0, none⟩ = some (.string x) := fun o o' => ((hal2 o o').cell (p := ⟨w.heap.size, 0, none⟩) (show w.heap.size < _ by omega)).trans c0
    have d3 : ∀ o o', ((w1.alloc o).alloc o').cell? ⟨w.heap.size, 1, none⟩ = some (.slice A L.length cap) := fun o o' => ((hal2 o o').cell (p := ⟨w.heap.size, 1, none⟩) (show w.heap.size < _ by omega)).trans c1
    have E1 := Lib.hid (rcopyR w w1 (w1.alloc Y).drew B _ L HP1.out HB1.out (hdr (hal Y)) w1.heap.size (by rw [hY]; exact heap_alloc_new w1 _) (by omega) (by omega) 92)
    have E2 := Lib.hid (rcopyR w w1 ((w1.alloc Z).alloc Y).drew B _ L HP1.out HB1.out (hdr (hal2 Z Y)) (w1.heap.size + 1) (by rw [hY]; exact heap_alloc2_new w1 _ _) (by omega) (by omega) 92)
    have E3 := Lib.hid (rcopyR w w1 ((w1.alloc Y).alloc Z).drew B _ L HP1.out HB1.out (hdr (hal2 Y Z)) w1.heap.size (by rw [hY]; exact (Below.heap_alloc _ _ _ (by simp)).trans (heap_alloc_new w1 _)) (by omega) (by omega) 92)
    have k2 : ((w1.alloc Z).alloc Y).heap[w1.heap.size]? = some Z := (Below.heap_alloc _ _ _ (by simp)).trans (heap_alloc_new w1 _)
    have k3 : ((w1.alloc Y).alloc Z).heap[w1.heap.size + 1]? = some Z := heap_alloc2_new w1 _ _
    subst hZ hY
    have K2 := Lib.hid k2
    have K3 := Lib.hid k3
    clear hal hal2 hdr k2 k3
    go_region_law (first
      | (refine step_append_rel rfl (.tmp 15) (.tmp 17) rfl (.slice (some ⟨w1.heap.size, 0, none⟩) 0 0) (.slice A L.length cap) rfl rfl (Cpd w w1 L (w1.alloc (.cells #[] 157)).drew w1.heap.size) E1.out ?_; rintro v' w2 hC; obtain ⟨A2, cap2, rfl⟩ := hC.plc.form; have HY := Lib.hid ((hC.old w.heap.size (by omega)).trans HX1.out); have y0 := blk_cell HY.out 0; have y1 : ∀ o, (w2.alloc o).cell? ⟨w.heap.size, 0, none⟩ = some (.string x) := fun o => (((Below.refl _ w2).alloc (Nat.le_refl _) o).cell (p := ⟨w.heap.size, 0, none⟩) (heap_lt HY.out)).trans y0)
      | (refine step_append_rel rfl (.tmp 15) (.tmp 17) rfl (.slice (some ⟨w1.heap.size + 1, 0, none⟩) 0 0) (.slice A L.length cap) rfl rfl (Cpd w w1 L ((w1.alloc (.cells #[.string ⟨#[]⟩, .slice none 0 0] 94)).alloc (.cells #[] 157)).drew (w1.heap.size + 1)) E2.out ?_; rintro v' w2 hC; obtain ⟨A2, cap2, rfl⟩ := hC.plc.form; have HY := Lib.hid ((hC.old w.heap.size (by omega)).trans HX1.out); have y0 := blk_cell HY.out 0; have y1 : ∀ o, (w2.alloc o).cell? ⟨w.heap.size, 0, none⟩ = some (.string x) := fun o => (((Below.refl _ w2).alloc (Nat.le_refl _) o).cell (p := ⟨w.heap.size, 0, none⟩) (heap_lt HY.out)).trans y0; have HZ := Lib.hid ((hC.kept w1.heap.size (by simp; omega) (by omega)).trans K2.out); have z0 := blk_cell HZ.out 0; have z1 := blk_cell HZ.out 1; have f0 := blk_frozen HZ.out 0; have f1 := blk_frozen HZ.out 1)
      | (refine step_append_rel rfl (.tmp 15) (.tmp 17) rfl (.slice (some ⟨w1.heap.size, 0, none⟩) 0 0) (.slice A L.length cap) rfl rfl (Cpd w w1 L ((w1.alloc (.cells #[] 157)).alloc (.cells #[.string ⟨#[]⟩, .slice none 0 0] 94)).drew w1.heap.size) E3.out ?_; rintro v' w2 hC; obtain ⟨A2, cap2, rfl⟩ := hC.plc.form; have HY := Lib.hid ((hC.old w.heap.size (by omega)).trans HX1.out); have y0 := blk_cell HY.out 0; have y1 : ∀ o, (w2.alloc o).cell? ⟨w.heap.size, 0, none⟩ = some (.string x) := fun o => (((Below.refl _ w2).alloc (Nat.le_refl _) o).cell (p := ⟨w.heap.size, 0, none⟩) (heap_lt HY.out)).trans y0; have HZ := Lib.hid ((hC.kept (w1.heap.size + 1) (by simp) (by omega)).trans K3.out); have z0 := blk_cell HZ.out 0; have z1 := blk_cell HZ.out 1; have f0 := blk_frozen HZ.out 0; have f1 := blk_frozen HZ.out 1))
    all_goals
      go_wp2_with fail
      go_meet
      case rel =>
        first
        | exact begunA hC hs1 HR1.out (by simp)
        | exact begunA hC hs1 HR1.out (by simp; omega)
        | exact begunB hC hs1 HR1.out (by omega) HZ.out
  case rest =>
    obtain ⟨g, v', rfl, hg, hg2, hPl, hbel, hres⟩ := hcut
    clear c0 c1 HR1 HP1 HB1 HX1 hs1
    go_wp2_with fail
    go_loopw [1] (fun r wr => ∃ (rest : ByteArray) (ls : List (List UInt8)) (s' : ByteArray) (L' : Kn) (v' : Value), r = .string rest ∧ NameIs rest ls ∧ put s'.data.toList L' ls = put x.data.toList L (labs n) ∧ s'.size + rest.size ≤ x.size + n.size ∧ KnOk s'.data.toList L' ∧ wr.heap[g]? = some (.cells #[.string s', v'] 94 (0, 0)) ∧ Plc w.heap.size v' L' wr ∧ Below w.heap.size w wr ∧ wr.heap[w.heap.size + 1]? = some (.cells #[.string ⟨#[]⟩, .slice none 0 0] 94 (0, 0))) (fun r _ => strLen r)
    case atStart => exact ⟨n, labs n, x, L, v', rfl, HN.out, rfl, Nat.le_refl _, hK, hg, hPl, hbel, hres⟩
    case round =>
      clear hg hPl hbel hres
      obtain ⟨rest, ls, s', L', u, rfl, hN, hput, hsz, hK', hg, hPl, hbel, hres⟩ := hrel
      have HPut := Lib.hid hput
      have HK' := Lib.hid hK'
      have hs'1 : s'.size ≤ 1000300 := by omega
      obtain ⟨Au, cu, rfl⟩ := hPl.form
      have c0 : wr.cell? ⟨g, 0, none⟩ = some (.string s') := blk_cell hg 0
      have c1 : wr.cell? ⟨g, 1, none⟩ = some (.slice Au L'.length cu) := blk_cell hg 1
      have HG := Lib.hid hg
      have HPl := Lib.hid hPl
      have HRes := Lib.hid hres
      have hL'l : L'.length ≤ 1000300 := by have := hK'.2; rw [ba_len] at this; omega
      clear hput hK' hg hPl hres
      cases ls with
      | nil =>
        have b0 : (rest.toList == [0]) = true := by rw [ByteArray.toList_eq, hN.eq]; rfl
        clear hN
        go_wp2_with fail
        refine (radd_any s' ⟨#[0]⟩ _ Au L'.length cu rfl (by show _ + 1 ≤ _; omega) _).mono ?_; rintro e w3 ⟨rfl, hb3⟩
        have hr3 := (hb3.block _ (heap_lt HRes.out)).trans HRes.out
        have z0 := blk_cell hr3 0
        have z1 := blk_cell hr3 1
        have f0 := blk_frozen hr3 0
        have f1 := blk_frozen hr3 1
        have HR3 := Lib.hid hr3
        clear hr3
        go_wp2_with fail
        obtain ⟨t1, t2, t3⟩ := rdone (y := s' ++ ⟨#[0]⟩) HR3.out (HPl.out.below hb3) (bthen hbel hb3)
        refine ret_pack2 rfl rfl rfl rfl t1 ⟨.slice Au L'.length cu, ?_, ?_, t3⟩
        rotate_left
        · rw [← HPut.out, put_nil]
          exact t2
        · rw [← HPut.out, put_nil]
          have : (s' ++ ⟨#[0]⟩ : ByteArray) = ⟨(s'.data.toList ++ [0]).toArray⟩ := by apply ba_ext; simp
          rw [this]
          rfl
      | cons l ls =>
        obtain ⟨hmr, b0, hNp, hps, hext, hlt⟩ := name_tail hN
        have hrs := hN.size
        have hreq := hN.eq
        have hokl := hN.ok l (by simp)
        go_wp2_with fail
        refine (known_any _ s' rest _ L' _ (by omega) HPl.out).mono ?_; rintro e w3 ⟨rfl, hb3⟩
        rw [hreq]
        cases hf : fnd L' (wire (l :: ls)) with
        | some a =>
          have hkn : knI L' (wire (l :: ls)) = (a : Nat) := by unfold knI; rw [hf]
          rw [hkn]
          have ha : a < 16384 := HK'.out.1 _ (fnd_mem hf)
          have HF := Lib.hid hf
          have hg3 := (hb3.block _ (heap_lt HG.out)).trans HG.out
          have hr3 := (hb3.block _ (heap_lt HRes.out)).trans HRes.out
          have e0 : w3.cell? ⟨g, 0, none⟩ = some (.string s') := blk_cell hg3 0
          have e1 : w3.cell? ⟨g, 1, none⟩ = some (.slice Au L'.length cu) := blk_cell hg3 1
          have HG3 := Lib.hid hg3
          have HR3 := Lib.hid hr3
          have HB3 := Lib.hid (bthen hbel hb3)
          have HP3 := Lib.hid (HPl.out.below hb3)
          have k1 : IntKind.i64.wrap (49152 + (a : Int)) = 49152 + (a : Int) := IntWalk.i64_in _ (by omega)
          have k2 : IntKind.u16.wrap (49152 + (a : Int)) = 49152 + (a : Int) := IntWalk.u16_in _ (by omega)
          have hpb := ptr_bytes a ha
          have HPB := Lib.hid hpb
          have hbz := Oc.bstr_size (49152 + (a : Int)) 2
          have HBz := Lib.hid hbz
          clear hkn hf hN hNp hext hmr hreq hokl c0 c1 hg3 hr3 hpb hbz
          go_wp2_with fail
          go_region_with (first
            | (go_at_call 84; refine (Oc.rput16 (49152 + (a : Int)) _ (by omega) (by omega)).mono ?_; rintro e w4 ⟨rfl, hb4⟩; have HB4 := Lib.hid (show Below w3.heap.size w3 w4 from ⟨hb4.os, hb4.tape, hb4.output, hb4.size, hb4.block⟩); have g0 : w4.cell? ⟨g, 0, none⟩ = some (.string s') := (HB4.out.cell (p := ⟨g, 0, none⟩) (heap_lt HG3.out)).trans e0; have g1 : w4.cell? ⟨g, 1, none⟩ = some (.slice Au L'.length cu) := (HB4.out.cell (p := ⟨g, 1, none⟩) (heap_lt HG3.out)).trans e1)
            | (go_at_call 86; refine (radd_any s' (Oc.bstr (49152 + (a : Int)) 2) _ Au L'.length cu rfl (by rw [HBz.out]; omega) _).mono ?_; rintro e w5 ⟨rfl, hb5⟩; have HB5 := Lib.hid (bthen HB4.out hb5); have HR5 := Lib.hid ((HB5.out.block _ (heap_lt HR3.out)).trans HR3.out); have z0 := blk_cell HR5.out 0; have z1 := blk_cell HR5.out 1; have f0 := blk_frozen HR5.out 0; have f1 := blk_frozen HR5.out 1))
          all_goals
            go_wp2_with fail
            obtain ⟨t1, t2, t3⟩ := rdone (y := s' ++ Oc.bstr (49152 + (a : Int)) 2) HR5.out (HP3.out.below HB5.out) (bthen HB3.out HB5.out)
            refine ret_pack2 rfl rfl rfl rfl t1 ⟨.slice Au L'.length cu, ?_, ?_, t3⟩
            rotate_left
            · rw [← HPut.out, put_hit HF.out]
              exact t2
            · rw [← HPut.out, put_hit HF.out]
              have : (s' ++ Oc.bstr (49152 + (a : Int)) 2 : ByteArray) = ⟨(s'.data.toList ++ ptr a).toArray⟩ := by apply ba_ext; rw [← HPB.out]; simp
              rw [this]
              rfl
        | none =>
          have hkn : knI L' (wire (l :: ls)) = -1 := by unfold knI; rw [hf]
          rw [hkn]
          obtain ⟨h0, hb0, hkl, hex, hpar⟩ := first_byte hN
          have hg3 := (hb3.block _ (heap_lt HG.out)).trans HG.out
          have hr3 := (hb3.block _ (heap_lt HRes.out)).trans HRes.out
          have hP3 := HPl.out.below hb3
          have hbel3 := bthen hbel hb3
          have hs3 := hbel3.size
          have e0 : w3.cell? ⟨g, 0, none⟩ = some (.string s') := blk_cell hg3 0
          have e1 : w3.cell? ⟨g, 1, none⟩ = some (.slice Au L'.length cu) := blk_cell hg3 1
          have hcat : ¬ 9223372036854775807 < s'.size + (rest.extract 0 (1 + l.length)).size := by rw [← ba_len (rest.extract 0 (1 + l.length)), hex, enc1_len]; omega
          have hsl := slice_to rest (1 + l.length) hkl
          have hsf := slice_from rest (1 + l.length) hkl
          rw [hpar] at hsf
          have HF := Lib.hid hf
          have HSl := Lib.hid hsl
          have HSf := Lib.hid hsf
          have HEx := Lib.hid hex
          have HReq := Lib.hid hreq
          have HNp := Lib.hid hNp
          have HG3 := Lib.hid hg3
          have HR3 := Lib.hid hr3
          have HP3 := Lib.hid hP3
          have HB3 := Lib.hid hbel3
          have HCat := Lib.hid hcat
          have HPar := Lib.hid hpar
          have hrl : rest.size = l.length + 1 + (wire ls).length := by rw [← ba_len, hreq, wire_len_cons]
          have hpl : (parS rest).size = (wire ls).length := by rw [← ba_len, hNp.eq]
          clear hkn hf hN hNp hext hmr hreq hokl c0 c1 hg3 hr3 hP3 hbel3 hsl hsf hex hpar hcat hb3 hbel
          have hmid : Mid w g s' (.slice Au L'.length cu) L' w3 := ⟨HG3.out, HP3.out, HB3.out, HR3.out⟩
          have HMid := Lib.hid hmid
          have HRl := Lib.hid hrl
          have HPl2 := Lib.hid hpl
          clear hmid HG3 HR3 HP3 HB3 HG HPl HRes hrl hpl
          obtain ⟨i0, hi, hz0, hz1, hz2⟩ := info_parts infoPl
          go_upto_if 36 with (fail)
          go_cut [38] (fun _ wx => ∃ u, Mid w g s' u (lrn s'.data.toList L' (wire (l :: ls))) wx)
          case first =>
            by_cases h16 : s'.size < 16384
            · have hlr : lrn s'.data.toList L' (wire (l :: ls)) = L' ++ [(wire (l :: ls), s'.size)] := by unfold lrn; rw [ba_len, if_pos h16]
              have hrow := HMid.out.plc
              have HRow := Lib.hid hrow
              have HLr := Lib.hid hlr
              have hre : rest = ⟨(wire (l :: ls)).toArray⟩ := by apply ba_ext; rw [HReq.out]
              have HRe := Lib.hid hre
              clear hrow hlr hre
              go_wp2_with (at_builtin; refine wpList_append_own _ rfl _ _ 92 rfl w.heap.size 157 i0 _ 2 24 Tryz.underlying92 hi hz0 hz1 hz2 rfl (by decide) (.slice Au L'.length cu) _ _ rfl (World.ownsRow.alloc HRow.out _) ⟨w3.heap.size, 0, none⟩ 1 1 [.string rest, .int .i64 (s'.size : Nat)] rfl rfl (two_new _ _ _ _) (by simp [Value.oneCell']) (by unfold maxLen; omega) (by omega) (by simp; omega) ?_; intro u' w4 hown' hgrow _; have hP4 : Plc w.heap.size u' (L' ++ [(wire (l :: ls), s'.size)]) w4 := (by unfold Plc; rw [plCells_snoc, ← HRe.out, List.length_append]; exact hown'); have HM4 := Lib.hid (HMid.out.app hg2 hgrow hP4); obtain ⟨A4, cap4, rfl⟩ := hP4.form; have m1 : w4.cell? ⟨g, 1, none⟩ = some (.slice Au L'.length cu) := blk_cell HM4.out.1 1; have f1 := blk_frozen HM4.out.1 1; clear hown' hgrow hP4)
              go_meet
              case rel =>
                have h := HM4.out.2
                rw [show (L' ++ [(wire (l :: ls), s'.size)]).length = L'.length + 1 by simp] at h
                exact ⟨_, by rw [HLr.out]; exact h⟩
            · have hlr : lrn s'.data.toList L' (wire (l :: ls)) = L' := by unfold lrn; rw [ba_len, if_neg h16]
              have HLr := Lib.hid hlr
              have b16 : decide ((s'.size : Int) < 16384) = false := by simp; omega
              clear hlr
              go_wp2_with fail
              go_meet
              case rel => exact ⟨_, by rw [HLr.out]; exact HMid.out⟩
          case rest =>
            obtain ⟨u2, hM⟩ := hcut
            obtain ⟨A2, cap2, rfl⟩ := hM.plc.form
            obtain ⟨X, hX⟩ : ∃ X, rest.extract 0 (1 + l.length) = X := ⟨_, rfl⟩
            have hXd : X.data.toList = enc1 l := by rw [← hX]; exact HEx.out
            have hXs : X.size = l.length + 1 := by rw [← ba_len, hXd, enc1_len]
            have m0 : wc.cell? ⟨g, 0, none⟩ = some (.string s') := blk_cell hM.box 0
            have f0 : wc.frozen? ⟨g, 0, none⟩ = false := blk_frozen hM.box 0
            have q1 : (0 : Int) ≤ 1 + (l.length : Int) := by omega
            have q2 : 1 + (l.length : Int) ≤ (rest.size : Int) := by omega
            have q3 : (1 + (l.length : Int)).toNat = 1 + l.length := by omega
            have hcat : ¬ 9223372036854775807 < s'.size + X.size := by omega
            have HX := Lib.hid (And.intro hXd hXs)
            have HM := Lib.hid hM
            clear hM hXd hXs HMid HSl HSf HCat
            go_wp2_with fail
            go_region
            all_goals
              have hpar2 := HPar.out
              clear hX
              go_wp2_with fail
              go_roundw
              case rel =>
                have hm := HM.out.set hg2 (s' ++ X)
                have hd : (s' ++ X).data.toList = s'.data.toList ++ enc1 l := by rw [← HX.out.1]; simp
                have h1 := HRl.out
                have h2 := HPl2.out
                have h3 := HX.out.2
                refine ⟨parS rest, ls, s' ++ X, lrn s'.data.toList L' (wire (l :: ls)), _, rfl, HNp.out, ?_, ?_, ?_, hm.box, hm.plc, hm.bel.drew, hm.res⟩
                · rw [← HPut.out, put_miss HF.out, hd]
                · rw [ByteArray.size_append]; omega
                · rw [hd]; exact knOk_lrn HK'.out _ l
              case measure => have h1 := HRl.out; have h2 := HPl2.out; simp [strLen]; omega

set_option maxHeartbeats 1000000 in
theorem rname_no (x n : ByteArray) (v : Value) (A : Option Addr) (m cap : Nat) (hv : v = .slice A m cap) (w : World) (hn : n.size ≤ 4194304) (hm : mayB n = false) :
    Calls Tryz.prog 85 #[.agg #[.string x, v], .string n] w fun e w' => e = .returned (.tuple #[.agg #[.string x, v], .int .i64 1]) ∧ Below w.heap.size w w' := by
  subst hv
  go_enter Tryz.func85, Tryz.ntmps85
  go_wp2_with fail
  refine (ref_may n hn _).mono ?_; rintro e w1 ⟨rfl, hb1⟩
  rw [hm]
  clear hm
  obtain ⟨W0, hW0⟩ : ∃ W0, (w.alloc (.cells #[.string x, .slice A m cap] 94)).alloc (.cells #[.string ⟨#[]⟩, .slice none 0 0] 94) = W0 := ⟨_, rfl⟩
  rw [hW0] at hb1
  have hz0 : W0.heap.size = w.heap.size + 2 := by rw [← hW0]; simp
  have hbel0 : Below w.heap.size w W0 := by rw [← hW0]; exact ((Below.refl _ w).alloc (Nat.le_refl _) _).alloc (by simp) _
  have hx0 : W0.heap[w.heap.size]? = some (.cells #[.string x, .slice A m cap] 94 (0, 0)) := by rw [← hW0]; exact (Below.heap_alloc _ _ _ (by simp)).trans (heap_alloc_new w _)
  have hr0 : W0.heap[w.heap.size + 1]? = some (.cells #[.string ⟨#[]⟩, .slice none 0 0] 94 (0, 0)) := by rw [← hW0]; exact heap_alloc2_new w _ _
  have hbel1 : Below w.heap.size w w1 := hbel0.trans (hb1.mono (by omega))
  have hx1 := (hb1.block w.heap.size (by omega)).trans hx0
  have hr1 := (hb1.block (w.heap.size + 1) (by omega)).trans hr0
  have c0 : w1.cell? ⟨w.heap.size, 0, none⟩ = some (.string x) := blk_cell hx1 0
  have c1 : w1.cell? ⟨w.heap.size, 1, none⟩ = some (.slice A m cap) := blk_cell hx1 1
  have z0 := blk_cell hr1 0
  have z1 := blk_cell hr1 1
  have f0 := blk_frozen hr1 0
  have f1 := blk_frozen hr1 1
  have HR1 := Lib.hid hr1
  clear hW0 hz0 hbel0 hx0 hr0 hb1 hx1 hr1
  go_wp2_with fail
  have t1 := blk_set HR1.out 0 (.string x)
  have t2 := blk_set t1 1 (.slice A m cap)
  exact ret_pack2 rfl rfl rfl rfl t2 ⟨rfl, (hbel1.setCell (p := ⟨w.heap.size + 1, 0, none⟩) (show w.heap.size ≤ w.heap.size + 1 by omega) _).setCell (p := ⟨w.heap.size + 1, 1, none⟩) (show w.heap.size ≤ w.heap.size + 1 by omega) _⟩
end Go.Proofs.YtnakljbginbenaaGreatDoor
