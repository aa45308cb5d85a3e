/- The contract of Due, which tells besides that its list is new. -/
import Derived.Test.YtjjanogfcfapcaaWvs
namespace Go.Proofs.Ytjjanogfcfapcaa.W
open Go.RowKit Go.Shelf
open Go.Maps (Keyed)
set_option linter.unusedVariables false
attribute [local go_sem] Oper.semAt_some

set_option maxRecDepth 100000 in
set_option maxHeartbeats 4000000 in
theorem due_new (k : Nat) (HS : SortC k) (hk : k ≤ 100000) (now : Nat) {w : World} {g sb s n : Nat} {bm : Nat → Nat} {l : List Ti} (h : Wl w g sb s n bm l) (hl : (dueL l now).length ≤ k) (hl2 : l.length ≤ 100000) :
    Calls Try.prog 44 #[.pointer (some ⟨g, 0, none⟩), .int .u64 (now : Nat)] w fun e w' => ∃ A c, e = .returned (.slice A (dueL l now).length c) ∧ NsI w' A ((dueL l now).map (·.id)) ∧ (∀ b off, A = some ⟨b, off, none⟩ → w.heap.size ≤ b) ∧ Wl w' g sb s n bm (restL l now) ∧ Fw bm s w w' := by
  obtain ⟨i0, hi, hz0, hz1, hz2⟩ := el_of elI
  have HW := Lib.hid h
  have HN := Lib.hid (show WlN w (some ⟨g, 0, none⟩) l from .inr ⟨g, sb, s, n, bm, rfl, h⟩)
  have HSS := Lib.hid HS
  clear h HS
  refine (callsIn_wide (n := 3)).1 ?_
  refine callsIn_of_wp_marks Try.func44 rfl trivial ?_ rfl
  simp only [Try.ntmps44, List.size_toArray, List.length_cons, List.length_nil, Nat.reduceAdd, Nat.reduceSub, Array.replicate_succ, Array.replicate_zero, List.push_toArray, List.append_toArray, List.nil_append, List.cons_append]
  gi_wp2_with (refine ⟨trivial, ?_⟩; gi_at_call 57; refine (all_gives 2 _ _).mono ?_; rintro e w' ⟨rfl, rfl⟩)
  have bT := Boxed.new w 37 (.int .u64 (now : Nat))
  have bD := Boxed.new (w.alloc (.cells #[.int .u64 (now : Nat)] 37)) 79 (.slice none 0 0)
  rw [World.size_alloc] at bD
  have bN := Boxed.new ((w.alloc (.cells #[.int .u64 (now : Nat)] 37)).alloc (.cells #[.slice none 0 0] 79)) 67 (.pointer (some ⟨g, 0, none⟩))
  rw [World.size_alloc, World.size_alloc] at bN
  have hB0 : Below w.heap.size w (((w.alloc (.cells #[.int .u64 (now : Nat)] 37)).alloc (.cells #[.slice none 0 0] 79)).alloc (.cells #[.pointer (some ⟨g, 0, none⟩)] 67)) := (((Below.refl _ w).alloc (Nat.le_refl _) _).alloc (by simp) _).alloc (by simp; omega) _
  refine wpIn_rangeFunc_ownG rfl (by omega) (gf := 64) (lb := #[.pointer (some ⟨w.heap.size + 1 + 1, 0, none⟩)]) rfl trivial (enters_of Try.func64 (by kernel_rfl) rfl)
    (HN.out.stops 2 (by omega) (w.heap.size + 1 + 1) _ hB0 (by simp) bN.cell) kpw_t (kpw_b (by simp; omega)) (Below.refl _ _) (fun _ => rfl)
    (fun pre W => (Boxed W w.heap.size 37 (.int .u64 (now : Nat)) ∧ ∃ v, Boxed W (w.heap.size + 1) 79 v ∧ W.ownsRow w.heap.size 3 1 v (dueI now pre).length (valI (dueI now pre)) ∧ True) ∧ Below w.heap.size w W)
    (fun _ _ _ => False)
    (OwnFrom.and (OwnFrom.and (Own.from (boxed_own _ _ _) _) (Own.from (holdsRow_own w.heap.size (w.heap.size + 1) 79 3 1 (fun pre => (dueI now pre).length) (fun pre => valI (dueI now pre)) (fun _ _ => True)) _)) (ownFrom_below (Nat.le_refl _) (by simp; omega)))
    (fun _ _ _ _ _ hs _ _ => hs)
    ⟨⟨(bT.alloc _).alloc _, _, bD.alloc _, World.ownsRow_nil _ _ _ _, trivial⟩, hB0⟩
    (fun x => { tmps := #[.pointer (some ⟨g, 0, none⟩), .int .u64 (now : Nat), undef, .pointer (some ⟨w.heap.size, 0, none⟩), .slice none 0 0, .pointer (some ⟨w.heap.size + 1, 0, none⟩), .int .i64 x.id, .int .u64 (x.t : Nat), undef, undef, .pointer (some ⟨g, 0, none⟩), .func (.func 64) #[] #[.pointer (some ⟨w.heap.size + 1 + 1, 0, none⟩)], .int .i64 x.id, .int .u64 (x.t : Nat), undef, undef, undef, undef, undef, undef, undef, undef, undef, undef, undef, undef, undef, undef, undef, undef, undef, undef, undef, undef, undef, undef, undef], defers := [] }) ?assign ?body ?done ?stop
  case assign =>
    intro lp x W K hK
    gi_wp2
    exact hK
  case body =>
    rintro lp pre x W ⟨⟨b1, v, b2, hrow, _⟩, hB⟩ hlt
    have c1 := b1.cell
    have c2 := b2.cell
    have hpl := dueI_len now pre
    have HB1 := Lib.hid b1
    by_cases ht : x.t ≤ now
    · have d1 : decide ((x.t : Int) ≤ (now : Nat)) = true := by simp; omega
      have hne : 79 ≠ 3 := by decide
      gi_wp2_with (gi_at_builtin; refine wpListIn_append_own _ rfl _ _ 79 rfl w.heap.size 3 i0 (.int .i64 0) 1 8 Try.underlying79 hi hz0 hz1 hz2 rfl (by decide) _ _ _ rfl (hrow.alloc _) ⟨W.heap.size, 0, none⟩ 1 1 [.int .i64 x.id] rfl rfl (cell_one_new _ _ _) (by simp [Value.oneCell']) (by unfold maxLen; omega) (by omega) (by have := hB.size; simp; omega) ?_; intro v' w1 hown' hgrow _; obtain ⟨g', cap', rfl⟩ := ownsRow_succ hown'; obtain ⟨hv1, hv2, hr2, hk2, hb2⟩ := b2.appended hne hrow hB.size (by omega) hown' hgrow; have hc1 := hv1.cell; have hf1 := hv1.frozen)
      refine ⟨hk2.from _, ⟨hb2, hk2.walks⟩, ⟨?_, _, hv2, by rw [dueI_hit pre ht, valI_snoc]; simpa using hr2, trivial⟩, hB.trans hb2⟩
      exact ((HB1.out.alloc _).kept hgrow (HB1.out.not_row (by decide) hrow)).other (B' := w.heap.size + 1) (by omega) _
    · have d1 : decide ((x.t : Int) ≤ (now : Nat)) = false := by simp; omega
      gi_wp2
      exact ⟨KeepsFrom.refl _ _, kpw_refl _ _, ⟨HB1.out, v, b2, by rw [dueI_miss pre ht]; exact hrow, trivial⟩, hB⟩
  case done =>
    rintro D ys W hD hA ⟨⟨b1, v, b2, hrow, _⟩, hB⟩ hK
    obtain ⟨Av, cv, rfl⟩ := ownR_form hrow
    have hO := HW.out.ord
    have hpm := dueI_perm (now := now) hA hO
    have hlen : (dueI now ys).length = (dueL l now).length := by rw [hpm.length_eq, List.length_map]
    have hwf : ∀ i ∈ dueI now ys, (Lit.int .i64 i).wf = true := fun i hi => by
      obtain ⟨x, hx, rfl⟩ := List.mem_map.1 hi
      exact hA.wf x (List.mem_filter.1 hx).1
    have HSo := Lib.hid (HSS.out W g sb s n bm l (dueI now ys) Av cv w.heap.size (HW.out.low HW.out.isLow hB) HW.out.isLow hB.size (by omega) (dueI_nodup hA hO) hwf hrow)
    have HI := Lib.hid (And.intro hrow (And.intro b2 (And.intro hB (And.intro hK (And.intro hpm hwf)))))
    clear hA hpm hrow b1 b2 hB hwf
    generalize dueI now ys = ids at *
    rw [hlen] at HSo HI
    have c2 := HI.out.2.1.cell
    clear hlen
    have hDD : w.heap.size ≤ D := by simp at hD; omega
    clear hD
    generalize hm : (dueL l now).length = m at *
    have hml : m ≤ k := hl
    gi_wp2_with (refine ⟨trivial, ?_⟩; gi_at_call 58; with_reducible (refine (callsIn_wide.2 HSo.out).mono ?_); rintro e w2 ⟨rfl, ids', hp, hso, hrow2, hg2⟩; have c3 := (HI.out.2.1.kept hg2 (HI.out.2.1.not_row (by decide) HI.out.1)).cell)
    have hids : ids' = (dueL l now).map (·.id) := due_sorted hO (hp.trans HI.out.2.2.2.2.1) hso
    have hlen : ids'.length = m := by rw [hids, List.length_map, hm]
    have hnrow : ∀ r, (Value.slice Av m cv).ownBlock = some r → w.heap.size ≤ r := fun r e => (HI.out.1.lt r e).1
    have hW2 := (HW.out.low HW.out.isLow HI.out.2.2.1).keptBut hg2 (fun e => by have := hnrow _ e; have := HW.out.isLow.g; omega) (fun e => by have := hnrow _ e; have := HW.out.isLow.b; omega) (fun j hj e => by have := hnrow _ e; have := HW.out.isLow.m j hj; omega)
    have hF2 : Fw bm s w w2 := (Fw.bel HI.out.2.2.1).grown hg2 (fun r e => .inl (hnrow r e))
    have hb2 := HI.out.2.1.kept hg2 (HI.out.2.1.not_row (by decide) HI.out.1)
    have hK2 : w2.heap[D]? = some (.deferred (some [])) := (hg2.block D (heap_lt hK) (own_ne_def HI.out.1 hK rfl)).trans hK
    have hwf2 : ∀ i ∈ ids', (Lit.int .i64 i).wf = true := fun i hi => HI.out.2.2.2.2.2 i (hp.mem_iff.1 hi)
    have HS2 := Lib.hid (And.intro hW2 (And.intro hrow2 (And.intro hF2 (And.intro hb2 hK2))))
    clear hW2 hrow2 hF2 hb2 hK2 HI HSo hg2 hso hp hK
    have HE := Lib.hid hids
    clear hids
    gi_loopw [9, 27] (fun _ x wr => ∃ j : Nat, j ≤ m ∧ x = .int .i64 j ∧ Wl wr g sb s n bm (delAll l (ids'.take j)) ∧ wr.ownsRow w.heap.size 3 1 (.slice Av m cv) m (valI ids') ∧ Fw bm s w wr ∧ Boxed wr (w.heap.size + 1) 79 (.slice Av m cv) ∧ wr.heap[D]? = some (.deferred (some []))) (fun _ x _ => m - (intOf x).toNat)
    case atStart => exact ⟨0, Nat.zero_le _, rfl, HS2.out⟩
    case round =>
      clear HS2
      obtain ⟨j, hj, rfl, hWl, hrw, hF, hbx, hKr⟩ := hrel
      by_cases hlt : j < m
      · have d1 : decide ((j : Int) < (m : Nat)) = true := by simp; omega
        have hrw' := hrw
        rw [← hlen] at hrw'
        obtain ⟨A3, c3', e3, hN3⟩ := nsI_own hrw'
        cases e3
        obtain ⟨bb, off, rfl, hbb, hcb⟩ := hN3 j (by omega)
        have s0 : (0 : Int) ≤ (j : Nat) := by omega
        have s1 : (j : Int) < (m : Nat) := by omega
        have hwi := hwf2 ids'[j] (List.getElem_mem _)
        have hj2 := spk_lt hWl.pos ids'[j]
        have HC := Lib.hid (spoke_any ids'[j] hWl)
        have HM := Lib.hid (hWl.mp _ hj2)
        have hsn : ids'.take (j + 1) = ids'.take j ++ [ids'[j]] := by rw [List.take_add_one, List.getElem?_eq_getElem (by omega)]; rfl
        have HT := Lib.hid (show ∀ w4, wr.grownBy w4 (some (bm (spk s ids'[j]))) → Mq w4 (bm (spk s ids'[j])) n (delL ((delAll l (ids'.take j)).filter fun x => spk s x.id == spk s ids'[j]) ids'[j]) → Wl w4 g sb s n bm (delAll l (ids'.take (j + 1))) ∧ w4.ownsRow w.heap.size 3 1 (.slice (some ⟨bb, off, none⟩) m cv) m (valI ids') ∧ Fw bm s w w4 ∧ Boxed w4 (w.heap.size + 1) 79 (.slice (some ⟨bb, off, none⟩) m cv) ∧ w4.heap[D]? = some (.deferred (some [])) from fun w4 hg4 hm4 => by
          have hbl := HW.out.isLow.m _ hj2
          refine ⟨?_, hrw.kept hg4 (.inr fun e => ?_), hF.grown hg4 (fun q e => by cases e; exact .inr ⟨_, hj2, rfl⟩), hbx.kept hg4 (fun e => by have := Option.some.inj e; omega), (hg4.block D (heap_lt hKr) (fun e => by have := Option.some.inj e; omega)).trans hKr⟩
          · rw [hsn, delAll_snoc]
            exact hWl.step hj2 hg4 (delL_ord hWl.ord _) (by rw [part_del _ (fun i => spk s i == spk s ids'[j]) ids'[j]]; exact hm4) (fun i hi hne => part_del_other (p := fun x => spk s x == i) (by simp; omega)) (Nat.le_refl n)
          · have := (hrw.lt _ e).1
            omega)
        clear hWl hrw hrw' hF hbx hKr hN3 hsn
        generalize ids'[j] = id at *
        generalize spk s id = jj at *
        generalize ((delAll l (ids'.take j)).filter fun x => spk s x.id == jj) = lj at *
        gi_wp2_with (first
          | (refine ⟨trivial, ?_⟩; gi_at_call 60; with_reducible (refine (callsIn_wide.2 HC.out).mono ?_); rintro e w3 ⟨rfl, q, rfl⟩)
          | (gi_at_delete; refine wpListIn_mp_del rfl _ _ _ rfl keyedI Try.underlying99 Try.underlying3 id rfl (HM.out.drewN _) rfl hwi ?_; intro w4 hm4 ht4)
          | gi_in)
        have HT4 := Lib.hid (HT.out w4 ⟨ht4.grown.os, ht4.grown.tape, ht4.grown.output, ht4.grown.size, ht4.grown.block⟩ hm4)
        clear hm4 ht4
        go_roundw
        case rel => exact ⟨j + 1, hlt, by go_num, HT4.out⟩
        case measure => simp [intOf]; omega
      · have e : j = m := by omega
        subst e
        have d1 : decide ((j : Int) < (j : Nat)) = false := by simp
        have c4 := hbx.cell
        rw [← hlen, List.take_length, HE.out, delAll_due hO] at hWl
        rw [HE.out] at hrw
        have hrp := ownsRow_putObj hrw (.deferred none) hKr rfl
        have hlm : ((dueL l now).map (·.id)).length = j := by rw [List.length_map, hm]
        have hNf : NsI (wr.putObj D (.deferred none)) Av ((dueL l now).map (·.id)) := by
          rw [← hlm] at hrp
          obtain ⟨A3, c3', e3, hN3⟩ := nsI_own hrp
          cases e3
          exact hN3
        have hWf := hWl.low HW.out.isLow (belowK_b (n₀ := w.heap.size) (w := w) (Nat.le_refl _) wr D _ (.deferred none) hDD hKr rfl rfl)
        have hFf := hF.grown (grownBy_putObj' wr D (.deferred none)) (fun q e => by cases e; exact .inl hDD)
        have hNw : ∀ b off, Av = some ⟨b, off, none⟩ → w.heap.size ≤ b := fun b off e => (hrp.lt b (by rw [e]; rfl)).1
        have HF := Lib.hid (And.intro hNf (And.intro hNw (And.intro hWf hFf)))
        clear hrw hrp hNf hNw hWf hFf hWl hF hbx hlm
        gi_wp2
        refine ⟨by simp, .inl ⟨_, _, rfl, run_takeDeferred hKr, ?_⟩⟩
        exact ⟨_, results_tmp rfl _ _ _, Av, cv, by rw [hm]; rfl, HF.out⟩
  case stop =>
    rintro D c pre W _ _ h _
    exact h.elim
end Go.Proofs.Ytjjanogfcfapcaa.W
