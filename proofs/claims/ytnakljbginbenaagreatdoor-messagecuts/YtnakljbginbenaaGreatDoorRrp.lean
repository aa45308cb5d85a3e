/- The contracts of derrickref05: MayQ, May, PutQ; and of derricklaw05.few. -/
import Derived.Test.YtnakljbginbenaaGreatDoorBrs
import Derived.Test.YtnakljbginbenaaGreatDoorRpo
import Derived.Deep.DeepCutAuto
import Derived.RegionTactic
import Derived.Deep.RegionHeld
namespace Go.Proofs.YtnakljbginbenaaGreatDoor
open Go.RowKit
set_option linter.unusedVariables false

/-- Blocks of memory, with their cells. -/
def Hp (l : List (Nat × Array Value × TypeId)) (W : World) : Prop := ∀ p ∈ l, W.heap[p.1]? = some (.cells p.2.1 p.2.2 (0, 0))
theorem Hp.call {l : List (Nat × Array Value × TypeId)} {W W' : World} (h : Hp l W) (hb : Below W.heap.size W W') : Hp l W' := fun p hp => (hb.block _ (heap_lt (h p hp))).trans (h p hp)
theorem Hp.drew {l : List (Nat × Array Value × TypeId)} {W : World} (h : Hp l W) : Hp l W.drew := fun p hp => h p hp
theorem Hp.nil (W : World) : Hp [] W := fun p hp => by cases hp
theorem Hp.alloc {l : List (Nat × Array Value × TypeId)} {W : World} (h : Hp l W) (cs : Array Value) (t : TypeId) : Hp ((W.heap.size, cs, t) :: l) (W.alloc (Obj.cells cs t)) := fun p hp => by
  rcases List.mem_cons.1 hp with rfl | hp
  · exact World.alloc_heap_new W _
  · exact (heapOld _ (heap_lt (h p hp))).trans (h p hp)
theorem Hp.at {l : List (Nat × Array Value × TypeId)} {W : World} (h : Hp l W) (i : Nat) {g : Nat} {cs : Array Value} {t : TypeId} (hi : l[i]? = some (g, cs, t)) : W.heap[g]? = some (.cells cs t (0, 0)) := h (g, cs, t) (List.mem_of_getElem? hi)
/-- Three blocks that a call begins with. -/
theorem three_new (w : World) (a b c : Array Value) (s t u : TypeId) : Hp [(w.heap.size + 1 + 1, c, u), (w.heap.size + 1, b, t), (w.heap.size, a, s)] (((w.alloc (Obj.cells a s)).alloc (Obj.cells b t)).alloc (Obj.cells c u)) ∧ Below w.heap.size w (((w.alloc (Obj.cells a s)).alloc (Obj.cells b t)).alloc (Obj.cells c u)) := by
  have h := (((Hp.nil w).alloc a s).alloc b t).alloc c u
  have e1 : (w.alloc (Obj.cells a s)).heap.size = w.heap.size + 1 := by simp
  have e2 : ((w.alloc (Obj.cells a s)).alloc (Obj.cells b t)).heap.size = w.heap.size + 1 + 1 := by simp
  rw [e1, e2] at h
  exact ⟨h, (((Below.refl w.heap.size w).alloc (Nat.le_refl _) _).alloc (by simp) _).alloc (by simp; omega) _⟩

/-- Two cells of another block are written. -/
theorem hp_set2 {l : List (Nat × Array Value × TypeId)} {W : World} {g : Nat} {o : Obj} (h : Hp l W) (hg : W.heap[g]? = some o) (hne : ∀ p ∈ l, p.1 ≠ g) (a b : Value) : Hp l ((W.setCell ⟨g, 0, none⟩ a).setCell ⟨g, 1, none⟩ b) := fun p hp =>
  blk_other b (blk_other a (h p hp) (hne p hp)) (hne p hp)

theorem fmayq_any (n : ByteArray) (k c : Int) (hn : n.size ≤ 4194304) (w : World) :
    Calls Tryz.prog 32 #[.agg #[.string n, .int .u16 k, .int .u16 c]] w fun e w' => e = .returned (.bool (mayB n)) ∧ Below w.heap.size w w' := by
  go_enter Tryz.func32, Tryz.ntmps32
  go_wp2_with fail
  refine (ref_may n hn _).mono ?_
  rintro e w1 ⟨rfl, hb1⟩
  go_wp2_with fail
  go_ret
  exact ⟨rfl, ((Below.refl _ w).alloc (Nat.le_refl _) _).trans (hb1.mono (by simp))⟩

theorem info49 : (Tryz.prog.info? 94).map (·.size) = some 2 := by kernel_rfl
theorem all2 (x : ByteArray) (A : Option Addr) (m c : Nat) : (#[Value.string x, .slice A m c] : Array Value).all (·.oneCell') = true := by kernel_rfl
/-- What PutQ of the document tells, and its pack. -/
def QpPost (B : Nat) (x : ByteArray) (L : Kn) (r : Rc) (w : World) (e : Ending) (w' : World) : Prop :=
  ∃ A' m' cap', e = .returned (.tuple #[.agg #[.string ⟨(pqS x.data.toList L r).1.toArray⟩, .slice A' m' cap'], .int .i64 (stE r.n)]) ∧ Plc B (.slice A' m' cap') (pqS x.data.toList L r).2 w' ∧ Below w.heap.size w w'

set_option maxRecDepth 100000 in
set_option maxHeartbeats 2000000 in
theorem fputq_any (B : Nat) (x : ByteArray) (v : Value) (L : Kn) (r : Rc) (w : World) (hP : Plc B v L w) (hK : KnOk x.data.toList L) (hx : x.size ≤ 900000) (hB : B ≤ w.heap.size) (hn : r.n.size ≤ 1000) (hr : r.Ok) :
    Calls Tryz.prog 55 #[.agg #[.string x, v], .agg #[.string r.n, .int .u16 (r.k : Nat), .int .u16 (r.c : Nat)]] w fun e w' => QpPost B x L r w e w' := by
  obtain ⟨A, cap, rfl⟩ := hP.form
  obtain ⟨hF, hA⟩ := three_new w #[.string x, .slice A L.length cap] #[.string r.n, .int .u16 (r.k : Nat), .int .u16 (r.c : Nat)] #[.string ⟨#[]⟩, .slice none 0 0] 94 48 94
  have HF := Lib.hid hF
  have HA := Lib.hid hA
  have HP := Lib.hid hP
  have HK := Lib.hid hK
  have HM := Lib.hid (fun w' => fmayq_any r.n r.k r.c (by omega) w')
  obtain ⟨w0, hw0⟩ : ∃ w0, w0 = ((w.alloc (Obj.cells #[.string x, .slice A L.length cap] 94)).alloc (Obj.cells #[.string r.n, .int .u16 (r.k : Nat), .int .u16 (r.c : Nat)] 48)).alloc (Obj.cells #[.string ⟨#[]⟩, .slice none 0 0] 94) := ⟨_, rfl⟩
  rw [← hw0] at HF HA
  have HW0 := Lib.hid hw0
  clear hF hA hP hK hw0
  cases hm : mayB r.n with
  | false =>
    rw [hm] at HM
    have e1 : stE r.n = 1 := by simp [stE, hm]
    have e2 : pqS x.data.toList L r = (x.data.toList, L) := by simp [pqS, hm]
    have HE := Lib.hid (And.intro e1 e2)
    clear e1 e2 hm
    go_enter Tryz.func55, Tryz.ntmps55
    go_upto_region 1 with (fail)
    rw [← HW0.out]
    go_wp2_with (refine wpList_load_row rfl 48 _ rfl (w.heap.size + 1) rfl 48 _ _ _ (HF.out.at 1 rfl) Tryz.underlying48 rfl infoQ ?_)
    refine (HM.out _).mono ?_
    rintro e w1 ⟨rfl, hb1⟩
    have HF1 := Lib.hid (HF.out.call hb1)
    have HA1 := Lib.hid (HA.out.trans (hb1.mono HA.out.size))
    clear hb1
    go_wp2_with (first | (refine wpList_load_row rfl 94 _ rfl w.heap.size rfl 94 _ _ _ (HF1.out.at 2 rfl) Tryz.underlying94 rfl info49 ?_) | (refine wpList_store_row rfl 94 _ _ rfl (w.heap.size + 1 + 1) _ rfl rfl 94 _ (HF1.out.at 0 rfl) info49 rfl (all2 _ _ _ _) ?_))
    refine ret_pack2 (g := w.heap.size + 1 + 1) rfl rfl rfl rfl (setRow_heap _ _ _ _ _ _ (HF1.out.at 0 rfl)) ⟨A, L.length, cap, ?_, ?_, setRow_below HA1.out (by omega) _⟩
    · rw [HE.out.1, HE.out.2]; rfl
    · rw [HE.out.2]
      exact (HP.out.below HA1.out).other (HF1.out.at 0 rfl) (by decide) (cells_of_set (HF1.out.at 0 rfl) _)
  | true =>
    rw [hm] at HM
    have e1 : stE r.n = 0 := by simp [stE, hm]
    have e2 : pqS x.data.toList L r = putQ x.data.toList L r := by simp [pqS, hm]
    have e3 : stp x.data.toList L r.n = put x.data.toList L (labs r.n) := by simp [stp, hm]
    have hgrow : (put x.data.toList L (labs r.n)).1.length ≤ 900000 + 1000 := by
      have := put_len (labs r.n) x.data.toList L (may_name hm).ok
      rw [← (may_name hm).eq, ba_len, ba_len] at this
      omega
    have HE := Lib.hid (And.intro e1 (And.intro e2 (And.intro e3 hgrow)))
    clear e1 e2 e3 hm hgrow
    go_enter Tryz.func55, Tryz.ntmps55
    go_upto_region 1 with (fail)
    rw [← HW0.out]
    go_wp2_with (refine wpList_load_row rfl 48 _ rfl (w.heap.size + 1) rfl 48 _ _ _ (HF.out.at 1 rfl) Tryz.underlying48 rfl infoQ ?_)
    refine (HM.out _).mono ?_
    rintro e w1 ⟨rfl, hb1⟩
    have HF1 := Lib.hid (HF.out.call hb1)
    have HA1 := Lib.hid (HA.out.trans (hb1.mono HA.out.size))
    have c0 : w1.cell? ⟨w.heap.size + 1, 0, none⟩ = some (.string r.n) := blk_cell (HF1.out.at 1 rfl) 0
    clear hb1 HF HA HM HW0
    go_wp2_with (refine wpList_load_row rfl 94 _ rfl w.heap.size rfl 94 _ _ _ (HF1.out.at 2 rfl) Tryz.underlying94 rfl info49 ?_)
    refine (rname_any B x r.n _ L _ (HP.out.below HA1.out) HK.out (by omega) (by omega) (Nat.le_trans hB HA1.out.size)).mono ?_
    rintro e w2 ⟨A', m', cap', rfl, hP2, hb2⟩
    rw [HE.out.2.2.1] at hP2 ⊢
    rw [HE.out.1]
    obtain ⟨Y, hY⟩ : ∃ Y : ByteArray, Y = ⟨(put x.data.toList L (labs r.n)).1.toArray⟩ := ⟨_, rfl⟩
    rw [← hY]
    have hYs : Y.size ≤ 901000 := by rw [hY, mk_size]; exact HE.out.2.2.2
    have HF2 := Lib.hid ((HF1.out.call hb2).alloc #[.string Y, .slice A' m' cap'] 94)
    have HLt := Lib.hid (heap_lt ((HF1.out.call hb2).at 0 rfl))
    have hbx := HA1.out.trans (hb2.mono HA1.out.size)
    have HA2 := Lib.hid (hbx.alloc hbx.size (Obj.cells #[.string Y, .slice A' m' cap'] 94))
    have HP2 := Lib.hid (hP2.below ((Below.refl w2.heap.size w2).alloc (Nat.le_refl _) (Obj.cells #[.string Y, .slice A' m' cap'] 94)))
    obtain ⟨w3, hw3⟩ : ∃ w3, w3 = w2.alloc (Obj.cells #[.string Y, .slice A' m' cap'] 94) := ⟨_, rfl⟩
    rw [← hw3] at HF2 HA2 HP2
    have HW3 := Lib.hid hw3
    have HY := Lib.hid hY
    clear hb2 hP2 hbx hw3 hY c0 HF1 HA1
    go_upto_region 4 with (fail)
    rw [← HW3.out]
    clear HW3
    obtain ⟨Kb, hKb⟩ : ∃ Kb, Kb = Oc.bstr (r.k : Nat) 2 := ⟨_, rfl⟩
    obtain ⟨Cb, hCb⟩ : ∃ Cb, Cb = Oc.bstr (r.c : Nat) 2 := ⟨_, rfl⟩
    have zK : Kb.size = 2 := by rw [hKb, Oc.bstr_size]
    have zC : Cb.size = 2 := by rw [hCb, Oc.bstr_size]
    have HKp := Lib.hid (show ∀ w', Calls Tryz.prog 84 #[.int .u16 (r.k : Nat)] w' (fun e w'' => e = .returned (.string Kb) ∧ Below w'.heap.size w' w'') from fun w' => by rw [hKb]; exact Oc.rput16 (r.k : Nat) w' (by omega) (by have := hr.k; omega))
    have HCp := Lib.hid (show ∀ w', Calls Tryz.prog 84 #[.int .u16 (r.c : Nat)] w' (fun e w'' => e = .returned (.string Cb) ∧ Below w'.heap.size w' w'') from fun w' => by rw [hCb]; exact Oc.rput16 (r.c : Nat) w' (by omega) (by have := hr.c; omega))
    have hcat : ¬ 9223372036854775807 < Kb.size + Cb.size := by omega
    have HKC := Lib.hid (And.intro hKb hCb)
    have HAd := Lib.hid (show ∀ w', Calls Tryz.prog 86 #[.agg #[.string Y, .slice A' m' cap'], .string (Kb ++ Cb)] w' (fun e w'' => e = .returned (.agg #[.string (Y ++ (Kb ++ Cb)), .slice A' m' cap']) ∧ Below w'.heap.size w' w'') from fun w' => radd_any Y (Kb ++ Cb) _ A' m' cap' rfl (by rw [ByteArray.size_append]; omega) w')
    have HRk := Lib.hid hr
    clear hKb hCb zK zC hYs hx hn HK HP hr
    have HR := Lib.hid (show w3.drew.heap[w.heap.size + 1 + 1]? = some (.cells #[.string ⟨#[]⟩, .slice none 0 0] 94 (0, 0)) from HF2.out.at 1 rfl)
    have HF := Lib.hid (show Hp [(w2.heap.size, #[.string Y, .slice A' m' cap'], 94), (w.heap.size + 1, #[.string r.n, .int .u16 (r.k : Nat), .int .u16 (r.c : Nat)], 48)] w3.drew from fun p hp => by
      rcases List.mem_cons.1 hp with rfl | hp
      · exact HF2.out.at 0 rfl
      · rcases List.mem_cons.1 hp with rfl | hp
        · exact HF2.out.at 2 rfl
        · cases hp)
    have HA := Lib.hid HA2.out.drew
    have HB := Lib.hid (show Below w3.heap.size w3 w3.drew from (Below.refl _ w3).drew)
    have HNe := Lib.hid (show ∀ p ∈ ([(w2.heap.size, #[.string Y, .slice A' m' cap'], 94), (w.heap.size + 1, #[.string r.n, .int .u16 (r.k : Nat), .int .u16 (r.c : Nat)], 48)] : List (Nat × Array Value × TypeId)), p.1 ≠ w.heap.size + 1 + 1 from fun p hp => by
      rcases List.mem_cons.1 hp with rfl | hp
      · simp only; have := HLt.out; omega
      · rcases List.mem_cons.1 hp with rfl | hp
        · simp only; omega
        · cases hp)
    clear HF2 HA2
    refine wp_region_held_drew (S := fun w' => Hp [(w2.heap.size, #[.string Y, .slice A' m' cap'], 94), (w.heap.size + 1, #[.string r.n, .int .u16 (r.k : Nat), .int .u16 (r.c : Nat)], 48)] w') (by kernel_rfl) HF.out (fun hHeld => ?_)
    refine wpAnyH_take (i := 0) (v := (.agg #[.string Y, .slice A' m' cap'])) rfl (by kernel_rfl) (by kernel_rfl) (by kernel_rfl) (fun _ _ _ h => h) (Or.inl ⟨by rfl, ?_⟩) (by assumption) ?_
    · (intro wq hSw; have e0 : wq.cell? ⟨w2.heap.size, 0, none⟩ = some (.string Y) := blk_cell (hSw.at 0 rfl) 0; have e1 : wq.cell? ⟨w2.heap.size, 1, none⟩ = some (.slice A' m' cap') := blk_cell (hSw.at 0 rfl) 1; go_simp)
    simp only [Act.put, List.getElem_toArray, List.getElem_cons_zero, List.setIfInBounds_toArray, List.set_cons_zero, List.set_cons_succ]
    refine wpAnyH_take (i := 1) (v := ?_) rfl (by kernel_rfl) (by kernel_rfl) (by kernel_rfl) (fun _ _ _ h => h) (Or.inl ⟨by rfl, ?_⟩) (by assumption) ?_
    rotate_left
    · (intro wq hSw; go_simp; try (with_reducible rfl))
    simp only [Act.put, List.getElem_toArray, List.getElem_cons_zero, List.getElem_cons_succ, List.setIfInBounds_toArray, List.set_cons_zero, List.set_cons_succ]
    refine wpAnyH_take (i := 2) (v := (.int .u16 (r.k : Nat))) rfl (by kernel_rfl) (by kernel_rfl) (by kernel_rfl) (fun _ _ _ h => h) (Or.inl ⟨by rfl, ?_⟩) (by assumption) ?_
    · (intro wq hSw; have e0 : wq.cell? ⟨w.heap.size + 1, 1, none⟩ = some (.int .u16 (r.k : Nat)) := blk_cell (hSw.at 1 rfl) 1; go_simp)
    simp only [Act.put, List.getElem_toArray, List.getElem_cons_zero, List.getElem_cons_succ, List.setIfInBounds_toArray, List.set_cons_zero, List.set_cons_succ]
    refine wpAnyH_take (i := 4) (v := ?_) rfl (by kernel_rfl) (by kernel_rfl) (by kernel_rfl) (fun _ _ _ h => h) (Or.inl ⟨by rfl, ?_⟩) (by assumption) ?_
    rotate_left
    · (intro wq hSw; go_simp; try (with_reducible rfl))
    simp only [Act.put, List.getElem_toArray, List.getElem_cons_zero, List.getElem_cons_succ, List.setIfInBounds_toArray, List.set_cons_zero, List.set_cons_succ]
    refine wpAnyH_take (i := 5) (v := (.int .u16 (r.c : Nat))) rfl (by kernel_rfl) (by kernel_rfl) (by kernel_rfl) (fun _ _ _ h => h) (Or.inl ⟨by rfl, ?_⟩) (by assumption) ?_
    · (intro wq hSw; have e0 : wq.cell? ⟨w.heap.size + 1, 2, none⟩ = some (.int .u16 (r.c : Nat)) := blk_cell (hSw.at 1 rfl) 2; go_simp)
    simp only [Act.put, List.getElem_toArray, List.getElem_cons_zero, List.getElem_cons_succ, List.setIfInBounds_toArray, List.set_cons_zero, List.set_cons_succ]
    refine wpAnyH_ready (rs := [3]) (by kernel_rfl) (by simp) ?_
    refine AllReadyH.cons rfl (fun K hK => ?_) AllReadyH.nil
    go_simp
    go_wp2_with (go_at_call 84; refine Calls.mono (HKp.out _) ?_; rintro e v1 ⟨rfl, hb⟩)
    have HFn := Lib.hid (HF.out.call hb)
    have HAn := Lib.hid (HA.out.trans (hb.mono HA.out.size))
    have HBn := Lib.hid (HB.out.trans (hb.mono HB.out.size))
    have HRn := Lib.hid ((hb.block _ (heap_lt HR.out)).trans HR.out)
    clear HF HA HB HR hb hHeld
    have HF := HFn
    have HA := HAn
    have HB := HBn
    have HR := HRn
    clear HFn HAn HBn HRn
    refine hK.out _ _ HF.out (fun hHeld => ?_)
    clear hK K
    refine wpAnyH_ready (rs := [6]) (by kernel_rfl) (by simp) ?_
    refine AllReadyH.cons rfl (fun K hK => ?_) AllReadyH.nil
    go_simp
    go_wp2_with (go_at_call 84; refine Calls.mono (HCp.out _) ?_; rintro e v2 ⟨rfl, hb⟩)
    have HFn := Lib.hid (HF.out.call hb)
    have HAn := Lib.hid (HA.out.trans (hb.mono HA.out.size))
    have HBn := Lib.hid (HB.out.trans (hb.mono HB.out.size))
    have HRn := Lib.hid ((hb.block _ (heap_lt HR.out)).trans HR.out)
    clear HF HA HB HR hb hHeld
    have HF := HFn
    have HA := HAn
    have HB := HBn
    have HR := HRn
    clear HFn HAn HBn HRn
    refine hK.out _ _ HF.out (fun hHeld => ?_)
    clear hK K
    refine wpAnyH_take (i := 7) (v := ?_) rfl (by kernel_rfl) (by kernel_rfl) (by kernel_rfl) (fun _ _ _ h => h) (Or.inl ⟨by rfl, ?_⟩) (by assumption) ?_
    rotate_left
    · (intro wq hSw; go_simp; try (with_reducible rfl))
    simp only [Act.put, List.getElem_toArray, List.getElem_cons_zero, List.getElem_cons_succ, List.setIfInBounds_toArray, List.set_cons_zero, List.set_cons_succ]
    refine wpAnyH_ready (rs := [8]) (by kernel_rfl) (by simp) ?_
    refine AllReadyH.cons rfl (fun K hK => ?_) AllReadyH.nil
    go_simp
    go_wp2_with (go_at_call 86; refine Calls.mono (HAd.out _) ?_; rintro e v3 ⟨rfl, hb⟩)
    have HFn := Lib.hid (HF.out.call hb)
    have HAn := Lib.hid (HA.out.trans (hb.mono HA.out.size))
    have HBn := Lib.hid (HB.out.trans (hb.mono HB.out.size))
    have HRn := Lib.hid ((hb.block _ (heap_lt HR.out)).trans HR.out)
    clear HF HA HB HR hb hHeld
    have HF := HFn
    have HA := HAn
    have HB := HBn
    have HR := HRn
    clear HFn HAn HBn HRn
    refine hK.out _ _ HF.out (fun hHeld => ?_)
    clear hK K
    have z0 : v3.cell? ⟨w.heap.size + 1 + 1, 0, none⟩ = some (.string ⟨#[]⟩) := blk_cell HR.out 0
    have z1 : v3.cell? ⟨w.heap.size + 1 + 1, 1, none⟩ = some (.slice none 0 0) := blk_cell HR.out 1
    have f0 := blk_frozen HR.out 0
    have f1 := blk_frozen HR.out 1
    have HT := Lib.hid (hp_set2 HF.out HR.out (HNe.out) (.string (Y ++ (Kb ++ Cb))) (.slice A' m' cap'))
    refine wpAnyH_ready (rs := [9]) (by kernel_rfl) (by simp) ?_
    refine AllReadyH.cons rfl (fun K hK => ?_) AllReadyH.nil
    go_simp
    refine hK.out _ _ HT.out (fun hHeld => ?_)
    clear hK K
    refine wpAnyH_take (i := 10) (v := ?_) rfl (by kernel_rfl) (by kernel_rfl) (by kernel_rfl) (fun _ _ _ h => h) (Or.inl ⟨by rfl, ?_⟩) (by assumption) ?_
    rotate_left
    · (intro wq hSw; go_simp; try (with_reducible rfl))
    simp only [Act.put, List.getElem_toArray, List.getElem_cons_zero, List.getElem_cons_succ, List.setIfInBounds_toArray, List.set_cons_zero, List.set_cons_succ]
    refine wpAnyH_done (by kernel_rfl) ?_ _
    go_wp2_with fail
    have s1 := blk_set HR.out 0 (.string (Y ++ (Kb ++ Cb)))
    have s2 := blk_set s1 1 (.slice A' m' cap')
    have g1 := grown_set v3 ⟨w.heap.size + 1 + 1, 0, none⟩ (.string (Y ++ (Kb ++ Cb)))
    have g2 := grown_set (v3.setCell ⟨w.heap.size + 1 + 1, 0, none⟩ (.string (Y ++ (Kb ++ Cb)))) ⟨w.heap.size + 1 + 1, 1, none⟩ (.slice A' m' cap')
    have hY2 : (⟨(putQ x.data.toList L r).1.toArray⟩ : ByteArray) = Y ++ (Kb ++ Cb) := by
      apply ba_ext
      rw [HY.out, HKC.out.1, HKC.out.2]
      simp only [ByteArray.data_append, Array.toList_append, bstr16 HRk.out.k, bstr16 HRk.out.c]
      rfl
    refine ret_pack2 (g := w.heap.size + 1 + 1) rfl rfl rfl rfl s2 ⟨A', m', cap', ?_, ?_, ?_⟩
    · rw [HE.out.1, HE.out.2.1, hY2]; rfl
    · rw [HE.out.2.1]
      exact ((HP2.out.below HB.out).other HR.out (by decide) g1).other s1 (by decide) g2
    · exact (HA.out.setCell (p := ⟨w.heap.size + 1 + 1, 0, none⟩) (show w.heap.size ≤ w.heap.size + 1 + 1 by omega) _).setCell (p := ⟨w.heap.size + 1 + 1, 1, none⟩) (show w.heap.size ≤ w.heap.size + 1 + 1 by omega) _
end Go.Proofs.YtnakljbginbenaaGreatDoor
