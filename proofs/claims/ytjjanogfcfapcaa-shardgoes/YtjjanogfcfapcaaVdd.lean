/- The contract of derrickref12.New (written by tools/gen_vdd.py). -/
import Derived.Test.YtjjanogfcfapcaaVdc
namespace Go.Proofs.Ytjjanogfcfapcaa.D
open Go.RowKit
set_option linter.unusedVariables false

def zE (j : Nat) : List Value := xsV (List.replicate j Z0)
theorem zE_snoc (j : Nat) : zE j ++ [Value.string ⟨#[]⟩, .int .u16 0, .int .u16 0, .slice none 0 0, .int .i64 0, .int .i64 0, .int .u64 0] = zE (j + 1) := by
  unfold zE xsV
  rw [List.replicate_succ', List.flatMap_append]
  rfl
theorem newE (W : World) (e : TypeId) (L : List Value) : ∀ j x, L[j]? = some x → (W.alloc (.cells L.toArray e)).cell? ((⟨W.heap.size, 0, none⟩ : Addr).add j) = some x := fun j x hj => by
  have h := heap_alloc_new W (Obj.cells L.toArray e)
  rw [Addr.add_lit, Nat.zero_add, blk_cell h j, ← hj]
  simp

set_option maxRecDepth 100000 in
set_option maxHeartbeats 2000000 in
theorem rnew_any (n : Nat) (h1 : 1 ≤ n) (h2 : n ≤ 64) (w : World) : Calls Try.prog 11 #[.int .i64 (n : Nat)] w fun e w' => ∃ d, e = .returned (dV d (newM n : Ms Ev)) ∧ Dw w.heap.size w' d (newM n : Ms Ev).c ∧ Below w.heap.size w w' := by
  obtain ⟨i1, hi1, hz1, hs1, hy1⟩ := el_of elT
  obtain ⟨i2, hi2, hz2, hs2, hy2⟩ := el_of elB
  have ex : xsV (newM n : Ms Ev).c = zE n := rfl
  have eu : usV (newM n : Ms Ev).c = List.replicate n (.bool false) := by simp [usV, newM, Z0]
  have et : tsV (newM n : Ms Ev).c = List.replicate n (.bool false) := by simp [tsV, newM, Z0]
  have el : (newM n : Ms Ev).c.length = n := by simp [newM]
  have HE := Lib.hid (And.intro ex (And.intro eu (And.intro et el)))
  have hb1 := (Below.refl w.heap.size w).alloc (Nat.le_refl _) (Obj.cells zD 29)
  have hb2 := hb1.alloc hb1.size (Obj.cells zD 29)
  have hr := Blk.new w 29 zD
  have hp := Blk.new (w.alloc (Obj.cells zD 29)) 29 zD
  have es : (w.alloc (Obj.cells zD 29)).heap.size = w.heap.size + 1 := by simp
  rw [es] at hp
  have hr2 := hr.eq (Below.heap_alloc (w.alloc (Obj.cells zD 29)) (Obj.cells zD 29) w.heap.size (by rw [es]; omega))
  have HT := Lib.hid (show Tri w.heap.size (w.heap.size + 1) w.heap.size zD ((w.alloc (Obj.cells zD 29)).alloc (Obj.cells zD 29)) 0 (.slice none 0 0) (.slice none 0 0) (.slice none 0 0) 0 0 0 [] [] [] from ⟨hp, hr2, by omega, World.ownsRow_nil _ _ _ _, World.ownsRow_nil _ _ _ _, World.ownsRow_nil _ _ _ _, fun g h => by cases h⟩)
  have HB := Lib.hid hb2
  clear ex eu et el hb1 hb2 hr hp es hr2
  unfold zD at HT HB
  go_enter Try.func11, Try.ntmps11
  go_upto_region 2 with (fail)
  generalize (w.alloc (Obj.cells #[Value.slice none 0 0, .slice none 0 0, .slice none 0 0, .int .i64 0] 29)).alloc (Obj.cells #[Value.slice none 0 0, .slice none 0 0, .slice none 0 0, .int .i64 0] 29) = w1 at *
  go_wp2_with fail
  go_loopw [4] (fun x wr => ∃ (j : Nat) (AX : Option Addr) (cX : Nat) (AU : Option Addr) (cU : Nat) (AT : Option Addr) (cT : Nat), j ≤ n ∧ x = .int .i64 j ∧ Tri w.heap.size (w.heap.size + 1) w.heap.size #[.slice none 0 0, .slice none 0 0, .slice none 0 0, .int .i64 0] wr 0 (.slice AX j cX) (.slice AU j cU) (.slice AT j cT) j j j (zE j) (List.replicate j (.bool false)) (List.replicate j (.bool false)) ∧ Below w.heap.size w wr) (fun x _ => n - (intOf x).toNat)
  case atStart => exact ⟨0, none, 0, none, 0, none, 0, Nat.zero_le _, rfl, HT.out, HB.out⟩
  case round =>
    clear HT HB
    obtain ⟨j, AX, cX, AU, cU, AT, cT, hj, rfl, hT, hbel⟩ := hrel
    by_cases hlt : j < n
    · have d1 : decide ((j : Int) < n) = true := by simp; omega
      obtain ⟨wr0, ew0⟩ : ∃ wr0 : World, wr0 = wr := ⟨_, rfl⟩
      rw [← ew0] at hT hbel ⊢
      clear ew0
      -- the row X
      have hTa := hT.keep ((Below.refl wr0.heap.size wr0).alloc (Nat.le_refl _) (Obj.cells #[Value.string ⟨#[]⟩, .int .u16 0, .int .u16 0, .slice none 0 0, .int .i64 0, .int .i64 0, .int .u64 0] 39))
      have hba := hbel.alloc hbel.size (Obj.cells #[Value.string ⟨#[]⟩, .int .u16 0, .int .u16 0, .slice none 0 0, .int .i64 0, .int .i64 0, .int .u64 0] 39)
      have c0 := hT.bp.cell 0
      simp only [List.getElem?_toArray, List.getElem?_cons_zero] at c0
      have HTa := Lib.hid hTa
      have HBa := Lib.hid hba
      clear hT hTa hbel hba
      go_wp2_with (at_builtin; refine wpList_append_lies _ rfl _ _ 26 rfl w.heap.size 39 i1 (evV default) 7 72 Try.underlying26 hi1 hz1 hs1 hy1 rfl (by decide) _ _ _ rfl HTa.out.ox ⟨wr0.heap.size, 0, none⟩ 1 1 [Value.string ⟨#[]⟩, .int .u16 0, .int .u16 0, .slice none 0 0, .int .i64 0, .int .i64 0, .int .u64 0] rfl rfl (newE wr0 39 _) ?q1 (by omega) ?q2 ?q3 HBa.out.size (wr0.heap.size + 1) (by simp) ?_)
      case q1 => exact fun u hu => Array.all_eq_true_iff_forall_mem.1 (evL_one default) u (List.mem_toArray.2 (show u ∈ evL default from hu))
      case q2 => unfold maxLen; omega
      case q3 => omega
      intro g0 cap0 w3 hown hgr hat hlt3
      have hP3 := HTa.out.bpG hgr HTa.out.px
      have z0 := hP3.cell 0
      have f0 := hP3.frozen 0
      simp only [List.getElem?_toArray, List.getElem?_cons_zero] at z0
      rw [zE_snoc] at hown
      have hat2 : _ ∨ g0 = (wr0.alloc (Obj.cells #[Value.string ⟨#[]⟩, .int .u16 0, .int .u16 0, .slice none 0 0, .int .i64 0, .int .i64 0, .int .u64 0] 39)).heap.size := hat.imp id (fun e => by rw [e]; simp)
      have hT := HTa.out.setX hgr hown
      have hbel := (HBa.out.grown hgr HBa.out.size (fun q hq => (HTa.out.ox.lt q hq).1)).setCell (p := ⟨w.heap.size + 1, 0, none⟩) (by simp) (.slice (some ⟨g0, 0, none⟩) (j + 1) cap0)
      have HT3 := Lib.hid (And.intro hT hbel)
      clear hP3 hown hgr hat hat2 hlt3 hT hbel c0 HTa HBa
      go_upto_region 6 with (fail)
      obtain ⟨hT, hbel⟩ := HT3.out
      generalize w3.setCell ⟨w.heap.size + 1, 0, none⟩ (.slice (some ⟨g0, 0, none⟩) (j + 1) cap0) = wr1 at *
      clear HT3
      clear z0 f0
      -- the row U
      have hTa := hT.keep ((Below.refl wr1.heap.size wr1).alloc (Nat.le_refl _) (Obj.cells #[Value.bool false] 4))
      have hba := hbel.alloc hbel.size (Obj.cells #[Value.bool false] 4)
      have c1 := hT.bp.cell 1
      simp only [List.getElem?_toArray, List.getElem?_cons_zero, List.getElem?_cons_succ] at c1
      have HTa := Lib.hid hTa
      have HBa := Lib.hid hba
      clear hT hTa hbel hba
      go_wp2_with (at_builtin; refine wpList_append_lies _ rfl _ _ 27 rfl w.heap.size 4 i2 (Value.bool false) 1 1 Try.underlying27 hi2 hz2 hs2 hy2 rfl (by decide) _ _ _ rfl HTa.out.ou ⟨wr1.heap.size, 0, none⟩ 1 1 [Value.bool false] rfl rfl (newV wr1 4 _) ?q1 (by omega) ?q2 ?q3 HBa.out.size (wr1.heap.size + 1) (by simp) ?_)
      case q1 => intro u hu; simp at hu; subst hu; rfl
      case q2 => unfold maxLen; omega
      case q3 => omega
      intro g1 cap1 w3 hown hgr hat hlt3
      have hP3 := HTa.out.bpG hgr HTa.out.pu
      have z1 := hP3.cell 1
      have f1 := hP3.frozen 1
      simp only [List.getElem?_toArray, List.getElem?_cons_zero, List.getElem?_cons_succ] at z1
      rw [rep_snoc] at hown
      have hat2 : _ ∨ g1 = (wr1.alloc (Obj.cells #[Value.bool false] 4)).heap.size := hat.imp id (fun e => by rw [e]; simp)
      have hT := HTa.out.setU hgr hown hat2
      have hbel := (HBa.out.grown hgr HBa.out.size (fun q hq => (HTa.out.ou.lt q hq).1)).setCell (p := ⟨w.heap.size + 1, 1, none⟩) (by simp) (.slice (some ⟨g1, 0, none⟩) (j + 1) cap1)
      have HT3 := Lib.hid (And.intro hT hbel)
      clear hP3 hown hgr hat hat2 hlt3 hT hbel c1 HTa HBa
      go_upto_region 7 with (fail)
      obtain ⟨hT, hbel⟩ := HT3.out
      generalize w3.setCell ⟨w.heap.size + 1, 1, none⟩ (.slice (some ⟨g1, 0, none⟩) (j + 1) cap1) = wr2 at *
      clear HT3
      clear z1 f1
      -- the row T
      have hTa := hT.keep ((Below.refl wr2.heap.size wr2).alloc (Nat.le_refl _) (Obj.cells #[Value.bool false] 4))
      have hba := hbel.alloc hbel.size (Obj.cells #[Value.bool false] 4)
      have c2 := hT.bp.cell 2
      simp only [List.getElem?_toArray, List.getElem?_cons_zero, List.getElem?_cons_succ] at c2
      have HTa := Lib.hid hTa
      have HBa := Lib.hid hba
      clear hT hTa hbel hba
      go_wp2_with (at_builtin; refine wpList_append_lies _ rfl _ _ 27 rfl w.heap.size 4 i2 (Value.bool false) 1 1 Try.underlying27 hi2 hz2 hs2 hy2 rfl (by decide) _ _ _ rfl HTa.out.ot ⟨wr2.heap.size, 0, none⟩ 1 1 [Value.bool false] rfl rfl (newV wr2 4 _) ?q1 (by omega) ?q2 ?q3 HBa.out.size (wr2.heap.size + 1) (by simp) ?_)
      case q1 => intro u hu; simp at hu; subst hu; rfl
      case q2 => unfold maxLen; omega
      case q3 => omega
      intro g2 cap2 w3 hown hgr hat hlt3
      have hP3 := HTa.out.bpG hgr HTa.out.pt
      have z2 := hP3.cell 2
      have f2 := hP3.frozen 2
      simp only [List.getElem?_toArray, List.getElem?_cons_zero, List.getElem?_cons_succ] at z2
      rw [rep_snoc] at hown
      have hat2 : _ ∨ g2 = (wr2.alloc (Obj.cells #[Value.bool false] 4)).heap.size := hat.imp id (fun e => by rw [e]; simp)
      have hT := HTa.out.setT hgr hown hat2
      have hbel := (HBa.out.grown hgr HBa.out.size (fun q hq => (HTa.out.ot.lt q hq).1)).setCell (p := ⟨w.heap.size + 1, 2, none⟩) (by simp) (.slice (some ⟨g2, 0, none⟩) (j + 1) cap2)
      have HT3 := Lib.hid (And.intro hT hbel)
      clear hP3 hown hgr hat hat2 hlt3 hT hbel c2 HTa HBa
      go_wp2_with fail
      go_roundw
      case rel => exact ⟨j + 1, _, _, _, _, _, _, hlt, by go_num, HT3.out.1, HT3.out.2⟩
      case measure => simp [intOf]; omega
    · obtain rfl : j = n := by omega
      have d1 : decide ((j : Int) < j) = false := by simp
      obtain ⟨gx, rfl, _⟩ := own_block hT.ox (by omega)
      obtain ⟨gu, rfl, _⟩ := own_block hT.ou (by omega)
      obtain ⟨gt, rfl, _⟩ := own_block hT.ot (by omega)
      obtain ⟨q1, q2, q3, q4⟩ := HE.out
      have hT2 : Tri w.heap.size (w.heap.size + 1) w.heap.size #[.slice none 0 0, .slice none 0 0, .slice none 0 0, .int .i64 0] wr 0 (.slice (some ⟨gx, 0, none⟩) (newM j : Ms Ev).c.length cX) (.slice (some ⟨gu, 0, none⟩) (newM j : Ms Ev).c.length cU) (.slice (some ⟨gt, 0, none⟩) (newM j : Ms Ev).c.length cT) (newM j : Ms Ev).c.length (newM j : Ms Ev).c.length (newM j : Ms Ev).c.length (xsV (newM j : Ms Ev).c) (usV (newM j : Ms Ev).c) (tsV (newM j : Ms Ev).c) := by rw [q1, q2, q3, q4]; exact hT
      have hD := hT2.dw.setRow hT.br (cs := #[.slice (some ⟨gx, 0, none⟩) j cX, .slice (some ⟨gu, 0, none⟩) j cU, .slice (some ⟨gt, 0, none⟩) j cT, .int .i64 0])
      have hbz := setRow_below hbel (Nat.le_refl _) #[.slice (some ⟨gx, 0, none⟩) j cX, .slice (some ⟨gu, 0, none⟩) j cU, .slice (some ⟨gt, 0, none⟩) j cT, .int .i64 0]
      have hv : Value.agg #[.slice (some ⟨gx, 0, none⟩) j cX, .slice (some ⟨gu, 0, none⟩) j cU, .slice (some ⟨gt, 0, none⟩) j cT, .int .i64 0] = dV ⟨gx, cX, gu, cU, gt, cT⟩ (newM j : Ms Ev) := by rw [dV_eq, q4]; rfl
      have HF := Lib.hid (And.intro hD (And.intro hbz hv))
      have HP := Lib.hid hT.bp
      have HR := Lib.hid hT.br
      clear hT hT2 hD hbz hv hbel q1 q2 q3 q4
      go_wp2_with (first | (refine wpList_load_row rfl 29 _ rfl (w.heap.size + 1) rfl 29 _ _ _ HP.out Try.underlying29 rfl infoD ?_) | (refine wpList_store_row rfl 29 _ _ rfl w.heap.size _ rfl rfl 29 _ HR.out infoD rfl (all4 _ _ _ _ _ _ _ _) ?_))
      refine ret_d rfl rfl rfl (setRow_heap _ _ _ _ _ _ HR.out) ⟨⟨gx, cX, gu, cU, gt, cT⟩, ?_, HF.out.1, HF.out.2.1⟩
      rw [← HF.out.2.2]
      rfl
end Go.Proofs.Ytjjanogfcfapcaa.D
