/- The contracts of derrickref06.put, derrickref06.Bytes and derrickref06.Put. -/
import Derived.Test.YtnakljbginbenaaGreatDoorNra
import Derived.Test.YtnakljbginbenaaGreatDoorNrb
import Derived.Test.YtnakljbginbenaaGreatDoorMmh
import Derived.Deep.RegionHeld
namespace Go.Proofs.YtnakljbginbenaaGreatDoor
open Go.RowKit
set_option linter.unusedVariables false

theorem knOk_putD {S : List UInt8} {L : Kn} (hK : KnOk S L) (k : Nat) (d : ByteArray) : KnOk (putD S L k d).1 (putD S L k d).2 := by
  unfold putD
  split
  · exact knOk_put _ _ _ hK
  split
  · exact knOk_put _ _ _ (hK.more _)
  split
  · exact (knOk_put _ _ _ (knOk_put _ _ _ hK)).more _
  · exact hK.more _
theorem knOk_putQ {S : List UInt8} {L : Kn} (hK : KnOk S L) (r : Rc) : KnOk (putQ S L r).1 (putQ S L r).2 := (knOk_put (labs r.n) S L hK).more _
theorem knOk_putR {S : List UInt8} {L : Kn} (hG : Good S L) (hK : KnOk S L) {r : Rc} (hm : mayR r = true) : KnOk (putR S L r).1 (putR S L r).2 := by
  obtain ⟨W, L', u1, u2, u3, u4, _⟩ := putR_form hG hm
  have h : KnOk (dtR S L r).1 (dtR S L r).2 := knOk_putD (((knOk_putQ hK r).more (b32 r.t)).more [0, 0]) r.k r.d
  rw [u3] at h
  rw [u4]
  refine ⟨h.1, ?_⟩
  have h2 := h.2
  simp only [List.length_append, b16_len, List.length_cons, List.length_nil] at h2 ⊢
  omega
theorem rsF_kn : ∀ (l : List Rc) (X : List UInt8 × Kn), Good X.1 X.2 → KnOk X.1 X.2 → (∀ r ∈ l, mayR r = true ∧ r.d.size ≤ 300) → KnOk (rsF X l).1 (rsF X l).2 ∧ Good (rsF X l).1 (rsF X l).2 ∧ (rsF X l).1.length ≤ X.1.length + 565 * l.length
  | [], X, hG, hK, _ => ⟨hK, hG, by simp [rsF]⟩
  | r :: l, X, hG, hK, h => by
    obtain ⟨h1, h2⟩ := h r (List.mem_cons_self ..)
    obtain ⟨⟨Y, y1, y2⟩, g⟩ := putR_good hG h1
    obtain ⟨i1, i2, i3⟩ := rsF_kn l (putR X.1 X.2 r) g (knOk_putR hG hK h1) (fun r' hr' => h r' (List.mem_cons_of_mem _ hr'))
    rw [rsF_cons]
    refine ⟨i1, i2, ?_⟩
    rw [y1, List.length_append] at i3
    rw [List.length_cons]
    omega
theorem qsF_kn : ∀ (l : List Rc) (X : List UInt8 × Kn), Good X.1 X.2 → KnOk X.1 X.2 → (∀ r ∈ l, mayB r.n = true) → KnOk (qsF X l).1 (qsF X l).2 ∧ Good (qsF X l).1 (qsF X l).2 ∧ (qsF X l).1.length ≤ X.1.length + 259 * l.length
  | [], X, hG, hK, _ => ⟨hK, hG, by simp [qsF]⟩
  | r :: l, X, hG, hK, h => by
    have h1 := h r (List.mem_cons_self ..)
    obtain ⟨⟨Y, y1, y2⟩, g⟩ := putQ_good hG h1
    obtain ⟨i1, i2, i3⟩ := qsF_kn l (putQ X.1 X.2 r) g (knOk_putQ hK r) (fun r' hr' => h r' (List.mem_cons_of_mem _ hr'))
    rw [qsF_cons]
    refine ⟨i1, i2, ?_⟩
    rw [y1, List.length_append] at i3
    rw [List.length_cons]
    omega

/-- What stands behind 'next, _ := derrickref05.Put(..)'. -/
def NxR (B : Nat) (N : List UInt8 × Kn) (wr : World) (t : Value) (wx : World) : Prop :=
  ∃ (y : Nat) (A' : Option Addr) (m' c' : Nat), t = .pointer (some ⟨y, 0, none⟩) ∧ wr.heap.size ≤ y ∧ wx.heap[y]? = some (.cells #[.string ⟨N.1.toArray⟩, .slice A' m' c'] 94 (0, 0)) ∧ Plc B (.slice A' m' c') N.2 wx ∧ Below wr.heap.size wr wx
theorem nrA {B : Nat} {N : List UInt8 × Kn} {wr w7 : World} {A' : Option Addr} {m' c' : Nat} (hb : Below wr.heap.size wr w7) (hP : Plc B (.slice A' m' c') N.2 w7) :
    NxR B N wr (.pointer (some ⟨w7.heap.size, 0, none⟩)) (w7.alloc (.cells #[.string ⟨N.1.toArray⟩, .slice A' m' c'] 94)) := by
  have ha : Below w7.heap.size w7 (w7.alloc (.cells #[.string ⟨N.1.toArray⟩, .slice A' m' c'] 94)) := (Below.refl _ w7).alloc (Nat.le_refl _) _
  exact ⟨w7.heap.size, A', m', c', rfl, hb.size, heap_alloc_new w7 _, hP.below ha, hb.trans (ha.mono hb.size)⟩
theorem nrB {B : Nat} {N : List UInt8 × Kn} {wr w7 : World} {A' : Option Addr} {m' c' : Nat} (hb : Below wr.heap.size wr w7) (hP : Plc B (.slice A' m' c') N.2 w7)
    (hz : w7.heap[wr.heap.size]? = some (.cells #[Value.string ⟨#[]⟩, .slice none 0 0] 94 (0, 0))) :
    NxR B N wr (.pointer (some ⟨wr.heap.size, 0, none⟩)) ((w7.setCell ⟨wr.heap.size, 0, none⟩ (.string ⟨N.1.toArray⟩)).setCell ⟨wr.heap.size, 1, none⟩ (.slice A' m' c')) := by
  have s1 := blk_set hz 0 (.string ⟨N.1.toArray⟩)
  have s2 := blk_set s1 1 (.slice A' m' c')
  have g1 := grown_set w7 ⟨wr.heap.size, 0, none⟩ (.string ⟨N.1.toArray⟩)
  have g2 := grown_set (w7.setCell ⟨wr.heap.size, 0, none⟩ (.string ⟨N.1.toArray⟩)) ⟨wr.heap.size, 1, none⟩ (.slice A' m' c')
  exact ⟨wr.heap.size, A', m', c', rfl, Nat.le_refl _, s2, (hP.other hz (by decide) g1).other s1 (by decide) g2, (hb.setCell (p := ⟨wr.heap.size, 0, none⟩) (Nat.le_refl _) _).setCell (p := ⟨wr.heap.size, 1, none⟩) (Nat.le_refl _) _⟩

def PutsPost (B : Nat) (X : List UInt8 × Kn) (w : World) (e : Ending) (w' : World) : Prop :=
  ∃ A' m' c', e = .returned (.agg #[.string ⟨X.1.toArray⟩, .slice A' m' c']) ∧ Plc B (.slice A' m' c') X.2 w' ∧ Below w.heap.size w w'
/-- The pack in its box, behind so many records. -/
structure PkI (B bx : Nat) (X : List UInt8 × Kn) (s : ByteArray) (A' : Option Addr) (m' c' : Nat) (wr : World) : Prop where
  str : s.data.toList = X.1
  box : wr.heap[bx]? = some (.cells #[.string s, .slice A' m' c'] 94 (0, 0))
  plc : Plc B (.slice A' m' c') X.2 wr

set_option maxRecDepth 100000 in
set_option maxHeartbeats 4000000 in
theorem fputs_any (B : Nat) (x : ByteArray) (v : Value) (L : Kn) (A : Option Addr) (cap : Nat) (l : List Rc) (hl : l.length ≤ 200) (hs : ∀ r ∈ l, r.n.size ≤ 300 ∧ r.d.size ≤ 300 ∧ r.Ok) (hm : ∀ r ∈ l, mayR r = true) (w : World) (hP : Plc B v L w) (hK : KnOk x.data.toList L) (hG : Good x.data.toList L) (hx : x.size ≤ 500000) (hB : B ≤ w.heap.size) (hI : Sl rf w A cap l) :
    Calls Tryz.prog 56 #[.agg #[.string x, v], .slice A l.length cap] w fun e w' => PutsPost B (rsF (x.data.toList, L) l) w e w' := by
  obtain ⟨Ap, cp, rfl⟩ := hP.form
  have hF := ((Hp.nil w).alloc #[.string x, .slice Ap L.length cp] 94).alloc #[Value.string ⟨#[]⟩, .slice none 0 0] 94
  have e1 : (w.alloc (Obj.cells #[.string x, .slice Ap L.length cp] 94)).heap.size = w.heap.size + 1 := by simp
  rw [e1] at hF
  have hA : Below w.heap.size w ((w.alloc (Obj.cells #[.string x, .slice Ap L.length cp] 94)).alloc (Obj.cells #[Value.string ⟨#[]⟩, .slice none 0 0] 94)) := ((Below.refl w.heap.size w).alloc (Nat.le_refl _) _).alloc (by simp) _
  have hst : ∀ j, KnOk (rsF (x.data.toList, L) (l.take j)).1 (rsF (x.data.toList, L) (l.take j)).2 ∧ Good (rsF (x.data.toList, L) (l.take j)).1 (rsF (x.data.toList, L) (l.take j)).2 ∧ (rsF (x.data.toList, L) (l.take j)).1.length ≤ 613000 := fun j => by
    obtain ⟨a, b, c⟩ := rsF_kn (l.take j) (x.data.toList, L) hG hK (fun r hr => ⟨hm r (List.mem_of_mem_take hr), (hs r (List.mem_of_mem_take hr)).2.1⟩)
    have h2 : (l.take j).length ≤ 200 := Nat.le_trans (List.length_take_le' _ _) (by omega)
    have h3 : x.data.toList.length = x.size := ba_len x
    refine ⟨a, b, ?_⟩
    have c' : (rsF (x.data.toList, L) (l.take j)).1.length ≤ x.data.toList.length + 565 * (l.take j).length := c
    omega
  have HSt := Lib.hid hst
  have HI := Lib.hid hI
  have HS := Lib.hid hs
  have HM := Lib.hid hm
  have HNx := Lib.hid (fun j h => rsF_next (x.data.toList, L) l j h)
  have HPi := Lib.hid (hP.below hA)
  have HF := Lib.hid hF
  have HA := Lib.hid hA
  clear hst hI hs hm hP hK hG hF hA e1
  go_enter Tryz.func56, Tryz.ntmps56
  go_wp2_with fail
  go_loopw [5] (fun i wr => ∃ (j : Nat) (s : ByteArray) (A' : Option Addr) (m' c' : Nat), j ≤ l.length ∧ i = .int .i64 j ∧ PkI B w.heap.size (rsF (x.data.toList, L) (l.take j)) s A' m' c' wr ∧ wr.heap[w.heap.size + 1]? = some (.cells #[Value.string ⟨#[]⟩, .slice none 0 0] 94 (0, 0)) ∧ Below w.heap.size w wr) (fun i _ => l.length - (intOf i).toNat)
  case atStart => exact ⟨0, x, Ap, L.length, cp, Nat.zero_le _, rfl, ⟨rfl, HF.out.at 1 rfl, HPi.out⟩, HF.out.at 0 rfl, HA.out⟩
  case round =>
    clear HPi HF HA
    obtain ⟨j, s, Av, mv, cv, hj, rfl, hpk, hres, hbel⟩ := hrel
    by_cases hlt : j < l.length
    · obtain ⟨b, off, rfl, hb, c0, c1, c2, c3, c4⟩ := (HI.out.below' hbel).rec5 j hlt
      obtain ⟨z1, z2, z3⟩ := HS.out l[j] (List.getElem_mem hlt)
      have hmr := HM.out l[j] (List.getElem_mem hlt)
      obtain ⟨k1, k2, k3⟩ := HSt.out j
      have hnx := HNx.out j hlt
      generalize l[j] = r at *
      obtain ⟨N, hN⟩ : ∃ N, rsF (x.data.toList, L) (l.take (j + 1)) = N := ⟨_, rfl⟩
      rw [hN] at hnx
      have HBx := Lib.hid (fun W (hW : Below wr.heap.size wr W) => (hW.block _ (heap_lt hpk.box)).trans hpk.box)
      have HCl := Lib.hid (show ∀ W, Below wr.heap.size wr W → W.cell? ⟨b, off + j * 5, none⟩ = some (.string r.n) ∧ W.cell? ⟨b, off + j * 5 + 1, none⟩ = some (.int .u16 (r.k : Nat)) ∧ W.cell? ⟨b, off + j * 5 + 2, none⟩ = some (.int .u16 (r.c : Nat)) ∧ W.cell? ⟨b, off + j * 5 + 3, none⟩ = some (.int .u32 (r.t : Nat)) ∧ W.cell? ⟨b, off + j * 5 + 4, none⟩ = some (.string r.d) from fun W hW => ⟨(hW.cell (p := ⟨b, off + j * 5, none⟩) hb).trans c0, (hW.cell (p := ⟨b, off + j * 5 + 1, none⟩) hb).trans c1, (hW.cell (p := ⟨b, off + j * 5 + 2, none⟩) hb).trans c2, (hW.cell (p := ⟨b, off + j * 5 + 3, none⟩) hb).trans c3, (hW.cell (p := ⟨b, off + j * 5 + 4, none⟩) hb).trans c4⟩)
      have hss : s.size ≤ 613000 := by rw [← ba_len, hpk.str]; exact k3
      have hpr : ∀ W, Below wr.heap.size wr W → Calls Tryz.prog 87 #[.agg #[.string s, .slice Av mv cv], .agg #[.string r.n, .int .u16 (r.k : Nat), .int .u16 (r.c : Nat), .int .u32 (r.t : Nat), .string r.d]] W fun e w' => ∃ A' m' cap', e = .returned (.tuple #[.agg #[.string ⟨N.1.toArray⟩, .slice A' m' cap'], .int .i64 0]) ∧ Plc B (.slice A' m' cap') N.2 w' ∧ Below W.heap.size W w' := fun W hW => by
        have h := fputr_any B s _ _ r W (hpk.plc.below hW) (by rw [hpk.str]; exact k1) (by rw [hpk.str]; exact k2) (by omega) (Nat.le_trans hB (Nat.le_trans hbel.size hW.size)) (by omega) (by omega) z3
        unfold PpPost at h
        rw [hpk.str, show prS (rsF (x.data.toList, L) (l.take j)).1 (rsF (x.data.toList, L) (l.take j)).2 r = N by unfold prS; rw [if_pos hmr, hnx], show prE r = 0 by unfold prE; rw [if_pos hmr]] at h
        exact h
      have HPr := Lib.hid hpr
      have HSd := Lib.hid (show Below wr.heap.size wr wr.drew from (Below.refl _ wr).drew)
      have HN := Lib.hid hN
      have HRes := Lib.hid hres
      have HBel := Lib.hid hbel
      have HBox := Lib.hid hpk.box
      have d1 : decide ((j : Int) < (l.length : Int)) = true := by simp; omega
      clear c0 c1 c2 c3 c4 z1 z2 z3 hmr k1 k2 k3 hnx hss hpr hN hpk hres hbel
      go_upto_region 4 with (fail)
      go_cut [6] (fun t wx => NxR B N wr t wx)
      case first =>
        refine wp_region_held_drew (S := fun wq => Below wr.heap.size wr wq) (by kernel_rfl) HSd.out (fun hHeld => ?_)
        refine wpAnyH_take (i := 0) (v := .agg #[.string s, .slice Av mv cv]) rfl (by kernel_rfl) (by kernel_rfl) (by kernel_rfl) (fun _ _ _ h => h) (Or.inl ⟨by rfl, ?_⟩) (by assumption) ?_
        · (intro wq hSw; have e0 : wq.cell? ⟨w.heap.size, 0, none⟩ = some (.string s) := blk_cell (HBx.out _ hSw) 0; have e1 : wq.cell? ⟨w.heap.size, 1, none⟩ = some (.slice Av mv cv) := blk_cell (HBx.out _ hSw) 1; go_simp)
        simp only [Act.put, List.getElem_toArray, List.getElem_cons_zero, List.setIfInBounds_toArray, List.set_cons_zero, List.set_cons_succ]
        refine wpAnyH_take (i := 1) (v := ?_) rfl (by kernel_rfl) (by kernel_rfl) (by kernel_rfl) (fun _ _ _ h => h) (Or.inl ⟨by rfl, ?_⟩) (by assumption) ?_
        rotate_left
        · (intro wq hSw; go_simp; try (with_reducible rfl))
        simp only [Act.put, List.getElem_toArray, List.getElem_cons_zero, List.getElem_cons_succ, List.setIfInBounds_toArray, List.set_cons_zero, List.set_cons_succ]
        refine wpAnyH_take (i := 2) (v := ?_) rfl (by kernel_rfl) (by kernel_rfl) (by kernel_rfl) (fun _ _ _ h => h) (Or.inl ⟨by rfl, ?_⟩) (by assumption) ?_
        rotate_left
        · (intro wq hSw; go_simp; try (with_reducible rfl))
        simp only [Act.put, List.getElem_toArray, List.getElem_cons_zero, List.getElem_cons_succ, List.setIfInBounds_toArray, List.set_cons_zero, List.set_cons_succ]
        refine wpAnyH_take (i := 3) (v := ?_) rfl (by kernel_rfl) (by kernel_rfl) (by kernel_rfl) (fun _ _ _ h => h) (Or.inl ⟨by rfl, ?_⟩) (by assumption) ?_
        rotate_left
        · (intro wq hSw; go_simp; try (with_reducible rfl))
        simp only [Act.put, List.getElem_toArray, List.getElem_cons_zero, List.getElem_cons_succ, List.setIfInBounds_toArray, List.set_cons_zero, List.set_cons_succ]
        refine wpAnyH_take (i := 4) (v := .agg #[.string r.n, .int .u16 (r.k : Nat), .int .u16 (r.c : Nat), .int .u32 (r.t : Nat), .string r.d]) rfl (by kernel_rfl) (by kernel_rfl) (by kernel_rfl) (fun _ _ _ h => h) (Or.inl ⟨by rfl, ?_⟩) (by assumption) ?_
        · (intro wq hSw; obtain ⟨e0, e1, e2, e3, e4⟩ := HCl.out wq hSw; go_simp)
        simp only [Act.put, List.getElem_toArray, List.getElem_cons_zero, List.getElem_cons_succ, List.setIfInBounds_toArray, List.set_cons_zero, List.set_cons_succ]
        refine wpAnyH_ready (rs := [5, 9]) (by kernel_rfl) (by simp) ?_
        refine AllReadyH.cons rfl (fun K hK => ?_) (AllReadyH.cons rfl (fun K hK => ?_) (AllReadyH.nil))
        · go_simp
          go_wp2_with (go_at_call 87; refine Calls.mono (HPr.out _ HSd.out) ?_; rintro e wk1 ⟨A2, m2, c2, rfl, hP2, hb⟩)
          have HS1 := Lib.hid (HSd.out.trans (hb.mono HSd.out.size))
          have HP1 := Lib.hid hP2
          clear hP2 hb
          refine hK.out _ _ HS1.out (fun hHeld => ?_)
          clear hK K
          refine wpAnyH_take (i := 6) (v := ?_) rfl (by kernel_rfl) (by kernel_rfl) (by kernel_rfl) (fun _ _ _ h => h) (Or.inl ⟨by rfl, ?_⟩) (by assumption) ?_
          rotate_left
          · (intro wq hSw; go_simp; try (with_reducible rfl))
          simp only [Act.put, List.getElem_toArray, List.getElem_cons_zero, List.getElem_cons_succ, List.setIfInBounds_toArray, List.set_cons_zero, List.set_cons_succ]
          refine wpAnyH_take (i := 7) (v := ?_) rfl (by kernel_rfl) (by kernel_rfl) (by kernel_rfl) (fun _ _ _ h => h) (Or.inl ⟨by rfl, ?_⟩) (by assumption) ?_
          rotate_left
          · (intro wq hSw; go_simp; try (with_reducible rfl))
          simp only [Act.put, List.getElem_toArray, List.getElem_cons_zero, List.getElem_cons_succ, List.setIfInBounds_toArray, List.set_cons_zero, List.set_cons_succ]
          refine wpAnyH_take (i := 8) (v := ?_) rfl (by kernel_rfl) (by kernel_rfl) (by kernel_rfl) (fun _ _ _ h => h) (Or.inl ⟨by rfl, ?_⟩) (by assumption) ?_
          rotate_left
          · (intro wq hSw; go_simp; try (with_reducible rfl))
          simp only [Act.put, List.getElem_toArray, List.getElem_cons_zero, List.getElem_cons_succ, List.setIfInBounds_toArray, List.set_cons_zero, List.set_cons_succ]
          refine wpAnyH_ready (rs := [9]) (by kernel_rfl) (by simp) ?_
          refine AllReadyH.cons rfl (fun K hK => ?_) (AllReadyH.nil)
          have hal := HS1.out.alloc HS1.out.size (Obj.cells #[Value.string ⟨#[]⟩, .slice none 0 0] 94)
          have HS2 := Lib.hid hal
          clear hal
          go_simp
          refine hK.out _ _ HS2.out (fun hHeld => ?_)
          clear hK K
          refine wpAnyH_ready (rs := [10]) (by kernel_rfl) (by simp) ?_
          refine AllReadyH.cons rfl (fun K hK => ?_) (AllReadyH.nil)
          go_simp
          refine hK.out _ _ (HS1.out.alloc HS1.out.size _) (fun hHeld => ?_)
          clear hK K
          refine wpAnyH_take (i := 11) (v := ?_) rfl (by kernel_rfl) (by kernel_rfl) (by kernel_rfl) (fun _ _ _ h => h) (Or.inl ⟨by rfl, ?_⟩) (by assumption) ?_
          rotate_left
          · (intro wq hSw; go_simp; try (with_reducible rfl))
          simp only [Act.put, List.getElem_toArray, List.getElem_cons_zero, List.getElem_cons_succ, List.setIfInBounds_toArray, List.set_cons_zero, List.set_cons_succ]
          refine wpAnyH_done (by kernel_rfl) ?_ _
          clear hHeld
          go_wp2_with fail
          go_meet
          case rel => exact nrA HS1.out HP1.out
        · have hal := (Below.refl wr.heap.size wr).alloc (Nat.le_refl _) (Obj.cells #[Value.string ⟨#[]⟩, .slice none 0 0] 94)
          have HS1 := Lib.hid (show Below wr.heap.size wr (wr.alloc (Obj.cells #[Value.string ⟨#[]⟩, .slice none 0 0] 94)).drew from hal.drew)
          have HZ1 := Lib.hid (show (wr.alloc (Obj.cells #[Value.string ⟨#[]⟩, .slice none 0 0] 94)).drew.heap[wr.heap.size]? = some (.cells #[Value.string ⟨#[]⟩, .slice none 0 0] 94 (0, 0)) from World.alloc_heap_new wr _)
          clear hal
          go_simp
          refine hK.out _ _ HS1.out (fun hHeld => ?_)
          clear hK K
          refine wpAnyH_ready (rs := [5]) (by kernel_rfl) (by simp) ?_
          refine AllReadyH.cons rfl (fun K hK => ?_) (AllReadyH.nil)
          go_simp
          go_wp2_with (go_at_call 87; refine Calls.mono (HPr.out _ HS1.out) ?_; rintro e wk2 ⟨A2, m2, c2, rfl, hP2, hb⟩)
          have HS2 := Lib.hid (HS1.out.trans (hb.mono HS1.out.size))
          have HP2 := Lib.hid hP2
          have HZ2 := Lib.hid ((hb.block _ (heap_lt HZ1.out)).trans HZ1.out)
          have z0 := blk_cell HZ2.out 0
          have z1 := blk_cell HZ2.out 1
          have f0 := blk_frozen HZ2.out 0
          have f1 := blk_frozen HZ2.out 1
          clear hP2 hb
          refine hK.out _ _ HS2.out (fun hHeld => ?_)
          clear hK K
          refine wpAnyH_take (i := 6) (v := ?_) rfl (by kernel_rfl) (by kernel_rfl) (by kernel_rfl) (fun _ _ _ h => h) (Or.inl ⟨by rfl, ?_⟩) (by assumption) ?_
          rotate_left
          · (intro wq hSw; go_simp; try (with_reducible rfl))
          simp only [Act.put, List.getElem_toArray, List.getElem_cons_zero, List.getElem_cons_succ, List.setIfInBounds_toArray, List.set_cons_zero, List.set_cons_succ]
          refine wpAnyH_take (i := 7) (v := ?_) rfl (by kernel_rfl) (by kernel_rfl) (by kernel_rfl) (fun _ _ _ h => h) (Or.inl ⟨by rfl, ?_⟩) (by assumption) ?_
          rotate_left
          · (intro wq hSw; go_simp; try (with_reducible rfl))
          simp only [Act.put, List.getElem_toArray, List.getElem_cons_zero, List.getElem_cons_succ, List.setIfInBounds_toArray, List.set_cons_zero, List.set_cons_succ]
          refine wpAnyH_take (i := 8) (v := ?_) rfl (by kernel_rfl) (by kernel_rfl) (by kernel_rfl) (fun _ _ _ h => h) (Or.inl ⟨by rfl, ?_⟩) (by assumption) ?_
          rotate_left
          · (intro wq hSw; go_simp; try (with_reducible rfl))
          simp only [Act.put, List.getElem_toArray, List.getElem_cons_zero, List.getElem_cons_succ, List.setIfInBounds_toArray, List.set_cons_zero, List.set_cons_succ]
          refine wpAnyH_ready (rs := [10]) (by kernel_rfl) (by simp) ?_
          refine AllReadyH.cons rfl (fun K hK => ?_) (AllReadyH.nil)
          go_simp
          refine hK.out _ _ ((HS2.out.setCell (p := ⟨wr.heap.size, 0, none⟩) (Nat.le_refl _) _).setCell (p := ⟨wr.heap.size, 1, none⟩) (Nat.le_refl _) _) (fun hHeld => ?_)
          clear hK K
          refine wpAnyH_take (i := 11) (v := ?_) rfl (by kernel_rfl) (by kernel_rfl) (by kernel_rfl) (fun _ _ _ h => h) (Or.inl ⟨by rfl, ?_⟩) (by assumption) ?_
          rotate_left
          · (intro wq hSw; go_simp; try (with_reducible rfl))
          simp only [Act.put, List.getElem_toArray, List.getElem_cons_zero, List.getElem_cons_succ, List.setIfInBounds_toArray, List.set_cons_zero, List.set_cons_succ]
          refine wpAnyH_done (by kernel_rfl) ?_ _
          clear hHeld
          go_wp2_with fail
          go_meet
          case rel => exact nrB HS2.out HP2.out HZ2.out
      case rest =>
        obtain ⟨y, A2, m2, c2, rfl, hy, hbx, hpl, hbw⟩ := hcut
        have HY := Lib.hid hbx
        have HBo := Lib.hid ((hbw.block _ (heap_lt HBox.out)).trans HBox.out)
        have HRe := Lib.hid ((hbw.block _ (heap_lt HRes.out)).trans HRes.out)
        have HPl := Lib.hid (hpl.other HBo.out (by decide) (cells_of_set HBo.out #[.string ⟨N.1.toArray⟩, .slice A2 m2 c2]))
        have HBw := Lib.hid (setRow_below (HBel.out.trans (hbw.mono HBel.out.size)) (Nat.le_refl _) #[.string ⟨N.1.toArray⟩, .slice A2 m2 c2])
        clear hbx hpl hbw HPr HSd HCl HBx HBox HRes
        go_wp2_with (first | (refine wpList_load_row rfl 94 _ rfl y rfl 94 _ _ _ HY.out Tryz.underlying94 rfl info49 ?_) | (refine wpList_store_row rfl 94 _ _ rfl w.heap.size _ rfl rfl 94 _ HBo.out info49 rfl (all2 _ _ _ _) ?_))
        go_roundw
        case rel => exact ⟨j + 1, ⟨N.1.toArray⟩, A2, m2, c2, hlt, by go_num, ⟨by rw [HN.out], setRow_heap _ _ _ _ _ _ HBo.out, by rw [HN.out]; exact HPl.out⟩, (setRow_other _ _ _ _ (by omega)).trans HRe.out, HBw.out⟩
        case measure => simp [intOf]; omega
    · obtain rfl : j = l.length := by omega
      have hT : l.take l.length = l := List.take_length
      rw [hT] at hpk
      have HBo := Lib.hid hpk.box
      have HRe := Lib.hid hres
      have HPl := Lib.hid (hpk.plc.other hres (by decide) (cells_of_set hres #[.string s, .slice Av mv cv]))
      have HBw := Lib.hid (setRow_below hbel (show w.heap.size ≤ w.heap.size + 1 by omega) #[.string s, .slice Av mv cv])
      have HE := Lib.hid (show s = ⟨(rsF (x.data.toList, L) l).1.toArray⟩ from by apply ba_ext; exact hpk.str)
      clear hpk hres hbel hT
      go_wp2_with (first | (refine wpList_load_row rfl 94 _ rfl w.heap.size rfl 94 _ _ _ HBo.out Tryz.underlying94 rfl info49 ?_) | (refine wpList_store_row rfl 94 _ _ rfl (w.heap.size + 1) _ rfl rfl 94 _ HRe.out info49 rfl (all2 _ _ _ _) ?_))
      exact ret_pack (g := w.heap.size + 1) rfl rfl rfl (setRow_heap _ _ _ _ _ _ HRe.out) ⟨Av, mv, cv, by rw [← HE.out], HPl.out, HBw.out⟩

/-- Few: 20 questions and records of each kind, of texts of 300 bytes, at most. -/
structure Fw (m : Ms) : Prop where
  q : m.q.length ≤ 20 ∧ ∀ r ∈ m.q, r.n.size ≤ 300
  an : m.an.length ≤ 20 ∧ ∀ r ∈ m.an, r.n.size ≤ 300 ∧ r.d.size ≤ 300
  ns : m.ns.length ≤ 20 ∧ ∀ r ∈ m.ns, r.n.size ≤ 300 ∧ r.d.size ≤ 300
  ar : m.ar.length ≤ 20 ∧ ∀ r ∈ m.ar, r.n.size ≤ 300 ∧ r.d.size ≤ 300
theorem Fw.less {m : Ms} (h : Fw m) (j : Nat) (t : Bool) : Fw (lessM m j t) :=
  ⟨h.q, ⟨Nat.le_trans (List.length_take_le' _ _) h.an.1, fun r hr => h.an.2 r (List.mem_of_mem_take hr)⟩, ⟨Nat.le_trans (List.length_take_le' _ _) h.ns.1, fun r hr => h.ns.2 r (List.mem_of_mem_take hr)⟩, ⟨Nat.le_trans (List.length_take_le' _ _) h.ar.1, fun r hr => h.ar.2 r (List.mem_of_mem_take hr)⟩⟩

set_option maxRecDepth 100000 in
set_option maxHeartbeats 4000000 in
theorem fbytes_any (m : Ms) (d : Ad) (hm : MayM m) (hok : m.Ok) (hf : Fw m) (w : World) (hI : Mg w m d) :
    Calls Tryz.prog 26 #[.agg (msV m d)] w fun e w' => e = .returned (.string ⟨(encM m).1.toArray⟩) ∧ Below w.heap.size w w' := by
  have hbox := World.alloc_heap_new w (Obj.cells (msV m d) 26)
  have hal := (Below.refl w.heap.size w).alloc (Nat.le_refl _) (Obj.cells (msV m d) 26)
  obtain ⟨w1, hw1⟩ : ∃ w1, w1 = w.alloc (Obj.cells (msV m d) 26) := ⟨_, rfl⟩
  rw [← hw1] at hbox hal
  have HB1 := Lib.hid hal
  have HX := Lib.hid (fun W (hW : Below w1.heap.size w1 W) => (hW.block _ (heap_lt hbox)).trans hbox)
  have HW := Lib.hid hw1
  have HI := Lib.hid (hI.below hal)
  have hst : ∀ j, KnOk (qsF (hdM m, []) (m.q.take j)).1 (qsF (hdM m, []) (m.q.take j)).2 ∧ Good (qsF (hdM m, []) (m.q.take j)).1 (qsF (hdM m, []) (m.q.take j)).2 ∧ (qsF (hdM m, []) (m.q.take j)).1.length ≤ 6000 := fun j => by
    obtain ⟨a, b, c⟩ := qsF_kn (m.q.take j) (hdM m, []) (Good.nil _) ⟨(fun p hp => by cases hp), Nat.zero_le _⟩ (fun r hr => hm.q.2 r (List.mem_of_mem_take hr))
    have h2 : (m.q.take j).length ≤ 20 := Nat.le_trans (List.length_take_le' _ _) hf.q.1
    have c' : (qsF (hdM m, []) (m.q.take j)).1.length ≤ (hdM m).length + 259 * (m.q.take j).length := c
    rw [hdM_len] at c'
    exact ⟨a, b, by omega⟩
  have HSt := Lib.hid hst
  have HNx := Lib.hid (fun j h => qsF_next (hdM m, []) m.q j h)
  have HHd := Lib.hid (fun w' => fheader_any m d hm.op hm.rc hok.id hm.q.1 hm.an.1 hm.ns.1 hm.ar.1 w')
  have HM := Lib.hid hm
  have HOk := Lib.hid hok
  have HFw := Lib.hid hf
  have hql := hf.q.1
  clear hbox hal hw1 hI hst hm hok hf
  have HX1 := Lib.hid (HX.out w1 (Below.refl _ _))
  go_enter Tryz.func26, Tryz.ntmps26
  go_upto_region 1 with (fail)
  rw [← HW.out]
  clear HW
  go_wp2_with (refine wpList_load_row rfl 26 _ rfl w.heap.size rfl 26 _ _ _ HX1.out Tryz.underlying26 rfl (infoM' m d) ?_)
  refine (HHd.out _).mono ?_
  rintro e w3 ⟨rfl, hb3⟩
  have hb4 := hb3.alloc hb3.size (Obj.cells #[.string ⟨(hdM m).toArray⟩, .slice none 0 0] 94)
  obtain ⟨w4, hw4⟩ : ∃ w4, w4 = w3.alloc (Obj.cells #[.string ⟨(hdM m).toArray⟩, .slice none 0 0] 94) := ⟨_, rfl⟩
  have hn4 := World.alloc_heap_new w3 (Obj.cells #[.string ⟨(hdM m).toArray⟩, .slice none 0 0] 94)
  rw [← hw4] at hb4 hn4
  have HB4 := Lib.hid hb4
  have HN4 := Lib.hid hn4
  have HW4 := Lib.hid hw4
  have HB3s := Lib.hid hb3.size
  clear hb3 hb4 hn4 hw4 HHd HX1
  go_upto_region 2 with (fail)
  rw [← HW4.out]
  clear HW4
  go_wp2_with fail
  go_loopw [4] (fun i wr => ∃ (j : Nat) (s : ByteArray) (A' : Option Addr) (m' c' : Nat), j ≤ m.q.length ∧ i = .int .i64 j ∧ PkI w1.heap.size w3.heap.size (qsF (hdM m, []) (m.q.take j)) s A' m' c' wr ∧ Below w1.heap.size w1 wr) (fun i _ => m.q.length - (intOf i).toNat)
  case atStart => exact ⟨0, ⟨(hdM m).toArray⟩, none, 0, 0, Nat.zero_le _, rfl, ⟨rfl, HN4.out, World.ownsRow_nil _ _ _ _⟩, HB4.out⟩
  case round =>
    clear HN4 HB4
    obtain ⟨j, s, Av, mv, cv, hj, rfl, hpk, hbel⟩ := hrel
    by_cases hlt : j < m.q.length
    · obtain ⟨b, off, hA, hb, c0, c1, c2⟩ := (HI.out.q.below' hbel).ask3 j hlt
      have hsz := HFw.out.q.2 m.q[j] (List.getElem_mem hlt)
      have hmr := HM.out.q.2 m.q[j] (List.getElem_mem hlt)
      have hrok := (HOk.out.q m.q[j] (List.getElem_mem hlt)).1
      obtain ⟨k1, k2, k3⟩ := HSt.out j
      have hnx := HNx.out j hlt
      generalize m.q[j] = r at *
      obtain ⟨N, hN⟩ : ∃ N, qsF (hdM m, []) (m.q.take (j + 1)) = N := ⟨_, rfl⟩
      rw [hN] at hnx
      have HBx := Lib.hid (fun W (hW : Below wr.heap.size wr W) => (hW.block _ (heap_lt hpk.box)).trans hpk.box)
      have HCl := Lib.hid (show ∀ W, Below wr.heap.size wr W → W.cell? ⟨b, off + j * 3, none⟩ = some (.string r.n) ∧ W.cell? ⟨b, off + j * 3 + 1, none⟩ = some (.int .u16 (r.k : Nat)) ∧ W.cell? ⟨b, off + j * 3 + 2, none⟩ = some (.int .u16 (r.c : Nat)) from fun W hW => ⟨(hW.cell (p := ⟨b, off + j * 3, none⟩) hb).trans c0, (hW.cell (p := ⟨b, off + j * 3 + 1, none⟩) hb).trans c1, (hW.cell (p := ⟨b, off + j * 3 + 2, none⟩) hb).trans c2⟩)
      have HC8 := Lib.hid (show ∀ W, Below wr.heap.size wr W → W.cell? ⟨w.heap.size, 8, none⟩ = some (.slice (some ⟨b, off, none⟩) m.q.length d.cq) from fun W hW => by rw [← hA]; exact blk_cell (HX.out W (hbel.trans (hW.mono hbel.size))) 8)
      have c8 := HC8.out wr (Below.refl _ _)
      have hss : s.size ≤ 6000 := by rw [← ba_len, hpk.str]; exact k3
      have hpr : ∀ W, Below wr.heap.size wr W → Calls Tryz.prog 55 #[.agg #[.string s, .slice Av mv cv], .agg #[.string r.n, .int .u16 (r.k : Nat), .int .u16 (r.c : Nat)]] W fun e w' => ∃ A' m' cap', e = .returned (.tuple #[.agg #[.string ⟨N.1.toArray⟩, .slice A' m' cap'], .int .i64 0]) ∧ Plc w1.heap.size (.slice A' m' cap') N.2 w' ∧ Below W.heap.size W w' := fun W hW => by
        have h := fputq_any w1.heap.size s _ _ r W (hpk.plc.below hW) (by rw [hpk.str]; exact k1) (by omega) (Nat.le_trans hbel.size hW.size) (by omega) hrok
        unfold QpPost at h
        rw [hpk.str, show pqS (qsF (hdM m, []) (m.q.take j)).1 (qsF (hdM m, []) (m.q.take j)).2 r = N by unfold pqS; rw [if_pos hmr, hnx], show stE r.n = 0 by unfold stE; rw [if_pos hmr]] at h
        exact h
      have HPr := Lib.hid hpr
      have HSd := Lib.hid (show Below wr.heap.size wr wr.drew from (Below.refl _ wr).drew)
      have HN := Lib.hid hN
      have HBel := Lib.hid hbel
      have HBox := Lib.hid hpk.box
      have d1 : decide ((j : Int) < (m.q.length : Int)) = true := by simp; omega
      clear c0 c1 c2 hsz hmr hrok k1 k2 k3 hnx hss hpr hN hpk hbel hA
      go_upto_region 5 with (fail)
      go_cut [5] (fun t wx => NxR w1.heap.size N wr t wx)
      case first =>
        refine wp_region_held_drew (S := fun wq => Below wr.heap.size wr wq) (by kernel_rfl) HSd.out (fun hHeld => ?_)
        refine wpAnyH_take (i := 0) (v := .agg #[.string s, .slice Av mv cv]) rfl (by kernel_rfl) (by kernel_rfl) (by kernel_rfl) (fun _ _ _ h => h) (Or.inl ⟨by rfl, ?_⟩) (by assumption) ?_
        · (intro wq hSw; have e0 : wq.cell? ⟨w3.heap.size, 0, none⟩ = some (.string s) := blk_cell (HBx.out _ hSw) 0; have e1 : wq.cell? ⟨w3.heap.size, 1, none⟩ = some (.slice Av mv cv) := blk_cell (HBx.out _ hSw) 1; go_simp)
        simp only [Act.put, List.getElem_toArray, List.getElem_cons_zero, List.setIfInBounds_toArray, List.set_cons_zero, List.set_cons_succ]
        refine wpAnyH_take (i := 1) (v := ?_) rfl (by kernel_rfl) (by kernel_rfl) (by kernel_rfl) (fun _ _ _ h => h) (Or.inl ⟨by rfl, ?_⟩) (by assumption) ?_
        rotate_left
        · (intro wq hSw; go_simp; try (with_reducible rfl))
        simp only [Act.put, List.getElem_toArray, List.getElem_cons_zero, List.getElem_cons_succ, List.setIfInBounds_toArray, List.set_cons_zero, List.set_cons_succ]
        refine wpAnyH_take (i := 2) (v := .slice (some ⟨b, off, none⟩) m.q.length d.cq) rfl (by kernel_rfl) (by kernel_rfl) (by kernel_rfl) (fun _ _ _ h => h) (Or.inl ⟨by rfl, ?_⟩) (by assumption) ?_
        · (intro wq hSw; have e0 : wq.cell? ⟨w.heap.size, 8, none⟩ = some (.slice (some ⟨b, off, none⟩) m.q.length d.cq) := HC8.out wq hSw; go_simp)
        simp only [Act.put, List.getElem_toArray, List.getElem_cons_zero, List.getElem_cons_succ, List.setIfInBounds_toArray, List.set_cons_zero, List.set_cons_succ]
        refine wpAnyH_take (i := 3) (v := ?_) rfl (by kernel_rfl) (by kernel_rfl) (by kernel_rfl) (fun _ _ _ h => h) (Or.inl ⟨by rfl, ?_⟩) (by assumption) ?_
        rotate_left
        · (intro wq hSw; go_simp; try (with_reducible rfl))
        simp only [Act.put, List.getElem_toArray, List.getElem_cons_zero, List.getElem_cons_succ, List.setIfInBounds_toArray, List.set_cons_zero, List.set_cons_succ]
        refine wpAnyH_take (i := 4) (v := ?_) rfl (by kernel_rfl) (by kernel_rfl) (by kernel_rfl) (fun _ _ _ h => h) (Or.inl ⟨by rfl, ?_⟩) (by assumption) ?_
        rotate_left
        · (intro wq hSw; go_simp; try (with_reducible rfl))
        simp only [Act.put, List.getElem_toArray, List.getElem_cons_zero, List.getElem_cons_succ, List.setIfInBounds_toArray, List.set_cons_zero, List.set_cons_succ]
        refine wpAnyH_take (i := 5) (v := .agg #[.string r.n, .int .u16 (r.k : Nat), .int .u16 (r.c : Nat)]) rfl (by kernel_rfl) (by kernel_rfl) (by kernel_rfl) (fun _ _ _ h => h) (Or.inl ⟨by rfl, ?_⟩) (by assumption) ?_
        · (intro wq hSw; obtain ⟨e0, e1, e2⟩ := HCl.out wq hSw; go_simp)
        simp only [Act.put, List.getElem_toArray, List.getElem_cons_zero, List.getElem_cons_succ, List.setIfInBounds_toArray, List.set_cons_zero, List.set_cons_succ]
        refine wpAnyH_ready (rs := [6, 10]) (by kernel_rfl) (by simp) ?_
        refine AllReadyH.cons rfl (fun K hK => ?_) (AllReadyH.cons rfl (fun K hK => ?_) (AllReadyH.nil))
        · go_simp
          go_wp2_with (go_at_call 55; refine Calls.mono (HPr.out _ HSd.out) ?_; rintro e wk1 ⟨A2, m2, c2, rfl, hP2, hb⟩)
          have HS1 := Lib.hid (HSd.out.trans (hb.mono HSd.out.size))
          have HP1 := Lib.hid hP2
          clear hP2 hb
          refine hK.out _ _ HS1.out (fun hHeld => ?_)
          clear hK K
          refine wpAnyH_take (i := 7) (v := ?_) rfl (by kernel_rfl) (by kernel_rfl) (by kernel_rfl) (fun _ _ _ h => h) (Or.inl ⟨by rfl, ?_⟩) (by assumption) ?_
          rotate_left
          · (intro wq hSw; go_simp; try (with_reducible rfl))
          simp only [Act.put, List.getElem_toArray, List.getElem_cons_zero, List.getElem_cons_succ, List.setIfInBounds_toArray, List.set_cons_zero, List.set_cons_succ]
          refine wpAnyH_take (i := 8) (v := ?_) rfl (by kernel_rfl) (by kernel_rfl) (by kernel_rfl) (fun _ _ _ h => h) (Or.inl ⟨by rfl, ?_⟩) (by assumption) ?_
          rotate_left
          · (intro wq hSw; go_simp; try (with_reducible rfl))
          simp only [Act.put, List.getElem_toArray, List.getElem_cons_zero, List.getElem_cons_succ, List.setIfInBounds_toArray, List.set_cons_zero, List.set_cons_succ]
          refine wpAnyH_take (i := 9) (v := ?_) rfl (by kernel_rfl) (by kernel_rfl) (by kernel_rfl) (fun _ _ _ h => h) (Or.inl ⟨by rfl, ?_⟩) (by assumption) ?_
          rotate_left
          · (intro wq hSw; go_simp; try (with_reducible rfl))
          simp only [Act.put, List.getElem_toArray, List.getElem_cons_zero, List.getElem_cons_succ, List.setIfInBounds_toArray, List.set_cons_zero, List.set_cons_succ]
          refine wpAnyH_ready (rs := [10]) (by kernel_rfl) (by simp) ?_
          refine AllReadyH.cons rfl (fun K hK => ?_) (AllReadyH.nil)
          have hal := HS1.out.alloc HS1.out.size (Obj.cells #[Value.string ⟨#[]⟩, .slice none 0 0] 94)
          have HS2 := Lib.hid hal
          clear hal
          go_simp
          refine hK.out _ _ HS2.out (fun hHeld => ?_)
          clear hK K
          refine wpAnyH_ready (rs := [11]) (by kernel_rfl) (by simp) ?_
          refine AllReadyH.cons rfl (fun K hK => ?_) (AllReadyH.nil)
          go_simp
          refine hK.out _ _ (HS1.out.alloc HS1.out.size _) (fun hHeld => ?_)
          clear hK K
          refine wpAnyH_take (i := 12) (v := ?_) rfl (by kernel_rfl) (by kernel_rfl) (by kernel_rfl) (fun _ _ _ h => h) (Or.inl ⟨by rfl, ?_⟩) (by assumption) ?_
          rotate_left
          · (intro wq hSw; go_simp; try (with_reducible rfl))
          simp only [Act.put, List.getElem_toArray, List.getElem_cons_zero, List.getElem_cons_succ, List.setIfInBounds_toArray, List.set_cons_zero, List.set_cons_succ]
          refine wpAnyH_done (by kernel_rfl) ?_ _
          clear hHeld
          go_wp2_with fail
          go_meet
          case rel => exact nrA HS1.out HP1.out
        · have hal := (Below.refl wr.heap.size wr).alloc (Nat.le_refl _) (Obj.cells #[Value.string ⟨#[]⟩, .slice none 0 0] 94)
          have HS1 := Lib.hid (show Below wr.heap.size wr (wr.alloc (Obj.cells #[Value.string ⟨#[]⟩, .slice none 0 0] 94)).drew from hal.drew)
          have HZ1 := Lib.hid (show (wr.alloc (Obj.cells #[Value.string ⟨#[]⟩, .slice none 0 0] 94)).drew.heap[wr.heap.size]? = some (.cells #[Value.string ⟨#[]⟩, .slice none 0 0] 94 (0, 0)) from World.alloc_heap_new wr _)
          clear hal
          go_simp
          refine hK.out _ _ HS1.out (fun hHeld => ?_)
          clear hK K
          refine wpAnyH_ready (rs := [6]) (by kernel_rfl) (by simp) ?_
          refine AllReadyH.cons rfl (fun K hK => ?_) (AllReadyH.nil)
          go_simp
          go_wp2_with (go_at_call 55; refine Calls.mono (HPr.out _ HS1.out) ?_; rintro e wk2 ⟨A2, m2, c2, rfl, hP2, hb⟩)
          have HS2 := Lib.hid (HS1.out.trans (hb.mono HS1.out.size))
          have HP2 := Lib.hid hP2
          have HZ2 := Lib.hid ((hb.block _ (heap_lt HZ1.out)).trans HZ1.out)
          have z0 := blk_cell HZ2.out 0
          have z1 := blk_cell HZ2.out 1
          have f0 := blk_frozen HZ2.out 0
          have f1 := blk_frozen HZ2.out 1
          clear hP2 hb
          refine hK.out _ _ HS2.out (fun hHeld => ?_)
          clear hK K
          refine wpAnyH_take (i := 7) (v := ?_) rfl (by kernel_rfl) (by kernel_rfl) (by kernel_rfl) (fun _ _ _ h => h) (Or.inl ⟨by rfl, ?_⟩) (by assumption) ?_
          rotate_left
          · (intro wq hSw; go_simp; try (with_reducible rfl))
          simp only [Act.put, List.getElem_toArray, List.getElem_cons_zero, List.getElem_cons_succ, List.setIfInBounds_toArray, List.set_cons_zero, List.set_cons_succ]
          refine wpAnyH_take (i := 8) (v := ?_) rfl (by kernel_rfl) (by kernel_rfl) (by kernel_rfl) (fun _ _ _ h => h) (Or.inl ⟨by rfl, ?_⟩) (by assumption) ?_
          rotate_left
          · (intro wq hSw; go_simp; try (with_reducible rfl))
          simp only [Act.put, List.getElem_toArray, List.getElem_cons_zero, List.getElem_cons_succ, List.setIfInBounds_toArray, List.set_cons_zero, List.set_cons_succ]
          refine wpAnyH_take (i := 9) (v := ?_) rfl (by kernel_rfl) (by kernel_rfl) (by kernel_rfl) (fun _ _ _ h => h) (Or.inl ⟨by rfl, ?_⟩) (by assumption) ?_
          rotate_left
          · (intro wq hSw; go_simp; try (with_reducible rfl))
          simp only [Act.put, List.getElem_toArray, List.getElem_cons_zero, List.getElem_cons_succ, List.setIfInBounds_toArray, List.set_cons_zero, List.set_cons_succ]
          refine wpAnyH_ready (rs := [11]) (by kernel_rfl) (by simp) ?_
          refine AllReadyH.cons rfl (fun K hK => ?_) (AllReadyH.nil)
          go_simp
          refine hK.out _ _ ((HS2.out.setCell (p := ⟨wr.heap.size, 0, none⟩) (Nat.le_refl _) _).setCell (p := ⟨wr.heap.size, 1, none⟩) (Nat.le_refl _) _) (fun hHeld => ?_)
          clear hK K
          refine wpAnyH_take (i := 12) (v := ?_) rfl (by kernel_rfl) (by kernel_rfl) (by kernel_rfl) (fun _ _ _ h => h) (Or.inl ⟨by rfl, ?_⟩) (by assumption) ?_
          rotate_left
          · (intro wq hSw; go_simp; try (with_reducible rfl))
          simp only [Act.put, List.getElem_toArray, List.getElem_cons_zero, List.getElem_cons_succ, List.setIfInBounds_toArray, List.set_cons_zero, List.set_cons_succ]
          refine wpAnyH_done (by kernel_rfl) ?_ _
          clear hHeld
          go_wp2_with fail
          go_meet
          case rel => exact nrB HS2.out HP2.out HZ2.out
      case rest =>
        obtain ⟨y, A2, m2, c2, rfl, hy, hbx, hpl, hbw⟩ := hcut
        have HY := Lib.hid hbx
        have HBo := Lib.hid ((hbw.block _ (heap_lt HBox.out)).trans HBox.out)
        have HPl := Lib.hid (hpl.other HBo.out (by decide) (cells_of_set HBo.out #[.string ⟨N.1.toArray⟩, .slice A2 m2 c2]))
        have HBw := Lib.hid (setRow_below (HBel.out.trans (hbw.mono HBel.out.size)) HB3s.out #[.string ⟨N.1.toArray⟩, .slice A2 m2 c2])
        clear hbx hpl hbw HPr HSd HCl HC8 HBx HBox c8
        go_wp2_with (first | (refine wpList_load_row rfl 94 _ rfl y rfl 94 _ _ _ HY.out Tryz.underlying94 rfl info49 ?_) | (refine wpList_store_row rfl 94 _ _ rfl w3.heap.size _ rfl rfl 94 _ HBo.out info49 rfl (all2 _ _ _ _) ?_))
        go_roundw
        case rel => exact ⟨j + 1, ⟨N.1.toArray⟩, A2, m2, c2, hlt, by go_num, ⟨by rw [HN.out], setRow_heap _ _ _ _ _ _ HBo.out, by rw [HN.out]; exact HPl.out⟩, HBw.out⟩
        case measure => simp [intOf]; omega
    · obtain rfl : j = m.q.length := by omega
      obtain ⟨k1, k2, k3⟩ := HSt.out m.q.length
      have hT : m.q.take m.q.length = m.q := List.take_length
      rw [hT] at hpk k1 k2 k3
      have hbg : qsF (hdM m, []) m.q = bgM m := rfl
      rw [hbg] at hpk k1 k2 k3
      have hss : s.size ≤ 6000 := by rw [← ba_len, hpk.str]; exact k3
      have mA := HM.out.an.2
      have mN := HM.out.ns.2
      have mR := HM.out.ar.2
      obtain ⟨fA1, fA⟩ := HFw.out.an
      obtain ⟨fN1, fN⟩ := HFw.out.ns
      obtain ⟨fR1, fR⟩ := HFw.out.ar
      obtain ⟨a1, a2, a3⟩ := rsF_kn m.an (bgM m) k2 k1 (fun r hr => ⟨mA r hr, (fA r hr).2⟩)
      obtain ⟨b1, b2, b3⟩ := rsF_kn m.ns (rsF (bgM m) m.an) a2 a1 (fun r hr => ⟨mN r hr, (fN r hr).2⟩)
      have HPa := Lib.hid (show ∀ W, Below wr.heap.size wr W → Calls Tryz.prog 56 #[.agg #[.string s, .slice Av mv cv], .slice d.a1 m.an.length d.c1] W (fun e w' => PutsPost w1.heap.size (rsF (bgM m) m.an) W e w') from fun W hW => by
        have h := fputs_any w1.heap.size s _ (bgM m).2 d.a1 d.c1 m.an (by omega) (fun r hr => ⟨(fA r hr).1, (fA r hr).2, HOk.out.an r hr⟩) mA W (hpk.plc.below hW) (by rw [hpk.str]; exact k1) (by rw [hpk.str]; exact k2) (by omega) (Nat.le_trans hbel.size hW.size) (HI.out.an.below' (hbel.trans (hW.mono hbel.size)))
        rw [hpk.str] at h
        exact h)
      have HPb := Lib.hid (show ∀ v W, Below wr.heap.size wr W → Plc w1.heap.size v (rsF (bgM m) m.an).2 W → Calls Tryz.prog 56 #[.agg #[.string ⟨(rsF (bgM m) m.an).1.toArray⟩, v], .slice d.a2 m.ns.length d.c2] W (fun e w' => PutsPost w1.heap.size (rsF (rsF (bgM m) m.an) m.ns) W e w') from fun v W hW hPv =>
        fputs_any w1.heap.size ⟨(rsF (bgM m) m.an).1.toArray⟩ v (rsF (bgM m) m.an).2 d.a2 d.c2 m.ns (by omega) (fun r hr => ⟨(fN r hr).1, (fN r hr).2, HOk.out.ns r hr⟩) mN W hPv a1 a2 (by rw [mk_size]; omega) (Nat.le_trans hbel.size hW.size) (HI.out.ns.below' (hbel.trans (hW.mono hbel.size))))
      have HPc := Lib.hid (show ∀ v W, Below wr.heap.size wr W → Plc w1.heap.size v (rsF (rsF (bgM m) m.an) m.ns).2 W → Calls Tryz.prog 56 #[.agg #[.string ⟨(rsF (rsF (bgM m) m.an) m.ns).1.toArray⟩, v], .slice d.a3 m.ar.length d.c3] W (fun e w' => PutsPost w1.heap.size (rsF (rsF (rsF (bgM m) m.an) m.ns) m.ar) W e w') from fun v W hW hPv =>
        fputs_any w1.heap.size ⟨(rsF (rsF (bgM m) m.an) m.ns).1.toArray⟩ v (rsF (rsF (bgM m) m.an) m.ns).2 d.a3 d.c3 m.ar (by omega) (fun r hr => ⟨(fR r hr).1, (fR r hr).2, HOk.out.ar r hr⟩) mR W hPv b1 b2 (by rw [mk_size]; omega) (Nat.le_trans hbel.size hW.size) (HI.out.ar.below' (hbel.trans (hW.mono hbel.size))))
      have HEnd := Lib.hid (encM_split m)
      have c8 : wr.cell? ⟨w.heap.size, 8, none⟩ = some (.slice d.aq m.q.length d.cq) := blk_cell (HX.out wr hbel) 8
      have HC9 := Lib.hid (show ∀ W, Below wr.heap.size wr W → W.cell? ⟨w.heap.size, 9, none⟩ = some (.slice d.a1 m.an.length d.c1) from fun W hW => blk_cell (HX.out W (hbel.trans (hW.mono hbel.size))) 9)
      have HC10 := Lib.hid (show ∀ W, Below wr.heap.size wr W → W.cell? ⟨w.heap.size, 10, none⟩ = some (.slice d.a2 m.ns.length d.c2) from fun W hW => blk_cell (HX.out W (hbel.trans (hW.mono hbel.size))) 10)
      have HC11 := Lib.hid (show ∀ W, Below wr.heap.size wr W → W.cell? ⟨w.heap.size, 11, none⟩ = some (.slice d.a3 m.ar.length d.c3) from fun W hW => blk_cell (HX.out W (hbel.trans (hW.mono hbel.size))) 11)
      have HBx := Lib.hid (fun W (hW : Below wr.heap.size wr W) => (hW.block _ (heap_lt hpk.box)).trans hpk.box)
      have HBr := Lib.hid hbel
      have HSd := Lib.hid (show Below wr.heap.size wr wr.drew from (Below.refl _ wr).drew)
      have HMv := Lib.hid (show ∀ P : List UInt8 × Kn → Prop, P (rsF (rsF (rsF (bgM m) m.an) m.ns) m.ar) → P (encM m) from fun P h => by rw [encM_split]; exact h)
      clear hpk k1 k2 k3 hT hbg hss mA mN mR fA1 fA fN1 fN fR1 fR a1 a2 a3 b1 b2 b3 hbel
      generalize rsF (rsF (rsF (bgM m) m.an) m.ns) m.ar = X3 at *
      generalize rsF (rsF (bgM m) m.an) m.ns = X2 at *
      generalize rsF (bgM m) m.an = X1 at *
      go_upto_region 7 with (fail)
      refine wp_region_held_drew (S := fun wq => Below wr.heap.size wr wq) (by kernel_rfl) HSd.out (fun hHeld => ?_)
      refine wpAnyH_take (i := 0) (v := .agg #[.string s, .slice Av mv cv]) rfl (by kernel_rfl) (by kernel_rfl) (by kernel_rfl) (fun _ _ _ h => h) (Or.inl ⟨by rfl, ?_⟩) (by assumption) ?_
      · (intro wq hSw; have e0 : wq.cell? ⟨w3.heap.size, 0, none⟩ = some (.string s) := blk_cell (HBx.out _ hSw) 0; have e1 : wq.cell? ⟨w3.heap.size, 1, none⟩ = some (.slice Av mv cv) := blk_cell (HBx.out _ hSw) 1; go_simp)
      simp only [Act.put, List.getElem_toArray, List.getElem_cons_zero, List.setIfInBounds_toArray, List.set_cons_zero, List.set_cons_succ]
      refine wpAnyH_take (i := 1) (v := ?_) rfl (by kernel_rfl) (by kernel_rfl) (by kernel_rfl) (fun _ _ _ h => h) (Or.inl ⟨by rfl, ?_⟩) (by assumption) ?_
      rotate_left
      · (intro wq hSw; go_simp; try (with_reducible rfl))
      simp only [Act.put, List.getElem_toArray, List.getElem_cons_zero, List.getElem_cons_succ, List.setIfInBounds_toArray, List.set_cons_zero, List.set_cons_succ]
      refine wpAnyH_take (i := 2) (v := .slice d.a1 m.an.length d.c1) rfl (by kernel_rfl) (by kernel_rfl) (by kernel_rfl) (fun _ _ _ h => h) (Or.inl ⟨by rfl, ?_⟩) (by assumption) ?_
      · (intro wq hSw; have e0 : wq.cell? ⟨w.heap.size, 9, none⟩ = some (.slice d.a1 m.an.length d.c1) := HC9.out wq hSw; go_simp)
      simp only [Act.put, List.getElem_toArray, List.getElem_cons_zero, List.getElem_cons_succ, List.setIfInBounds_toArray, List.set_cons_zero, List.set_cons_succ]
      refine wpAnyH_take (i := 4) (v := ?_) rfl (by kernel_rfl) (by kernel_rfl) (by kernel_rfl) (fun _ _ _ h => h) (Or.inl ⟨by rfl, ?_⟩) (by assumption) ?_
      rotate_left
      · (intro wq hSw; go_simp; try (with_reducible rfl))
      simp only [Act.put, List.getElem_toArray, List.getElem_cons_zero, List.getElem_cons_succ, List.setIfInBounds_toArray, List.set_cons_zero, List.set_cons_succ]
      refine wpAnyH_take (i := 5) (v := .slice d.a2 m.ns.length d.c2) rfl (by kernel_rfl) (by kernel_rfl) (by kernel_rfl) (fun _ _ _ h => h) (Or.inl ⟨by rfl, ?_⟩) (by assumption) ?_
      · (intro wq hSw; have e0 : wq.cell? ⟨w.heap.size, 10, none⟩ = some (.slice d.a2 m.ns.length d.c2) := HC10.out wq hSw; go_simp)
      simp only [Act.put, List.getElem_toArray, List.getElem_cons_zero, List.getElem_cons_succ, List.setIfInBounds_toArray, List.set_cons_zero, List.set_cons_succ]
      refine wpAnyH_take (i := 7) (v := ?_) rfl (by kernel_rfl) (by kernel_rfl) (by kernel_rfl) (fun _ _ _ h => h) (Or.inl ⟨by rfl, ?_⟩) (by assumption) ?_
      rotate_left
      · (intro wq hSw; go_simp; try (with_reducible rfl))
      simp only [Act.put, List.getElem_toArray, List.getElem_cons_zero, List.getElem_cons_succ, List.setIfInBounds_toArray, List.set_cons_zero, List.set_cons_succ]
      refine wpAnyH_take (i := 8) (v := .slice d.a3 m.ar.length d.c3) rfl (by kernel_rfl) (by kernel_rfl) (by kernel_rfl) (fun _ _ _ h => h) (Or.inl ⟨by rfl, ?_⟩) (by assumption) ?_
      · (intro wq hSw; have e0 : wq.cell? ⟨w.heap.size, 11, none⟩ = some (.slice d.a3 m.ar.length d.c3) := HC11.out wq hSw; go_simp)
      simp only [Act.put, List.getElem_toArray, List.getElem_cons_zero, List.getElem_cons_succ, List.setIfInBounds_toArray, List.set_cons_zero, List.set_cons_succ]
      refine wpAnyH_ready (rs := [3]) (by kernel_rfl) (by simp) ?_
      refine AllReadyH.cons rfl (fun K hK => ?_) (AllReadyH.nil)
      go_simp
      go_wp2_with (go_at_call 56; refine Calls.mono (HPa.out _ HSd.out) ?_; rintro e wk1 ⟨A1, m1, c1, rfl, hP2, hb⟩)
      have HS1 := Lib.hid (HSd.out.trans (hb.mono HSd.out.size))
      have HP1 := Lib.hid hP2
      clear hP2 hb
      refine hK.out _ _ HS1.out (fun hHeld => ?_)
      clear hK K
      refine wpAnyH_ready (rs := [6]) (by kernel_rfl) (by simp) ?_
      refine AllReadyH.cons rfl (fun K hK => ?_) (AllReadyH.nil)
      go_simp
      go_wp2_with (go_at_call 56; refine Calls.mono (HPb.out _ _ HS1.out HP1.out) ?_; rintro e wk2 ⟨A2, m2, c2, rfl, hP2, hb⟩)
      have HS2 := Lib.hid (HS1.out.trans (hb.mono HS1.out.size))
      have HP2 := Lib.hid hP2
      clear hP2 hb
      refine hK.out _ _ HS2.out (fun hHeld => ?_)
      clear hK K
      refine wpAnyH_ready (rs := [9]) (by kernel_rfl) (by simp) ?_
      refine AllReadyH.cons rfl (fun K hK => ?_) (AllReadyH.nil)
      go_simp
      go_wp2_with (go_at_call 56; refine Calls.mono (HPc.out _ _ HS2.out HP2.out) ?_; rintro e wk3 ⟨A3, m3, c3, rfl, hP2, hb⟩)
      have HS3 := Lib.hid (HS2.out.trans (hb.mono HS2.out.size))
      have HP3 := Lib.hid hP2
      clear hP2 hb
      refine hK.out _ _ HS3.out (fun hHeld => ?_)
      clear hK K
      refine wpAnyH_take (i := 10) (v := .string ⟨X3.1.toArray⟩) rfl (by kernel_rfl) (by kernel_rfl) (by kernel_rfl) (fun _ _ _ h => h) (Or.inl ⟨by rfl, ?_⟩) (by assumption) ?_
      · (intro wq hSw; have hfl : (Instr.field 94 (.agg #[.string ⟨X3.1.toArray⟩, .slice A3 m3 c3]) 0).run Tryz.prog wq = .ok (.string ⟨X3.1.toArray⟩) wq := (by kernel_rfl); go_simp)
      simp only [Act.put, List.getElem_toArray, List.getElem_cons_zero, List.getElem_cons_succ, List.setIfInBounds_toArray, List.set_cons_zero, List.set_cons_succ]
      refine wpAnyH_take (i := 11) (v := ?_) rfl (by kernel_rfl) (by kernel_rfl) (by kernel_rfl) (fun _ _ _ h => h) (Or.inl ⟨by rfl, ?_⟩) (by assumption) ?_
      rotate_left
      · (intro wq hSw; go_simp; try (with_reducible rfl))
      simp only [Act.put, List.getElem_toArray, List.getElem_cons_zero, List.getElem_cons_succ, List.setIfInBounds_toArray, List.set_cons_zero, List.set_cons_succ]
      refine wpAnyH_done (by kernel_rfl) ?_ _
      clear hHeld
      have HL := HS3
      go_wp2_with fail
      go_ret
      exact ⟨by rw [HEnd.out]; rfl, HB1.out.trans ((HBr.out.trans (HL.out.mono HBr.out.size)).mono HB1.out.size)⟩
set_option maxRecDepth 100000 in
set_option maxHeartbeats 1000000 in
theorem fputm_any (m : Ms) (d : Ad) (hok : m.Ok) (hs : SmM m) (hf : Fw m) (w : World) (hI : Mg w m d) :
    Calls Tryz.prog 9 #[.agg (msV m d)] w fun e w' => e = .returned (.tuple #[.string (pmS m), .int .i64 (pmE m)]) ∧ Below w.heap.size w w' := by
  have hbox := World.alloc_heap_new w (Obj.cells (msV m d) 26)
  have hal := (Below.refl w.heap.size w).alloc (Nat.le_refl _) (Obj.cells (msV m d) 26)
  obtain ⟨w1, hw1⟩ : ∃ w1, w1 = w.alloc (Obj.cells (msV m d) 26) := ⟨_, rfl⟩
  rw [← hw1] at hbox hal
  have HB1 := Lib.hid hal
  have HX1 := Lib.hid hbox
  have HW := Lib.hid hw1
  have HI := Lib.hid (hI.below hal)
  clear hbox hal hw1 hI
  go_enter Tryz.func9, Tryz.ntmps9
  go_upto_region 1 with (fail)
  rw [← HW.out]
  clear HW
  go_wp2_with (refine wpList_load_row rfl 26 _ rfl w.heap.size rfl 26 _ _ _ HX1.out Tryz.underlying26 rfl (infoM' m d) ?_)
  refine (fmaym_any m d hs _ HI.out).mono ?_
  rintro e w2 ⟨rfl, hb2⟩
  have HB2 := Lib.hid (HB1.out.trans (hb2.mono HB1.out.size))
  have HX2 := Lib.hid ((hb2.block _ (heap_lt HX1.out)).trans HX1.out)
  have HI2 := Lib.hid (HI.out.below hb2)
  clear hb2
  cases hmm : mayM m with
  | false =>
    have HE := Lib.hid (pm_no hmm)
    clear hmm
    go_wp2_with fail
    go_ret2
    rw [HE.out.1, HE.out.2]
    exact ⟨rfl, HB2.out⟩
  | true =>
    have HMm := Lib.hid hmm
    clear hmm
    go_wp2_with (refine wpList_load_row rfl 26 _ rfl w.heap.size rfl 26 _ _ _ HX2.out Tryz.underlying26 rfl (infoM' m d) ?_)
    refine (fbytes_any m d (mayM_iff.1 HMm.out) hok hf _ HI2.out).mono ?_
    rintro e w3 ⟨rfl, hb3⟩
    have HB3 := Lib.hid (HB2.out.trans (hb3.mono HB2.out.size))
    clear hb3
    by_cases hlen : (encM m).1.length ≤ 65535
    · have HE := Lib.hid (pm_yes HMm.out hlen)
      have hsz : (⟨(encM m).1.toArray⟩ : ByteArray).size ≤ 65535 := by rw [mk_size]; exact hlen
      have HS := Lib.hid (show ∃ S, S = (⟨(encM m).1.toArray⟩ : ByteArray) from ⟨_, rfl⟩)
      obtain ⟨S, hS⟩ := HS.out
      rw [← hS] at hsz HE ⊢
      have d1 : decide ((S.size : Int) > 65535) = false := by simp; omega
      clear hS HS hlen
      go_wp2_with fail
      go_ret2
      rw [HE.out.1, HE.out.2]
      exact ⟨rfl, HB3.out⟩
    · have HE := Lib.hid (pm_long HMm.out (by omega))
      have hsz : 65535 < (⟨(encM m).1.toArray⟩ : ByteArray).size := by rw [mk_size]; omega
      generalize (⟨(encM m).1.toArray⟩ : ByteArray) = S at *
      have d1 : decide ((S.size : Int) > 65535) = true := by simp; omega
      clear hlen
      go_wp2_with fail
      go_ret2
      rw [HE.out.1, HE.out.2]
      exact ⟨rfl, HB3.out⟩
end Go.Proofs.YtnakljbginbenaaGreatDoor
