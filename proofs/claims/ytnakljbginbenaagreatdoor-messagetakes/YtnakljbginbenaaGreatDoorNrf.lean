/- The contract of derrickref06.Take. -/
import Derived.Test.YtnakljbginbenaaGreatDoorNrd
import Derived.Test.YtnakljbginbenaaGreatDoorMml
namespace Go.Proofs.YtnakljbginbenaaGreatDoor
open Go.RowKit
set_option linter.unusedVariables false

theorem ownR_set {w : World} {B : Nat} {e : TypeId} {k : Nat} {v : Value} {n : Nat} {xs : List Value} (h : w.ownsRow B e k v n xs) {g : Nat} (hg : g < B) (i : Nat) (u : Value) : (w.setCell ⟨g, i, none⟩ u).ownsRow B e k v n xs := by
  refine ⟨h.1, ?_⟩
  rcases h.2 with h1 | ⟨b, cap, cur, h1, h2, h3, h4⟩
  · exact .inl h1
  · exact .inr ⟨b, cap, cur, h1, h2, blk_other u h3 (by omega), h4⟩
/-- The numbers of elements, as far as they are read. -/
def nC (s : ByteArray) (j : Nat) : Array Value := #[.int .i64 ((if 0 < j then g16 s 4 else 0 : Nat) : Int), .int .i64 ((if 1 < j then g16 s 6 else 0 : Nat) : Int), .int .i64 ((if 2 < j then g16 s 8 else 0 : Nat) : Int), .int .i64 ((if 3 < j then g16 s 10 else 0 : Nat) : Int)]
theorem nC_zero (s : ByteArray) : #[Value.int IntKind.i64 0, .int .i64 0, .int .i64 0, .int .i64 0] = nC s 0 := rfl
theorem nC_set (s : ByteArray) (j : Nat) (h : j < 4) : (nC s j).setIfInBounds j (.int .i64 (g16 s (4 + 2 * j) : Nat)) = nC s (j + 1) := by
  match j, h with
  | 0, _ => rfl
  | 1, _ => rfl
  | 2, _ => rfl
  | 3, _ => rfl
theorem nC_at (s : ByteArray) (j : Nat) (h : j < 4) : (nC s j)[j]? = some (.int .i64 0) := by
  match j, h with
  | 0, _ => rfl
  | 1, _ => rfl
  | 2, _ => rfl
  | 3, _ => rfl
/-- The boxes of Take: the result, the message, the numbers. -/
structure TkI (s : ByteArray) (w : World) (g : Nat) (q : List Rc) (A : Option Addr) (cap : Nat) (cs : Array Value) (W : World) : Prop where
  res : W.heap[w.heap.size]? = some (.cells (msV zMs zAd) 26 (0, 0))
  box : W.heap[g]? = some (.cells (msV { hdT s with q := q } ⟨A, cap, none, 0, none, 0, none, 0⟩) 26 (0, 0))
  arr : W.heap[g + 1]? = some (.cells cs 70 (0, 0))
  bel : Below w.heap.size w W
theorem TkI.call {s : ByteArray} {w : World} {g : Nat} {q : List Rc} {A : Option Addr} {cap : Nat} {cs : Array Value} {W W' : World} (h : TkI s w g q A cap cs W) (hb : Below W.heap.size W W') : TkI s w g q A cap cs W' :=
  ⟨(hb.block _ (heap_lt h.res)).trans h.res, (hb.block _ (heap_lt h.box)).trans h.box, (hb.block _ (heap_lt h.arr)).trans h.arr, h.bel.trans (hb.mono h.bel.size)⟩
theorem TkI.num {s : ByteArray} {w : World} {g : Nat} {q : List Rc} {A : Option Addr} {cap : Nat} {cs : Array Value} {W : World} (h : TkI s w g q A cap cs W) (hg : w.heap.size < g) (j : Nat) (u : Value) : TkI s w g q A cap (cs.setIfInBounds j u) (W.setCell ⟨g + 1, j, none⟩ u) :=
  ⟨blk_other u h.res (by omega), blk_other u h.box (by omega), blk_set h.arr j u, h.bel.setCell (p := ⟨g + 1, j, none⟩) (show w.heap.size ≤ g + 1 by omega) u⟩
theorem TkI.ask {s : ByteArray} {w : World} {g : Nat} {q q' : List Rc} {A A' : Option Addr} {cap cap' : Nat} {cs : Array Value} {W : World} (h : TkI s w g q A cap cs W) (hg : w.heap.size < g) : TkI s w g q' A' cap' cs (W.setCell ⟨g, 8, none⟩ (.slice A' q'.length cap')) :=
  ⟨blk_other _ h.res (by omega), blk_set h.box 8 (.slice A' q'.length cap'), blk_other _ h.arr (by omega), h.bel.setCell (p := ⟨g, 8, none⟩) (show w.heap.size ≤ g by omega) _⟩
theorem TkI.grown {s : ByteArray} {w : World} {g : Nat} {q : List Rc} {A : Option Addr} {cap : Nat} {cs : Array Value} {W W' : World} {own : Option Nat} (h : TkI s w g q A cap cs W) (hg : w.heap.size < g) (hgr : W.grownBy W' own) (ho : ∀ k, own = some k → g + 2 ≤ k) : TkI s w g q A cap cs W' :=
  ⟨(hgr.block _ (heap_lt h.res) (fun e => by have := ho _ e.symm; omega)).trans h.res, (hgr.block _ (heap_lt h.box) (fun e => by have := ho _ e.symm; omega)).trans h.box, (hgr.block _ (heap_lt h.arr) (fun e => by have := ho _ e.symm; omega)).trans h.arr, h.bel.grown hgr h.bel.size (fun k hk => by have := ho k hk; omega)⟩
theorem qnone_bad {s : ByteArray} (h : qsT s (g16 s 4) 12 = none) : okT s = false := by
  have e1 : qP s = -1 := by unfold qP; rw [h]; rfl
  have e2 : anP s = -1 := by unfold anP; rw [e1]; exact (rsT_neg _).2
  have e3 : nsP s = -1 := by unfold nsP; rw [e2]; exact (rsT_neg _).2
  have e4 : arP s = -1 := by unfold arP; rw [e3]; exact (rsT_neg _).2
  cases hk : okT s with
  | false => rfl
  | true => have := (okT_iff.1 hk).2; omega
theorem tm_no' {s : ByteArray} (h : okT s = false) : tmM s = zMs ∧ tmE s = 2 := by unfold tmM tmE; rw [h]; exact ⟨rfl, rfl⟩
theorem tm_yes' {s : ByteArray} (h : okT s = true) : tmM s = msT s ∧ tmE s = 0 := ⟨if_pos h, if_pos h⟩
/-- The three ways in which a message is none, or it is one. -/
theorem ways {s : ByteArray} (h12 : 12 ≤ s.size) : (okT s = false ∧ anP s = -1) ∨ (okT s = false ∧ 0 ≤ anP s ∧ nsP s = -1) ∨ (okT s = false ∧ 0 ≤ anP s ∧ 0 ≤ nsP s ∧ arP s ≠ s.size) ∨ (okT s = true ∧ 0 ≤ anP s ∧ 0 ≤ nsP s ∧ arP s = s.size) := by
  have bad : arP s ≠ s.size → okT s = false := fun h => by
    cases hk : okT s with
    | false => rfl
    | true => exact absurd (okT_iff.1 hk).2 h
  rcases anP_pos s with h1 | h1
  · have e3 : nsP s = -1 := by unfold nsP; rw [h1]; exact (rsT_neg _).2
    have e4 : arP s = -1 := by unfold arP; rw [e3]; exact (rsT_neg _).2
    exact .inl ⟨bad (by omega), h1⟩
  rcases nsP_pos s with h2 | h2
  · have e4 : arP s = -1 := by unfold arP; rw [h2]; exact (rsT_neg _).2
    exact .inr (.inl ⟨bad (by omega), h1, h2⟩)
  by_cases h3 : arP s = s.size
  · exact .inr (.inr (.inr ⟨okT_iff.2 ⟨h12, h3⟩, h1, h2, h3⟩))
  · exact .inr (.inr (.inl ⟨bad h3, h1, h2, h3⟩))

set_option maxRecDepth 100000 in
set_option maxHeartbeats 4000000 in
theorem ftakem_any (s : ByteArray) (hs : s.size ≤ 1500) (w : World) :
    Calls Tryz.prog 16 #[.string s] w fun e w' => ∃ d, e = .returned (.tuple #[.agg (msV (tmM s) d), .int .i64 (tmE s)]) ∧ Mg w' (tmM s) d ∧ Below w.heap.size w w' := by
  obtain ⟨i0, hi, hz0, hz1, hz2⟩ := el_of elQ
  have hb1 := (Below.refl w.heap.size w).alloc (Nat.le_refl _) (Obj.cells (msV zMs zAd) 26)
  have hx1 := World.alloc_heap_new w (Obj.cells (msV zMs zAd) 26)
  obtain ⟨w1, hw1⟩ : ∃ w1, w1 = w.alloc (Obj.cells (msV zMs zAd) 26) := ⟨_, rfl⟩
  rw [← hw1] at hb1 hx1
  have HW := Lib.hid hw1
  have HB1 := Lib.hid hb1
  have HX1 := Lib.hid hx1
  clear hb1 hx1 hw1
  go_enter Tryz.func16, Tryz.ntmps16
  go_upto_region 1 with (fail)
  rw [show Obj.cells #[Value.int IntKind.u16 0, .bool false, .bool false, .bool false, .bool false, .bool false, .int .i64 0, .int .i64 0, .slice none 0 0, .slice none 0 0, .slice none 0 0, .slice none 0 0] 26 = Obj.cells (msV zMs zAd) 26 from rfl, ← HW.out]
  clear HW
  go_wp2_with fail
  refine (fheaderT_any s (by omega) _).mono ?_
  rintro e w2 ⟨rfl, hb2⟩
  have hx2 := World.alloc_heap_new w2 (Obj.cells (msV zMs zAd) 26)
  have hB2 := HB1.out.trans (hb2.mono HB1.out.size)
  have hr2 : w.heap.size < w2.heap.size := Nat.lt_of_lt_of_le (heap_lt HX1.out) hb2.size
  have hB3 := setRow_below (hB2.alloc hB2.size (Obj.cells (msV zMs zAd) 26)) (show w.heap.size ≤ w2.heap.size by omega) (msV (hmT s) zAd)
  have hx3 := setRow_heap (w2.alloc (Obj.cells (msV zMs zAd) 26)) w2.heap.size (msV zMs zAd) (msV (hmT s) zAd) 26 (0, 0) hx2
  have hR3 : ((w2.alloc (Obj.cells (msV zMs zAd) 26)).setRow w2.heap.size (msV (hmT s) zAd)).heap[w.heap.size]? = some (.cells (msV zMs zAd) 26 (0, 0)) := by
    rw [setRow_other _ _ _ _ (by omega), heapOld _ hr2]
    exact (hb2.block _ (heap_lt HX1.out)).trans HX1.out
  have hsz3 : ((w2.alloc (Obj.cells (msV zMs zAd) 26)).setRow w2.heap.size (msV (hmT s) zAd)).heap.size = w2.heap.size + 1 := by simp
  obtain ⟨w3, hw3⟩ : ∃ w3, w3 = (w2.alloc (Obj.cells (msV zMs zAd) 26)).setRow w2.heap.size (msV (hmT s) zAd) := ⟨_, rfl⟩
  rw [← hw3] at hB3 hx3 hR3 hsz3
  have HX2 := Lib.hid hx2
  have HB3 := Lib.hid hB3
  have HX3 := Lib.hid hx3
  have HR3 := Lib.hid hR3
  have HSz := Lib.hid hsz3
  have HW3 := Lib.hid hw3
  have HRg := Lib.hid hr2
  clear hb2 hx2 hB2 hB3 hx3 hR3 hw3 hr2 hsz3
  generalize hg : w2.heap.size = g at *
  go_upto_region 2 with (refine wpList_store_row rfl 26 _ _ rfl g (msV (hmT s) zAd) rfl rfl 26 (msV zMs zAd) HX2.out infoM rfl (msV_all _ _) ?_)
  rw [show Obj.cells #[Value.int IntKind.u16 0, .bool false, .bool false, .bool false, .bool false, .bool false, .int .i64 0, .int .i64 0, .slice none 0 0, .slice none 0 0, .slice none 0 0, .slice none 0 0] 26 = Obj.cells (msV zMs zAd) 26 from rfl, ← HW3.out]
  clear HW3
  by_cases h12 : 12 ≤ s.size
  rotate_left
  · obtain ⟨e1, e2⟩ : hmT s = zMs ∧ hmE s = 2 := ⟨if_neg h12, if_neg h12⟩
    have HE := Lib.hid (tm_no' (s := s) (by cases hk : okT s with
      | false => rfl
      | true => exact absurd (okT_iff.1 hk).1 h12))
    rw [e2]
    clear e1 e2
    go_wp2_with (refine wpList_store_row rfl 26 _ _ rfl w.heap.size (msV zMs zAd) rfl rfl 26 _ HR3.out infoM rfl (msV_all _ _) ?_)
    refine ret_m2 (g := w.heap.size) rfl rfl rfl rfl (setRow_heap _ _ _ _ _ _ HR3.out) rfl ?_
    rw [HE.out.1, HE.out.2]
    exact ⟨zAd, rfl, zMg _, setRow_below HB3.out (Nat.le_refl _) _⟩
  obtain ⟨e1, e2⟩ : hmT s = hdT s ∧ hmE s = 0 := ⟨if_pos h12, if_pos h12⟩
  rw [e1] at HX3
  rw [e1, e2]
  have hrg := HRg.out
  have hT4 : TkI s w g [] none 0 (nC s 0) (w3.alloc (Obj.cells (nC s 0) 70)) := by
    have e := HSz.out
    have hn := World.alloc_heap_new w3 (Obj.cells (nC s 0) 70)
    rw [e] at hn
    exact ⟨(heapOld _ (heap_lt HR3.out)).trans HR3.out, (heapOld _ (heap_lt HX3.out)).trans HX3.out, hn, HB3.out.alloc HB3.out.size _⟩
  have hz4 : (w3.alloc (Obj.cells (nC s 0) 70)).heap.size = g + 2 := by have := HSz.out; simp; omega
  obtain ⟨w4, hw4⟩ : ∃ w4, w4 = w3.alloc (Obj.cells (nC s 0) 70) := ⟨_, rfl⟩
  rw [← hw4] at hT4 hz4
  have HT4 := Lib.hid hT4
  have HZ4 := Lib.hid (Nat.le_of_eq hz4.symm)
  have HW4 := Lib.hid hw4
  have hsz := HSz.out
  clear e1 e2 hg HX2 HX3 HB3 HR3 HB1 HX1 hT4 hz4 hw4
  go_upto_region 5 with (fail)
  rw [nC_zero s, ← HW4.out]
  clear HW4 HSz hsz
  go_wp2_with fail
  go_loopw [7] (fun i wr => ∃ j : Nat, j ≤ 4 ∧ i = .int .i64 j ∧ TkI s w g [] none 0 (nC s j) wr ∧ g + 2 ≤ wr.heap.size) (fun i _ => 4 - (intOf i).toNat)
  case atStart => exact ⟨0, by omega, rfl, HT4.out, HZ4.out⟩
  case round =>
    clear HT4 HZ4
    obtain ⟨j, hj, rfl, hT, hZ⟩ := hrel
    by_cases hlt : j < 4
    · have HU := Lib.hid (fun w' => ru16_at s (4 + 2 * j) (by omega) (by omega) w')
      have hgl := g16_lt s (4 + 2 * j) (by omega)
      have hnx := nC_set s j hlt
      have hat := nC_at s j hlt
      have hsp : ((4 : Int) + 2 * (j : Int)) = ((4 + 2 * j : Nat) : Int) := by omega
      generalize g16 s (4 + 2 * j) = G at *
      have HSp := Lib.hid hsp
      have HNx := Lib.hid hnx
      have HAt := Lib.hid hat
      have HT := Lib.hid hT
      have HZ := Lib.hid hZ
      have d1 : decide ((j : Int) < 4) = true := by simp; omega
      clear hsp hnx hat hT hZ
      go_wp2_with fail
      rw [HSp.out]
      refine (HU.out _).mono ?_
      rintro e v2 ⟨rfl, hb⟩
      have HT2 := Lib.hid (HT.out.call hb)
      have HZ2 := Lib.hid (Nat.le_trans HZ.out hb.size)
      clear hb HU HT HZ
      generalize ((4 + 2 * j + 2 : Nat) : Int) = Y at *
      have c1 : v2.cell? ⟨g + 1, j, none⟩ = some (.int .i64 0) := (blk_cell HT2.out.arr j).trans HAt.out
      have f1 := blk_frozen HT2.out.arr j
      have k1 : IntKind.i64.wrap (G : Int) = G := IntWalk.i64_in _ (by omega)
      have k2 : (0 : Int) ≤ (j : Int) := by omega
      have k3 : (j : Int) < 4 := by omega
      have HT3 := Lib.hid (show TkI s w g [] none 0 (nC s (j + 1)) (v2.setCell ⟨g + 1, j, none⟩ (.int .i64 (G : Nat))) by rw [← HNx.out]; exact HT2.out.num hrg j _)
      have HZ3 := Lib.hid (show g + 2 ≤ (v2.setCell ⟨g + 1, j, none⟩ (.int .i64 (G : Nat))).heap.size by simpa [World.setCell] using HZ2.out)
      go_wp2_with fail
      go_roundw
      case rel => exact ⟨j + 1, hlt, by go_num, HT3.out, HZ3.out⟩
      case measure => simp [intOf]; omega
    · obtain rfl : j = 4 := by omega
      have HT := Lib.hid hT
      have HZ := Lib.hid hZ
      clear hT hZ hj hlt
      have hn0 := g16_lt s 4 (by omega)
      have hn1 := g16_lt s 6 (by omega)
      have hn2 := g16_lt s 8 (by omega)
      have hn3 := g16_lt s 10 (by omega)
      have d2 : decide ((4 : Int) < 4) = false := by simp
      rw [show ((4 : Nat) : Int) = 4 from rfl]
      go_wp2_with fail
      go_loopw [11, 12] (fun q i wv => ∃ (j : Nat) (P : Int) (l : List Rc) (A : Option Addr) (cap : Nat), j ≤ g16 s 4 ∧ i = .int .i64 j ∧ q = .int .i64 P ∧ 12 ≤ P ∧ P ≤ s.size ∧ l.length = j ∧ TkI s w g l A cap (nC s 4) wv ∧ g + 2 ≤ wv.heap.size ∧ wv.ownsRow (g + 2) 48 3 (.slice A l.length cap) l.length (l.flatMap qf) ∧ qsT s (g16 s 4) 12 = (qsT s (g16 s 4 - j) P).map (fun x => (l ++ x.1, x.2))) (fun _ i _ => g16 s 4 - (intOf i).toNat)
      case atStart => exact ⟨0, 12, [], none, 0, Nat.zero_le _, rfl, rfl, by omega, by omega, rfl, HT.out, HZ.out, World.ownsRow_nil _ _ _ _, by cases qsT s (g16 s 4) 12 <;> simp⟩
      case round =>
        clear HT HZ d2
        obtain ⟨j, P, l, A, cap, hj, rfl, rfl, hP1, hP2, hlj, hT, hZ, hown, hq⟩ := hrel
        have HLj := Lib.hid hlj
        have HT := Lib.hid hT
        have HZ := Lib.hid hZ
        have HO := Lib.hid hown
        clear hlj hT hZ hown
        have a0 : wr.cell? ⟨g + 1, 0, none⟩ = some (.int .i64 (g16 s 4 : Nat)) := blk_cell HT.out.arr 0
        by_cases hlt : j < g16 s 4
        · have HK := Lib.hid (fun w' => ftakeq_any s P hs (by unfold maxLen; omega) w')
          have g1 : decide ((j : Int) < (g16 s 4 : Int)) = true := by simp; omega
          rw [show g16 s 4 - j = (g16 s 4 - (j + 1)) + 1 by omega, qsT] at hq
          rcases q_cases s P with ⟨hk, zz1, zz2, a3⟩ | ⟨r, hk, a1, a2, a3, a4⟩
          · rw [hk, Option.bind_none, Option.map_none] at hq
            rw [a3] at HK
            have HE := Lib.hid (tm_no' (qnone_bad hq))
            clear hq hk a3 zz1 zz2
            generalize qR s P = r at *
            generalize qX s P = X at *
            go_wp2_with fail
            refine (HK.out _).mono ?_
            rintro e v2 ⟨rfl, hb⟩
            have hb' := (Below.refl v2.heap.size v2).alloc (Nat.le_refl _) (Obj.cells #[.string r.n, .int .u16 (r.k : Nat), .int .u16 (r.c : Nat)] 48)
            have HT2 := Lib.hid ((HT.out.call hb).call hb')
            clear hb hb' HT
            go_wp2_with (refine wpList_store_row rfl 26 _ _ rfl w.heap.size (msV zMs zAd) rfl rfl 26 _ HT2.out.res infoM rfl (msV_all _ _) ?_)
            refine ret_m2 (g := w.heap.size) rfl rfl rfl rfl (setRow_heap _ _ _ _ _ _ HT2.out.res) rfl ?_
            rw [HE.out.1, HE.out.2]
            exact ⟨zAd, rfl, zMg _, setRow_below HT2.out.bel (Nat.le_refl _) _⟩
          · obtain ⟨b1, b2, b3, b4, b5, b6⟩ := tkQ_is hk
            rw [hk] at hq
            simp only [Option.bind_some, Option.map_map] at hq
            rw [a1, a2, a3] at HK
            have hq2 : qsT s (g16 s 4) 12 = (qsT s (g16 s 4 - (j + 1)) (r.2 : Nat)).map (fun x => ((l ++ [r.1]) ++ x.1, x.2)) := by
              rw [hq]
              congr 1
              funext x
              simp
            have HQ := Lib.hid hq2
            have hr2 : (r.2 : Int) ≤ s.size := by omega
            have hr3 : (12 : Int) ≤ r.2 := by omega
            clear hq hq2 hk a1 a2 a3 a4 b1 b2 b3 b4 b5 b6
            generalize r.2 = X at *
            generalize r.1 = R at *
            go_wp2_with fail
            refine (HK.out _).mono ?_
            rintro e v2 ⟨rfl, hb⟩
            have HT2 := Lib.hid (HT.out.call hb)
            have HO2 := Lib.hid (ownR_below HO.out hb)
            have HZ2 := Lib.hid (Nat.le_trans HZ.out hb.size)
            clear hb HT HO HZ a0
            have hbA := (Below.refl v2.heap.size v2).alloc (Nat.le_refl _) (Obj.cells #[.string R.n, .int .u16 (R.k : Nat), .int .u16 (R.c : Nat)] 48)
            have hbB := hbA.alloc hbA.size (Obj.cells #[.string R.n, .int .u16 (R.k : Nat), .int .u16 (R.c : Nat)] 48)
            have c8 : (v2.alloc (Obj.cells #[.string R.n, .int .u16 (R.k : Nat), .int .u16 (R.c : Nat)] 48)).cell? ⟨g, 8, none⟩ = some (.slice A l.length cap) := blk_cell (HT2.out.call hbA).box 8
            have HT3 := Lib.hid (HT2.out.call hbB)
            have HO3 := Lib.hid (ownR_below HO2.out hbB)
            have HZ3 := Lib.hid (Nat.le_trans HZ2.out hbB.size)
            have c9 : v2.cell? ⟨g, 8, none⟩ = some (.slice A l.length cap) := blk_cell HT2.out.box 8
            have hgs : g < v2.heap.size := by have := HZ2.out; omega
            clear hbA hbB
            go_wp2_with (at_builtin; refine wpList_append_own _ rfl _ _ 23 rfl (g + 2) 48 i0 zQ 3 24 Tryz.underlying23 hi hz0 hz1 hz2 rfl (by decide) _ _ _ rfl HO3.out ⟨v2.heap.size + 1, 0, none⟩ 1 1 (qf R) rfl rfl (newQ v2 _ R) (oneQ R) ?q4 ?q5 HZ3.out ?_)
            case q4 => have := HLj.out; unfold maxLen; omega
            case q5 => have := HLj.out; omega
            intro v' v3 hown2 hgrow hnil
            have hT4 := HT3.out.grown hrg hgrow (fun k hk => (HO3.out.lt k hk).1)
            have hown3 : v3.ownsRow (g + 2) 48 3 v' (l ++ [R]).length ((l ++ [R]).flatMap qf) := by
              rw [List.length_append, List.flatMap_append]
              simpa using hown2
            obtain ⟨A', cap', rfl⟩ := ownR_form hown3
            have HT4 := Lib.hid hT4
            have HO4 := Lib.hid (ownR_set hown3 (show g < g + 2 by omega) 8 (.slice A' (l ++ [R]).length cap'))
            have HZ4 := Lib.hid (show g + 2 ≤ (v3.setCell ⟨g, 8, none⟩ (.slice A' (l ++ [R]).length cap')).heap.size by simpa [World.setCell] using Nat.le_trans HZ3.out hgrow.size)
            have hll : (l ++ [R]).length = l.length + 1 := by simp
            have HLl := Lib.hid hll
            have HT5 := Lib.hid (HT4.out.ask (q' := l ++ [R]) (A' := A') (cap' := cap') hrg)
            have c10 : v3.cell? ⟨g, 8, none⟩ = some (.slice A l.length cap) := blk_cell HT4.out.box 8
            have f10 := blk_frozen HT4.out.box 8
            clear hown2 hown3 hgrow hnil hT4 hll c8 c9
            generalize hLn : (l ++ [R]).length = Ln at *
            have HLn := Lib.hid hLn
            clear hLn
            go_wp2_with fail
            go_roundw
            case rel => exact ⟨j + 1, (X : Nat), l ++ [R], A', cap', hlt, by go_num, rfl, hr3, hr2, by rw [List.length_append, HLj.out]; rfl, by first | exact HT5.out | (rw [HLn.out]; exact HT5.out), by first | exact HZ4.out | (rw [HLn.out]; exact HZ4.out), by first | exact HO4.out | (rw [HLn.out]; exact HO4.out), HQ.out⟩
            case measure => simp [intOf]; omega
        · obtain rfl : j = g16 s 4 := by omega
          rw [Nat.sub_self, qsT] at hq
          have hq2 : qsT s (g16 s 4) 12 = some (l, P) := by rw [hq]; simp
          have eL : qL s = l := by unfold qL; rw [hq2]; rfl
          have eP : qP s = P := by unfold qP; rw [hq2]; rfl
          have HEL := Lib.hid eL
          have HEP := Lib.hid eP
          have HSl := Lib.hid (show SlF qf (g + 2) wr A cap (qL s) by
            rw [eL]
            obtain ⟨A', cap', h1, h2⟩ := Sl.own qf_len HO.out
            cases h1
            exact ⟨h2, fun a ha => (HO.out.lt a.block (by rw [ha]; rfl)).1⟩)
          have a1 : wr.cell? ⟨g + 1, 1, none⟩ = some (.int .i64 (g16 s 6 : Nat)) := blk_cell HT.out.arr 1
          have g1 : decide ((g16 s 4 : Int) < (g16 s 4 : Int)) = false := by simp
          have hP3 : P = -1 ∨ 0 ≤ P := by omega
          have HR1 := Lib.hid (fun w' => frecords_any s P (g16 s 6) hs hn1 hP3 hP2 w')
          rw [← eP] at HR1
          rw [show outL (rsT s (g16 s 6) (qP s)) = anL s from rfl, show outP (rsT s (g16 s 6) (qP s)) = anP s from rfl] at HR1
          rw [eP] at HR1
          have hB1 : anP s ≤ s.size := outP_le (qP_le h12)
          have hB2 : nsP s ≤ s.size := outP_le hB1
          have HR2 := Lib.hid (fun w' => frecords_any s (anP s) (g16 s 8) hs hn2 (anP_pos s) hB1 w')
          rw [show outL (rsT s (g16 s 8) (anP s)) = nsL s from rfl, show outP (rsT s (g16 s 8) (anP s)) = nsP s from rfl] at HR2
          have HR3 := Lib.hid (fun w' => frecords_any s (nsP s) (g16 s 10) hs hn3 (nsP_pos s) hB2 w')
          rw [show outL (rsT s (g16 s 10) (nsP s)) = arL s from rfl, show outP (rsT s (g16 s 10) (nsP s)) = arP s from rfl] at HR3
          have HWy := Lib.hid (ways h12)
          clear hq hq2 eL eP hP3 hj hlt
          go_wp2_with fail
          refine (HR1.out _).mono ?_
          rintro e v1 ⟨A1, p1, rfl, hS1, hb1, hf1⟩
          have HT1 := Lib.hid (HT.out.call hb1)
          have HS0a := Lib.hid (HSl.out.call hb1)
          have HS1a := Lib.hid (show SlF rf (g + 2) v1 A1 p1 (anL s) from ⟨hS1, fun a ha => Nat.le_trans HZ.out (hf1 a ha)⟩)
          have HZ1 := Lib.hid (Nat.le_trans HZ.out hb1.size)
          have a2 : v1.cell? ⟨g + 1, 2, none⟩ = some (.int .i64 (g16 s 8 : Nat)) := blk_cell HT1.out.arr 2
          clear hS1 hb1 hf1 HT HSl HZ HO a0 a1 HR1
          go_wp2_with fail
          refine (HR2.out _).mono ?_
          rintro e v2 ⟨A2, p2, rfl, hS2, hb2, hf2⟩
          have HT2 := Lib.hid (HT1.out.call hb2)
          have HS0b := Lib.hid (HS0a.out.call hb2)
          have HS1b := Lib.hid (HS1a.out.call hb2)
          have HS2b := Lib.hid (show SlF rf (g + 2) v2 A2 p2 (nsL s) from ⟨hS2, fun a ha => Nat.le_trans HZ1.out (hf2 a ha)⟩)
          have HZ2 := Lib.hid (Nat.le_trans HZ1.out hb2.size)
          have a3 : v2.cell? ⟨g + 1, 3, none⟩ = some (.int .i64 (g16 s 10 : Nat)) := blk_cell HT2.out.arr 3
          clear hS2 hb2 hf2 HT1 HS0a HS1a HZ1 a2 HR2
          go_wp2_with fail
          refine (HR3.out _).mono ?_
          rintro e v3 ⟨A3, p3, rfl, hS3, hb3, hf3⟩
          have HT3 := Lib.hid (HT2.out.call hb3)
          have HS0 := Lib.hid (HS0b.out.call hb3)
          have HS1 := Lib.hid (HS1b.out.call hb3)
          have HS2 := Lib.hid (HS2b.out.call hb3)
          have HS3 := Lib.hid (show SlF rf (g + 2) v3 A3 p3 (arL s) from ⟨hS3, fun a ha => Nat.le_trans HZ2.out (hf3 a ha)⟩)
          clear hS3 hb3 hf3 HT2 HS0b HS1b HS2b HZ2 a3 HR3
          rcases HWy.out with ⟨hk, k1⟩ | ⟨hk, k1, k2⟩ | ⟨hk, k1, k2, k3⟩ | ⟨hk, k1, k2, k3⟩
          · have HE := Lib.hid (tm_no' hk)
            have d1 : decide (anP s < 0) = true := by simp; omega
            clear hk k1 hB1 hB2
            go_wp2_with (refine wpList_store_row rfl 26 _ _ rfl w.heap.size (msV zMs zAd) rfl rfl 26 _ HT3.out.res infoM rfl (msV_all _ _) ?_)
            refine ret_m2 (g := w.heap.size) rfl rfl rfl rfl (setRow_heap _ _ _ _ _ _ HT3.out.res) rfl ?_
            rw [HE.out.1, HE.out.2]
            exact ⟨zAd, rfl, zMg _, setRow_below HT3.out.bel (Nat.le_refl _) _⟩
          · have HE := Lib.hid (tm_no' hk)
            have d1 : decide (anP s < 0) = false := by simp; omega
            have d2 : decide (nsP s < 0) = true := by simp; omega
            clear hk k1 k2 hB1 hB2
            go_wp2_with (refine wpList_store_row rfl 26 _ _ rfl w.heap.size (msV zMs zAd) rfl rfl 26 _ HT3.out.res infoM rfl (msV_all _ _) ?_)
            refine ret_m2 (g := w.heap.size) rfl rfl rfl rfl (setRow_heap _ _ _ _ _ _ HT3.out.res) rfl ?_
            rw [HE.out.1, HE.out.2]
            exact ⟨zAd, rfl, zMg _, setRow_below HT3.out.bel (Nat.le_refl _) _⟩
          · have HE := Lib.hid (tm_no' hk)
            have d1 : decide (anP s < 0) = false := by simp; omega
            have d2 : decide (nsP s < 0) = false := by simp; omega
            have d3 : (arP s != (s.size : Int)) = true := by simpa using k3
            clear hk k1 k2 k3 hB1 hB2
            go_wp2_with (refine wpList_store_row rfl 26 _ _ rfl w.heap.size (msV zMs zAd) rfl rfl 26 _ HT3.out.res infoM rfl (msV_all _ _) ?_)
            refine ret_m2 (g := w.heap.size) rfl rfl rfl rfl (setRow_heap _ _ _ _ _ _ HT3.out.res) rfl ?_
            rw [HE.out.1, HE.out.2]
            exact ⟨zAd, rfl, zMg _, setRow_below HT3.out.bel (Nat.le_refl _) _⟩
          · have HE := Lib.hid (tm_yes' hk)
            have d1 : decide (anP s < 0) = false := by simp; omega
            have d2 : decide (nsP s < 0) = false := by simp; omega
            have d3 : (arP s != (s.size : Int)) = false := by rw [k3]; simp
            have hM : msT s = { hdT s with q := l, an := anL s, ns := nsL s, ar := arL s } := by rw [← HEL.out]; rfl
            have HM := Lib.hid hM
            clear hk k1 k2 k3 hM hB1 hB2
            have c9 : v3.cell? ⟨g, 9, none⟩ = some (.slice none 0 0) := blk_cell HT3.out.box 9
            have z9 := blk_frozen HT3.out.box 9
            have x9 := blk_set HT3.out.box 9 (.slice A1 (anL s).length p1)
            have r9 := blk_other (b := g) (i := 9) (.slice A1 (anL s).length p1) HT3.out.res (by omega)
            have b9 := HT3.out.bel.setCell (p := ⟨g, 9, none⟩) (show w.heap.size ≤ g by omega) (.slice A1 (anL s).length p1)
            obtain ⟨y1, e1⟩ : ∃ y, y = v3.setCell ⟨g, 9, none⟩ (.slice A1 (anL s).length p1) := ⟨_, rfl⟩
            have s0 := HS0.out.set (g := g) (i := 9) (by omega) (.slice A1 (anL s).length p1)
            have s1 := HS1.out.set (g := g) (i := 9) (by omega) (.slice A1 (anL s).length p1)
            have s2 := HS2.out.set (g := g) (i := 9) (by omega) (.slice A1 (anL s).length p1)
            have s3 := HS3.out.set (g := g) (i := 9) (by omega) (.slice A1 (anL s).length p1)
            rw [← e1] at x9 r9 b9 s0 s1 s2 s3
            have X9 := Lib.hid x9
            have R9 := Lib.hid r9
            have B9 := Lib.hid b9
            have S9 := Lib.hid (And.intro s0 (And.intro s1 (And.intro s2 s3)))
            have E1 := Lib.hid e1
            clear x9 r9 b9 s0 s1 s2 s3 e1 HT3 HS0 HS1 HS2 HS3
            go_upto_region 25 with (fail)
            rw [← E1.out]
            clear E1 c9 z9
            have c10 : y1.cell? ⟨g, 10, none⟩ = some (.slice none 0 0) := blk_cell X9.out 10
            have z10 := blk_frozen X9.out 10
            have x10 := blk_set X9.out 10 (.slice A2 (nsL s).length p2)
            have r10 := blk_other (b := g) (i := 10) (.slice A2 (nsL s).length p2) R9.out (by omega)
            have b10 := B9.out.setCell (p := ⟨g, 10, none⟩) (show w.heap.size ≤ g by omega) (.slice A2 (nsL s).length p2)
            obtain ⟨y2, e2⟩ : ∃ y, y = y1.setCell ⟨g, 10, none⟩ (.slice A2 (nsL s).length p2) := ⟨_, rfl⟩
            have s0 := S9.out.1.set (g := g) (i := 10) (by omega) (.slice A2 (nsL s).length p2)
            have s1 := S9.out.2.1.set (g := g) (i := 10) (by omega) (.slice A2 (nsL s).length p2)
            have s2 := S9.out.2.2.1.set (g := g) (i := 10) (by omega) (.slice A2 (nsL s).length p2)
            have s3 := S9.out.2.2.2.set (g := g) (i := 10) (by omega) (.slice A2 (nsL s).length p2)
            rw [← e2] at x10 r10 b10 s0 s1 s2 s3
            have X10 := Lib.hid x10
            have R10 := Lib.hid r10
            have B10 := Lib.hid b10
            have S10 := Lib.hid (And.intro s0 (And.intro s1 (And.intro s2 s3)))
            have E2 := Lib.hid e2
            clear x10 r10 b10 s0 s1 s2 s3 e2 X9 R9 B9 S9
            go_upto_region 26 with (fail)
            rw [← E2.out]
            clear E2 c10 z10
            have c11 : y2.cell? ⟨g, 11, none⟩ = some (.slice none 0 0) := blk_cell X10.out 11
            have z11 := blk_frozen X10.out 11
            have x11 := blk_set X10.out 11 (.slice A3 (arL s).length p3)
            have r11 := blk_other (b := g) (i := 11) (.slice A3 (arL s).length p3) R10.out (by omega)
            have b11 := B10.out.setCell (p := ⟨g, 11, none⟩) (show w.heap.size ≤ g by omega) (.slice A3 (arL s).length p3)
            obtain ⟨y3, e3⟩ : ∃ y, y = y2.setCell ⟨g, 11, none⟩ (.slice A3 (arL s).length p3) := ⟨_, rfl⟩
            have s0 := S10.out.1.set (g := g) (i := 11) (by omega) (.slice A3 (arL s).length p3)
            have s1 := S10.out.2.1.set (g := g) (i := 11) (by omega) (.slice A3 (arL s).length p3)
            have s2 := S10.out.2.2.1.set (g := g) (i := 11) (by omega) (.slice A3 (arL s).length p3)
            have s3 := S10.out.2.2.2.set (g := g) (i := 11) (by omega) (.slice A3 (arL s).length p3)
            rw [← e3] at x11 r11 b11 s0 s1 s2 s3
            have hX11 : y3.heap[g]? = some (.cells (msV (msT s) ⟨A, cap, A1, p1, A2, p2, A3, p3⟩) 26 (0, 0)) := by rw [HM.out]; exact x11
            have X11 := Lib.hid hX11
            have R11 := Lib.hid r11
            have B11 := Lib.hid b11
            have S11 := Lib.hid (And.intro s0 (And.intro s1 (And.intro s2 s3)))
            have E3 := Lib.hid e3
            clear x11 r11 b11 s0 s1 s2 s3 e3 hX11 X10 R10 B10 S10
            go_upto_region 27 with (fail)
            rw [← E3.out]
            clear E3 c11 z11
            go_wp2_with (first | (refine wpList_load_row rfl 26 _ rfl g rfl 26 _ _ _ X11.out Tryz.underlying26 rfl (infoM' _ _) ?_) | (refine wpList_store_row rfl 26 _ _ rfl w.heap.size (msV (msT s) ⟨A, cap, A1, p1, A2, p2, A3, p3⟩) rfl rfl 26 _ R11.out infoM rfl (msV_all _ _) ?_))
            refine ret_m2 (g := w.heap.size) rfl rfl rfl rfl (setRow_heap _ _ _ _ _ _ R11.out) rfl ?_
            rw [HE.out.1, HE.out.2]
            exact ⟨⟨A, cap, A1, p1, A2, p2, A3, p3⟩, rfl, ⟨(S11.out.1.row (by omega) _).sl, (S11.out.2.1.row (by omega) _).sl, (S11.out.2.2.1.row (by omega) _).sl, (S11.out.2.2.2.row (by omega) _).sl⟩, setRow_below B11.out (Nat.le_refl _) _⟩
end Go.Proofs.YtnakljbginbenaaGreatDoor
