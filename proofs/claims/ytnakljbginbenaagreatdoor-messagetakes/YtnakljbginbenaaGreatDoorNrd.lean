/- The contracts of derrickref06.Header and derrickref06.records. -/
import Derived.Test.YtnakljbginbenaaGreatDoorMmk
import Derived.Test.YtnakljbginbenaaGreatDoorRrg
namespace Go.Proofs.YtnakljbginbenaaGreatDoor
open Go.RowKit
set_option linter.unusedVariables false

theorem ru16_at (s : ByteArray) (p : Nat) (hs : s.size ≤ 2000) (hp : p + 2 ≤ s.size) (w : World) :
    Calls Tryz.prog 40 #[.string s, .int .i64 p] w fun e w' => e = .returned (.tuple #[.int .u16 (g16 s p : Nat), .int .i64 ((p + 2 : Nat) : Int), .int .i64 0]) ∧ Below w.heap.size w w' := by
  have h := Oc.ru16_any s (p : Nat) w hs
  have e1 : Oc.so s (p : Nat) 2 = (p + 2 : Nat) := so_nat (m := 2) hp
  have e2 : Oc.se s (p : Nat) 2 = 0 := (se_nat s p 2).trans (if_pos hp)
  rw [un16 hp, e1, e2] at h
  exact h
theorem beq_dec (a : Int) (p : Prop) [Decidable p] (h : a = 1 ↔ p) : (a == 1) = decide p := by
  by_cases hp : p
  · rw [h.2 hp]; simp [hp]
  · have : a ≠ 1 := fun e => hp (h.1 e)
    simp [hp, this]
/-- The header's cells, out of its two bytes. -/
theorem hdT_cells {s : ByteArray} {A B : Nat} (hA : A < 256) (hB : B < 256) (h : g16 s 2 = 256 * A + B) :
    #[Value.int IntKind.u16 (g16 s 0 : Nat), .bool ((A : Int) / 128 == 1), .bool ((A : Int) / 4 % 2 == 1), .bool ((A : Int) / 2 % 2 == 1), .bool ((A : Int) % 2 == 1), .bool ((B : Int) / 128 == 1), .int .i64 ((A : Int) / 8 % 16), .int .i64 ((B : Int) % 16), .slice none 0 0, .slice none 0 0, .slice none 0 0, .slice none 0 0] = msV (hdT s) zAd := by
  show _ = msV ⟨g16 s 0, decide (g16 s 2 / 32768 % 2 = 1), decide (g16 s 2 / 1024 % 2 = 1), decide (g16 s 2 / 512 % 2 = 1), decide (g16 s 2 / 256 % 2 = 1), decide (g16 s 2 / 128 % 2 = 1), (g16 s 2 / 2048 % 16 : Nat), (g16 s 2 % 16 : Nat), [], [], [], []⟩ zAd
  rw [h]
  rw [beq_dec ((A : Int) / 128) ((256 * A + B) / 32768 % 2 = 1) (by omega), beq_dec ((A : Int) / 4 % 2) ((256 * A + B) / 1024 % 2 = 1) (by omega), beq_dec ((A : Int) / 2 % 2) ((256 * A + B) / 512 % 2 = 1) (by omega), beq_dec ((A : Int) % 2) ((256 * A + B) / 256 % 2 = 1) (by omega), beq_dec ((B : Int) / 128) ((256 * A + B) / 128 % 2 = 1) (by omega),
    show (A : Int) / 8 % 16 = (((256 * A + B) / 2048 % 16 : Nat) : Int) by omega, show (B : Int) % 16 = (((256 * A + B) % 16 : Nat) : Int) by omega]
  rfl

set_option maxRecDepth 100000 in
set_option maxHeartbeats 1000000 in
theorem fheaderT_any (s : ByteArray) (hs : s.size ≤ 2000) (w : World) :
    Calls Tryz.prog 18 #[.string s] w fun e w' => e = .returned (.tuple #[.agg (msV (hmT s) zAd), .int .i64 (hmE s)]) ∧ Below w.heap.size w w' := by
  have hb1 := (Below.refl w.heap.size w).alloc (Nat.le_refl _) (Obj.cells (msV zMs zAd) 26)
  have hx1 := World.alloc_heap_new w (Obj.cells (msV zMs zAd) 26)
  obtain ⟨w1, hw1⟩ : ∃ w1, w1 = w.alloc (Obj.cells (msV zMs zAd) 26) := ⟨_, rfl⟩
  rw [← hw1] at hb1 hx1
  have HW := Lib.hid hw1
  have HB1 := Lib.hid hb1
  have HX1 := Lib.hid hx1
  clear hb1 hx1 hw1
  by_cases h12 : 12 ≤ s.size
  · have HE := Lib.hid (show hmT s = hdT s ∧ hmE s = 0 from ⟨if_pos h12, if_pos h12⟩)
    have d1 : decide ((s.size : Int) < 12) = false := by simp; omega
    have HU := Lib.hid (fun w' => ru16_at s 0 hs (by omega) w')
    have hl2 : 2 < s.size := by omega
    have hl3 : 3 < s.size := by omega
    obtain ⟨A, hA⟩ : ∃ A, s[2].toNat = A := ⟨_, rfl⟩
    obtain ⟨B, hB⟩ : ∃ B, s[3].toNat = B := ⟨_, rfl⟩
    have hA2 : A < 256 := by rw [← hA]; exact s[2].toNat_lt
    have hB2 : B < 256 := by rw [← hB]; exact s[3].toNat_lt
    have hg : g16 s 2 = 256 * A + B := by
      unfold g16 lsz
      rw [dif_pos hl2, dif_pos hl3, hA, hB]
    have HCs := Lib.hid (hdT_cells hA2 hB2 hg)
    clear hg h12
    go_enter Tryz.func18, Tryz.ntmps18
    go_upto_region 1 with (fail)
    rw [show Obj.cells #[Value.int IntKind.u16 0, .bool false, .bool false, .bool false, .bool false, .bool false, .int .i64 0, .int .i64 0, .slice none 0 0, .slice none 0 0, .slice none 0 0, .slice none 0 0] 26 = Obj.cells (msV zMs zAd) 26 from rfl, ← HW.out]
    clear HW
    go_wp2_with fail
    refine (HU.out _).mono ?_
    rintro e w2 ⟨rfl, hb2⟩
    have HB2 := Lib.hid (HB1.out.trans (hb2.mono HB1.out.size))
    have HX2 := Lib.hid ((hb2.block _ (heap_lt HX1.out)).trans HX1.out)
    clear hb2 HU
    go_upto_region 7 with (fail)
    rw [HCs.out]
    have HN := Lib.hid (World.alloc_heap_new w2 (Obj.cells (msV (hdT s) zAd) 26))
    have HX3 := Lib.hid ((heapOld (Obj.cells (msV (hdT s) zAd) 26) (heap_lt HX2.out)).trans HX2.out)
    have HB3 := Lib.hid (HB2.out.alloc HB2.out.size (Obj.cells (msV (hdT s) zAd) 26))
    go_wp2_with (first | (refine wpList_load_row rfl 26 _ rfl w2.heap.size rfl 26 _ _ _ HN.out Tryz.underlying26 rfl (infoM' _ _) ?_) | (refine wpList_store_row rfl 26 _ _ rfl w.heap.size (msV (hdT s) zAd) rfl rfl 26 _ HX3.out infoM rfl (msV_all _ _) ?_))
    refine ret_m2 (g := w.heap.size) rfl rfl rfl rfl (setRow_heap _ _ _ _ _ _ HX3.out) rfl ?_
    rw [HE.out.1, HE.out.2]
    exact ⟨rfl, setRow_below HB3.out (Nat.le_refl _) _⟩
  · have HE := Lib.hid (show hmT s = zMs ∧ hmE s = 2 from ⟨if_neg h12, if_neg h12⟩)
    have d1 : decide ((s.size : Int) < 12) = true := by simp; omega
    clear h12
    go_enter Tryz.func18, Tryz.ntmps18
    go_upto_region 1 with (fail)
    rw [show Obj.cells #[Value.int IntKind.u16 0, .bool false, .bool false, .bool false, .bool false, .bool false, .int .i64 0, .int .i64 0, .slice none 0 0, .slice none 0 0, .slice none 0 0, .slice none 0 0] 26 = Obj.cells (msV zMs zAd) 26 from rfl, ← HW.out]
    clear HW
    go_wp2_with (refine wpList_store_row rfl 26 _ _ rfl w.heap.size (msV zMs zAd) rfl rfl 26 _ HX1.out infoM rfl (msV_all _ _) ?_)
    refine ret_m2 (g := w.heap.size) rfl rfl rfl rfl (setRow_heap _ _ _ _ _ _ HX1.out) rfl ?_
    rw [HE.out.1, HE.out.2]
    exact ⟨rfl, setRow_below HB1.out (Nat.le_refl _) _⟩

set_option maxRecDepth 100000 in
set_option maxHeartbeats 2000000 in
theorem frecords_any (s : ByteArray) (p : Int) (n : Nat) (hs : s.size ≤ 1500) (hn : n < 65536) (hp : p = -1 ∨ 0 ≤ p) (hp2 : p ≤ s.size) (w : World) :
    Calls Tryz.prog 42 #[.string s, .int .i64 p, .int .i64 n] w fun e w' => ∃ A cap, e = .returned (.tuple #[.slice A (outL (rsT s n p)).length cap, .int .i64 (outP (rsT s n p))]) ∧ Sl rf w' A cap (outL (rsT s n p)) ∧ Below w.heap.size w w' ∧ ∀ a, A = some a → w.heap.size ≤ a.block := by
  obtain ⟨i0, hi, hz0, hz1, hz2⟩ := el_of elR
  have HPp := Lib.hid hp
  clear hp
  go_enter Tryz.func42, Tryz.ntmps42
  go_wp2_with fail
  go_loopw [1, 8, 9] (fun q v i wr => ∃ (j : Nat) (P : Int) (l : List Rc), j ≤ n ∧ i = .int .i64 j ∧ q = .int .i64 P ∧ (0 ≤ P ∨ (P = -1 ∧ p = -1 ∧ l = [])) ∧ P ≤ s.size ∧ l.length = j ∧ wr.ownsRow w.heap.size 46 5 v l.length (l.flatMap rf) ∧ rsT s n p = (rsT s (n - j) P).map (fun x => (l ++ x.1, x.2)) ∧ Below w.heap.size w wr) (fun _ _ i _ => n - (intOf i).toNat)
  case atStart => exact ⟨0, p, [], Nat.zero_le _, rfl, rfl, (by rcases HPp.out with h | h; exact Or.inr ⟨h, h, rfl⟩; exact Or.inl h), hp2, rfl, World.ownsRow_nil _ _ _ _, (by cases rsT s n p <;> simp), Below.refl _ _⟩
  case round =>
    obtain ⟨j, P, l, hj, rfl, rfl, hP1, hP2, hlj, hown, hT, hbel⟩ := hrel
    have HLj := Lib.hid hlj
    have HP1 := Lib.hid hP1
    clear hlj hP1
    by_cases hgo : j < n ∧ 0 ≤ P
    · obtain ⟨hlt, hP0⟩ := hgo
      obtain ⟨Av, cv, rfl⟩ := ownR_form hown
      have HO := Lib.hid hown
      have HB := Lib.hid hbel
      have HK := Lib.hid (fun w' => ftaker_any s P hs (by unfold maxLen; omega) w')
      have g1 : decide ((j : Int) < (n : Int)) = true := by simp; omega
      have g2 : decide (P ≥ 0) = true := by simpa using hP0
      have g3 : decide (0 ≤ P) = true := by simpa using hP0
      rw [show n - j = (n - (j + 1)) + 1 by omega, rsT] at hT
      clear hown hbel
      rcases r_cases s P with ⟨hq, _, _, a3⟩ | ⟨r, hq, a1, a2, a3⟩
      · rw [hq, Option.bind_none, Option.map_none] at hT
        rw [a3] at HK
        have HT := Lib.hid hT
        clear hT hq a3
        generalize rR s P = r at *
        generalize rX s P = X at *
        go_wp2_with fail
        refine (HK.out _).mono ?_
        rintro e w2 ⟨rfl, hb2⟩
        have HB2 := Lib.hid (HB.out.trans (hb2.mono HB.out.size))
        clear hb2
        go_wp2_with fail
        go_ret2
        rw [HT.out]
        exact ⟨none, 0, rfl, Sl.nil _ _, HB2.out.alloc HB2.out.size _, (fun a h => by cases h)⟩
      · obtain ⟨b1, b2, b3, b4⟩ := tkR_is hq
        rw [hq] at hT
        simp only [Option.bind_some, Option.map_map] at hT
        rw [a1, a2, a3] at HK
        have hT2 : rsT s n p = (rsT s (n - (j + 1)) (r.2 : Nat)).map (fun x => ((l ++ [r.1]) ++ x.1, x.2)) := by
          rw [hT]
          congr 1
          funext x
          simp
        have HT := Lib.hid hT2
        have hr2 : (r.2 : Int) ≤ s.size := by omega
        have hr3 : (0 : Int) ≤ r.2 := by omega
        clear hT hT2 hq a1 a2 a3 b1 b2 b3 b4
        generalize r.2 = X at *
        generalize r.1 = R at *
        go_wp2_with fail
        refine (HK.out _).mono ?_
        rintro e w2 ⟨rfl, hb2⟩
        have HB2 := Lib.hid (HB.out.trans (hb2.mono HB.out.size))
        have HO2 := Lib.hid (ownR_below HO.out hb2)
        clear hb2
        have hbA := (HB2.out.alloc HB2.out.size (Obj.cells #[.string R.n, .int .u16 (R.k : Nat), .int .u16 (R.c : Nat), .int .u32 (R.t : Nat), .string R.d] 46))
        have hbB := hbA.alloc hbA.size (Obj.cells #[.string R.n, .int .u16 (R.k : Nat), .int .u16 (R.c : Nat), .int .u32 (R.t : Nat), .string R.d] 46)
        have HO3 := Lib.hid (ownR_below HO2.out ((((Below.refl _ w2).alloc (Nat.le_refl _) (Obj.cells #[.string R.n, .int .u16 (R.k : Nat), .int .u16 (R.c : Nat), .int .u32 (R.t : Nat), .string R.d] 46))).alloc (by simp) (Obj.cells #[.string R.n, .int .u16 (R.k : Nat), .int .u16 (R.c : Nat), .int .u32 (R.t : Nat), .string R.d] 46)))
        have HBB := Lib.hid hbB
        clear hbA hbB HO2
        go_wp2_with (at_builtin; refine wpList_append_own _ rfl _ _ 24 rfl w.heap.size 46 i0 zR 5 40 Tryz.underlying24 hi hz0 hz1 hz2 rfl (by decide) _ _ _ rfl HO3.out ⟨w2.heap.size + 1, 0, none⟩ 1 1 (rf R) rfl rfl (newR w2 _ R) (oneR R) ?q4 ?q5 HBB.out.size ?_)
        case q4 => have := HLj.out; unfold maxLen; omega
        case q5 => have := HLj.out; omega
        intro v' w3 hown2 hgrow hnil
        have hb3 := HBB.out.grown hgrow HBB.out.size (fun k hk => (HO3.out.lt k hk).1)
        have hown3 : w3.ownsRow w.heap.size 46 5 v' (l ++ [R]).length ((l ++ [R]).flatMap rf) := by
          rw [List.length_append, List.flatMap_append]
          simpa using hown2
        have HF := Lib.hid (And.intro hown3 hb3)
        clear hown2 hown3 hgrow hnil hb3
        go_wp2_with fail
        go_roundw
        case rel => exact ⟨j + 1, (X : Nat), l ++ [R], hlt, by go_num, rfl, Or.inl hr3, hr2, by rw [List.length_append, HLj.out]; rfl, HF.out.1, HT.out, HF.out.2⟩
        case measure => simp [intOf]; omega
    · obtain ⟨A', cap', rfl, hS⟩ := Sl.own rf_len hown
      have hfr : ∀ a, A' = some a → w.heap.size ≤ a.block := fun a ha => (hown.lt a.block (by rw [ha]; rfl)).1
      have HF := Lib.hid (And.intro hS (And.intro hbel hfr))
      have hE : outL (rsT s n p) = l ∧ outP (rsT s n p) = P := by
        rcases Nat.lt_or_ge j n with h | h
        · rcases HP1.out with h1 | ⟨h1, h2, h3⟩
          · exact (hgo ⟨h, h1⟩).elim
          · rw [h1, h2, h3]; exact rsT_neg n
        · obtain rfl : j = n := by omega
          rw [Nat.sub_self, rsT] at hT
          rw [hT]
          exact ⟨by simp [outL], by simp [outP]⟩
      have HE := Lib.hid hE
      have hc : (decide ((j : Int) < (n : Int)) = false ∧ decide (j < n) = false) ∨ (decide ((j : Int) < (n : Int)) = true ∧ decide (j < n) = true ∧ decide (P ≥ 0) = false ∧ decide (0 ≤ P) = false) := by
        by_cases h : j < n
        · exact Or.inr ⟨by simpa using h, by simpa using h, by have : ¬ 0 ≤ P := fun h1 => hgo ⟨h, h1⟩; simpa using this, by have : ¬ 0 ≤ P := fun h1 => hgo ⟨h, h1⟩; simpa using this⟩
        · exact Or.inl ⟨by simp; omega, by simp; omega⟩
      have HC := Lib.hid hc
      clear hown hT hS hbel hfr hE hc hgo
      rcases HC.out with ⟨g1, g0⟩ | ⟨g1, g0, g2, g3⟩
      all_goals
        go_wp2_with fail
        go_ret2
        rw [HE.out.1, HE.out.2]
        exact ⟨A', cap', rfl, HF.out.1, HF.out.2.1, HF.out.2.2⟩
end Go.Proofs.YtnakljbginbenaaGreatDoor
