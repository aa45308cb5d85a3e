/- The contracts of slices.Concat at records (three lists), and of message's records. -/
import Derived.Test.YtnakljbginbenaaGreatDoorMme
namespace Go.Proofs.YtnakljbginbenaaGreatDoor
open Go.RowKit
set_option linter.unusedVariables false

theorem ownR_form {w : World} {B : Nat} {e : TypeId} {k : Nat} {v : Value} {n : Nat} {xs : List Value} (h : w.ownsRow B e k v n xs) : ∃ A cap, v = .slice A n cap := by
  rcases h.2 with ⟨rfl, rfl⟩ | ⟨g, cap, cur, rfl, _⟩
  · exact ⟨none, 0, rfl⟩
  · exact ⟨_, cap, rfl⟩
/-- The first lists, joined. -/
def cat3 (l1 l2 l3 : List Rc) : Nat → List Rc
  | 0 => []
  | 1 => l1
  | 2 => l1 ++ l2
  | _ => l1 ++ (l2 ++ l3)
set_option maxRecDepth 100000 in
set_option maxHeartbeats 2000000 in
theorem concat_any (b0 : Nat) (t0 : TypeId) (A1 A2 A3 : Option Addr) (c1 c2 c3 : Nat) (l1 l2 l3 : List Rc) (h1 : l1.length ≤ 6000) (h2 : l2.length ≤ 6000) (h3 : l3.length ≤ 6000) (w : World) (hb0 : w.heap[b0]? = some (.cells #[.slice A1 l1.length c1, .slice A2 l2.length c2, .slice A3 l3.length c3] t0 (0, 0)))
    (hI1 : Sl rf w A1 c1 l1) (hI2 : Sl rf w A2 c2 l2) (hI3 : Sl rf w A3 c3 l3) :
    Calls Tryz.prog 53 #[.slice (some ⟨b0, 0, none⟩) 3 3] w fun e w' => ∃ A' cap', e = .returned (.slice A' (l1 ++ (l2 ++ l3)).length cap') ∧ SlT w' A' cap' (l1 ++ (l2 ++ l3)) ∧ Below w.heap.size w w' := by
  obtain ⟨i0, hi, hz0, hz1, hz2⟩ := el_of elR
  have HX := Lib.hid hb0
  have HI1 := Lib.hid hI1
  have HI2 := Lib.hid hI2
  have HI3 := Lib.hid hI3
  have cell : ∀ W, Below w.heap.size w W → W.cell? ⟨b0, 0, none⟩ = some (.slice A1 l1.length c1) ∧ W.cell? ⟨b0, 1, none⟩ = some (.slice A2 l2.length c2) ∧ W.cell? ⟨b0, 2, none⟩ = some (.slice A3 l3.length c3) := fun W hW => by
    have := (hW.block _ (heap_lt hb0)).trans hb0
    exact ⟨blk_cell this 0, blk_cell this 1, blk_cell this 2⟩
  have HC := Lib.hid cell
  obtain ⟨d0, d1, d2⟩ := cell w (Below.refl _ _)
  clear hb0 hI1 hI2 hI3 cell
  go_enter Tryz.func53, Tryz.ntmps53
  go_wp2_with fail
  go_loopw [3, 11] (fun n i wr => ∃ j : Nat, j ≤ 3 ∧ n = .int .i64 ((cat3 l1 l2 l3 j).length : Nat) ∧ i = .int .i64 j ∧ w = wr) (fun _ i _ => 3 - (intOf i).toNat)
  case atStart => exact ⟨0, Nat.zero_le _, rfl, rfl, rfl⟩
  case round =>
    obtain ⟨j, hj, rfl, rfl, rfl⟩ := hrel
    have hc : j = 0 ∨ j = 1 ∨ j = 2 ∨ j = 3 := by omega
    rcases hc with rfl | rfl | rfl | rfl
    · have e : (cat3 l1 l2 l3 0).length = 0 := rfl
      rw [e]
      have g1 : decide ((l1.length : Int) < 0) = false := by simp
      go_wp2_with fail
      go_roundw
      case rel => exact ⟨1, by omega, rfl, by go_num, by first | rfl | trivial⟩
      case measure => simp [intOf]
    · have e : (cat3 l1 l2 l3 1).length = l1.length := rfl
      have e2 : (cat3 l1 l2 l3 2).length = l1.length + l2.length := by show (l1 ++ l2).length = _; rw [List.length_append]
      rw [e]
      have g1 : decide ((l1.length : Int) + (l2.length : Int) < 0) = false := by simp; omega
      have HE := Lib.hid e2
      clear e e2
      go_wp2_with fail
      go_roundw
      case rel => exact ⟨2, by omega, by rw [HE.out]; rfl, by go_num, by first | rfl | trivial⟩
      case measure => simp [intOf]
    · have e : (cat3 l1 l2 l3 2).length = l1.length + l2.length := by show (l1 ++ l2).length = _; rw [List.length_append]
      have e2 : (cat3 l1 l2 l3 3).length = l1.length + l2.length + l3.length := by show (l1 ++ (l2 ++ l3)).length = _; rw [List.length_append, List.length_append]; omega
      rw [e]
      have g1 : decide (((l1.length + l2.length : Nat) : Int) + (l3.length : Int) < 0) = false := by simp; omega
      have HE := Lib.hid e2
      clear e e2
      go_wp2_with fail
      go_roundw
      case rel => exact ⟨3, by omega, by rw [HE.out]; rfl, by go_num, by first | rfl | trivial⟩
      case measure => simp [intOf]
    · have e2 : (cat3 l1 l2 l3 3).length = l1.length + l2.length + l3.length := by show (l1 ++ (l2 ++ l3)).length = _; rw [List.length_append, List.length_append]; omega
      have HG := Lib.hid (fun w' => grow_any (cat3 l1 l2 l3 3).length (by omega) w')
      clear e2
      go_wp2_with fail
      refine (HG.out _).mono ?_
      rintro e w1 ⟨A0, cap0, rfl, hown, hb1⟩
      have HO1 := Lib.hid hown
      have HB1 := Lib.hid hb1
      clear hown hb1 HG d0 d1 d2
      go_wp2_with fail
      go_loopw [6, 27] (fun v i wr => ∃ j : Nat, j ≤ 3 ∧ i = .int .i64 j ∧ wr.ownsRow w.heap.size 46 5 v (cat3 l1 l2 l3 j).length ((cat3 l1 l2 l3 j).flatMap rf) ∧ Below w.heap.size w wr) (fun _ i _ => 3 - (intOf i).toNat)
      case atStart => exact ⟨0, Nat.zero_le _, rfl, HO1.out, HB1.out⟩
      case round =>
        clear HO1 HB1
        obtain ⟨j, hj, rfl, hown, hbel⟩ := hrel
        obtain ⟨k0, k1, k2⟩ := HC.out wr hbel
        have hc : j = 0 ∨ j = 1 ∨ j = 2 ∨ j = 3 := by omega
        rcases hc with rfl | rfl | rfl | rfl
        · obtain ⟨Av, cv, rfl⟩ := ownR_form hown
          have hn : cat3 l1 l2 l3 1 = cat3 l1 l2 l3 0 ++ l1 := by rfl
          have hle : (cat3 l1 l2 l3 0).length ≤ 12000 := by show ([] : List Rc).length ≤ 12000; simp
          have HO := Lib.hid hown
          have HB := Lib.hid hbel
          have HS := Lib.hid (HI1.out.below' hbel)
          have HN := Lib.hid hn
          clear hown hbel hn
          cases A1 with
          | none =>
            obtain rfl := HS.out.empty rfl
            have hz := HS.out.nl rfl
            subst hz
            rw [List.append_nil] at HN
            have hk0 : wr.cell? ⟨b0, 0, none⟩ = some (.slice none 0 0) := k0
            clear k0
            go_wp2_with (at_builtin; refine wpList_append_own_none rfl _ _ 24 rfl w.heap.size 46 i0 5 Tryz.underlying24 hi _ _ _ rfl HO.out rfl ?_)
            go_wp2_with fail
            go_roundw
            case rel => exact ⟨1, by omega, by go_num, by rw [HN.out]; exact HO.out, HB.out⟩
            case measure => simp [intOf]
          | some a =>
            have HSr := Lib.hid HS.out.src
            go_wp2_with (at_builtin; refine wpList_append_own _ rfl _ _ 24 rfl w.heap.size 46 i0 zR 5 40 Tryz.underlying24 hi hz0 hz1 hz2 rfl (by decide) _ _ _ rfl HO.out a l1.length c1 (l1.flatMap rf) rfl (flat_len rf_len l1) HSr.out (rf_one l1) ?q4 ?q5 HB.out.size ?_)
            case q4 => unfold maxLen; omega
            case q5 => omega
            intro v' w2 hown2 hgrow hnil
            have hb2 := HB.out.grown hgrow HB.out.size (fun k hk => (HO.out.lt k hk).1)
            rw [← List.flatMap_append, ← List.length_append, ← HN.out] at hown2
            have HF := Lib.hid (And.intro hown2 hb2)
            clear hown2 hgrow hnil hb2
            go_wp2_with fail
            go_roundw
            case rel => exact ⟨1, by omega, by go_num, HF.out.1, HF.out.2⟩
            case measure => simp [intOf]
        · obtain ⟨Av, cv, rfl⟩ := ownR_form hown
          have hn : cat3 l1 l2 l3 2 = cat3 l1 l2 l3 1 ++ l2 := by rfl
          have hle : (cat3 l1 l2 l3 1).length ≤ 12000 := by show l1.length ≤ 12000; omega
          have HO := Lib.hid hown
          have HB := Lib.hid hbel
          have HS := Lib.hid (HI2.out.below' hbel)
          have HN := Lib.hid hn
          clear hown hbel hn
          cases A2 with
          | none =>
            obtain rfl := HS.out.empty rfl
            have hz := HS.out.nl rfl
            subst hz
            rw [List.append_nil] at HN
            have hk1 : wr.cell? ⟨b0, 1, none⟩ = some (.slice none 0 0) := k1
            clear k1
            go_wp2_with (at_builtin; refine wpList_append_own_none rfl _ _ 24 rfl w.heap.size 46 i0 5 Tryz.underlying24 hi _ _ _ rfl HO.out rfl ?_)
            go_wp2_with fail
            go_roundw
            case rel => exact ⟨2, by omega, by go_num, by rw [HN.out]; exact HO.out, HB.out⟩
            case measure => simp [intOf]
          | some a =>
            have HSr := Lib.hid HS.out.src
            go_wp2_with (at_builtin; refine wpList_append_own _ rfl _ _ 24 rfl w.heap.size 46 i0 zR 5 40 Tryz.underlying24 hi hz0 hz1 hz2 rfl (by decide) _ _ _ rfl HO.out a l2.length c2 (l2.flatMap rf) rfl (flat_len rf_len l2) HSr.out (rf_one l2) ?q4 ?q5 HB.out.size ?_)
            case q4 => unfold maxLen; omega
            case q5 => omega
            intro v' w2 hown2 hgrow hnil
            have hb2 := HB.out.grown hgrow HB.out.size (fun k hk => (HO.out.lt k hk).1)
            rw [← List.flatMap_append, ← List.length_append, ← HN.out] at hown2
            have HF := Lib.hid (And.intro hown2 hb2)
            clear hown2 hgrow hnil hb2
            go_wp2_with fail
            go_roundw
            case rel => exact ⟨2, by omega, by go_num, HF.out.1, HF.out.2⟩
            case measure => simp [intOf]
        · obtain ⟨Av, cv, rfl⟩ := ownR_form hown
          have hn : cat3 l1 l2 l3 3 = cat3 l1 l2 l3 2 ++ l3 := by show l1 ++ (l2 ++ l3) = (l1 ++ l2) ++ l3; rw [List.append_assoc]
          have hle : (cat3 l1 l2 l3 2).length ≤ 12000 := by show (l1 ++ l2).length ≤ 12000; rw [List.length_append]; omega
          have HO := Lib.hid hown
          have HB := Lib.hid hbel
          have HS := Lib.hid (HI3.out.below' hbel)
          have HN := Lib.hid hn
          clear hown hbel hn
          cases A3 with
          | none =>
            obtain rfl := HS.out.empty rfl
            have hz := HS.out.nl rfl
            subst hz
            rw [List.append_nil] at HN
            have hk2 : wr.cell? ⟨b0, 2, none⟩ = some (.slice none 0 0) := k2
            clear k2
            go_wp2_with (at_builtin; refine wpList_append_own_none rfl _ _ 24 rfl w.heap.size 46 i0 5 Tryz.underlying24 hi _ _ _ rfl HO.out rfl ?_)
            go_wp2_with fail
            go_roundw
            case rel => exact ⟨3, by omega, by go_num, by rw [HN.out]; exact HO.out, HB.out⟩
            case measure => simp [intOf]
          | some a =>
            have HSr := Lib.hid HS.out.src
            go_wp2_with (at_builtin; refine wpList_append_own _ rfl _ _ 24 rfl w.heap.size 46 i0 zR 5 40 Tryz.underlying24 hi hz0 hz1 hz2 rfl (by decide) _ _ _ rfl HO.out a l3.length c3 (l3.flatMap rf) rfl (flat_len rf_len l3) HSr.out (rf_one l3) ?q4 ?q5 HB.out.size ?_)
            case q4 => unfold maxLen; omega
            case q5 => omega
            intro v' w2 hown2 hgrow hnil
            have hb2 := HB.out.grown hgrow HB.out.size (fun k hk => (HO.out.lt k hk).1)
            rw [← List.flatMap_append, ← List.length_append, ← HN.out] at hown2
            have HF := Lib.hid (And.intro hown2 hb2)
            clear hown2 hgrow hnil hb2
            go_wp2_with fail
            go_roundw
            case rel => exact ⟨3, by omega, by go_num, HF.out.1, HF.out.2⟩
            case measure => simp [intOf]
        · obtain ⟨Av, cv, rfl⟩ := ownR_form hown
          obtain ⟨A', cap', hv, hS⟩ := SlT.own (l := l1 ++ (l2 ++ l3)) hown
          cases hv
          have HF := Lib.hid (And.intro hS hbel)
          clear hown hbel hS
          go_wp2_with fail
          go_ret
          exact ⟨_, _, rfl, HF.out.1, HF.out.2⟩

theorem recs_len (m : Ms) : m.recs.length = m.an.length + (m.ns.length + m.ar.length) := by unfold Ms.recs; rw [List.length_append, List.length_append]
set_option maxRecDepth 100000 in
set_option maxHeartbeats 1000000 in
theorem records_any (m : Ms) (d : Ad) (hs : SmM m) (w : World) (hI : Mg w m d) :
    Calls Tryz.prog 23 #[.agg (msV m d)] w fun e w' => ∃ A' cap', e = .returned (.slice A' m.recs.length cap') ∧ SlT w' A' cap' m.recs ∧ Below w.heap.size w w' := by
  have hbox := World.alloc_heap_new w (Obj.cells (msV m d) 26)
  have hal := (Below.refl w.heap.size w).alloc (Nat.le_refl _) (Obj.cells (msV m d) 26)
  obtain ⟨w1, hw1⟩ : ∃ w1, w1 = w.alloc (Obj.cells (msV m d) 26) := ⟨_, rfl⟩
  rw [← hw1] at hbox hal
  have c9 : w1.cell? ⟨w.heap.size, 9, none⟩ = some (.slice d.a1 m.an.length d.c1) := blk_cell hbox 9
  have c10 : w1.cell? ⟨w.heap.size, 10, none⟩ = some (.slice d.a2 m.ns.length d.c2) := blk_cell hbox 10
  have c11 : w1.cell? ⟨w.heap.size, 11, none⟩ = some (.slice d.a3 m.ar.length d.c3) := blk_cell hbox 11
  have hb2 := hal.alloc hal.size (Obj.cells #[.slice d.a1 m.an.length d.c1, .slice d.a2 m.ns.length d.c2, .slice d.a3 m.ar.length d.c3] 24)
  have hx2 := World.alloc_heap_new w1 (Obj.cells #[.slice d.a1 m.an.length d.c1, .slice d.a2 m.ns.length d.c2, .slice d.a3 m.ar.length d.c3] 24)
  have HW := Lib.hid hw1
  have HF := Lib.hid (And.intro hb2 (And.intro hx2 (hI.below hb2)))
  clear hbox hal hb2 hx2 hw1 hI
  go_enter Tryz.func23, Tryz.ntmps23
  go_upto_region 1 with (fail)
  rw [← HW.out]
  go_wp2_with fail
  refine (concat_any _ 24 _ _ _ _ _ _ m.an m.ns m.ar hs.an.len hs.ns.len hs.ar.len _ HF.out.2.1 HF.out.2.2.an HF.out.2.2.ns HF.out.2.2.ar).mono ?_
  rintro e w3 ⟨A', cap', rfl, hS, hb⟩
  have HG := Lib.hid (And.intro hS (HF.out.1.trans (hb.mono HF.out.1.size)))
  clear hS hb
  go_wp2_with fail
  go_ret
  refine ⟨A', cap', ?_, HG.out.1, HG.out.2⟩
  rw [recs_len]
  rfl
end Go.Proofs.YtnakljbginbenaaGreatDoor
