/- The contract of derrickref01.Some, for later layers. -/
import Derived.Test.YtnakljbginbenaaGreatDoorBoc
import Derived.Test.YtnakljbginbenaaGreatDoorBnm
namespace Go.Proofs.YtnakljbginbenaaGreatDoor.Oc
open Go.RowKit
set_option linter.unusedVariables false

/-- The first k bytes from p on. -/
def part (s : ByteArray) (p k : Nat) : List UInt8 := (s.data.toList.drop p).take k
theorem part_length (s : ByteArray) (p k : Nat) (h : p + k ≤ s.size) : (part s p k).length = k := by simp [part]; omega
theorem part_succ (s : ByteArray) (p k : Nat) (h : p + k < s.size) : part s p (k + 1) = part s p k ++ [s[p + k]] := by
  unfold part
  rw [List.take_succ_eq_append_getElem (by simp; omega)]
  congr 1
  simp
  rfl
theorem part_extract (s : ByteArray) (p k : Nat) : (⟨(part s p k).toArray⟩ : ByteArray) = s.extract p (p + k) := by
  apply ByteArray.ext
  apply Array.toList_inj.1
  rw [extract_list]
  simp [part, List.drop_take]

set_option maxRecDepth 100000 in
set_option maxHeartbeats 1000000 in
theorem rsome_any (s : ByteArray) (p m : Int) (w : World) (hs : s.size ≤ 2000) :
    Calls Tryz.prog 122 #[.string s, .int .i64 p, .int .i64 m] w fun e w' => e = .returned (.tuple #[.string (sx s p m), .int .i64 (so s p m), .int .i64 (se s p m)]) ∧ Below w.heap.size w w' := by
  by_cases h : okS s p m
  · have hb : okB s p m = true := okB_yes h
    simp only [sx, so, se, if_pos h]
    obtain ⟨p0, m0, pm⟩ := h
    obtain ⟨q, rfl⟩ := Int.eq_ofNat_of_zero_le p0
    obtain ⟨n, rfl⟩ := Int.eq_ofNat_of_zero_le m0
    have pm' : q + n ≤ s.size := by omega
    have e1 : ((q : Int) + (n : Int)).toNat = q + n := by omega
    have e0 : (q : Int).toNat = q := by omega
    rw [e1, e0, ← part_extract]
    clear e1 e0 p0 m0
    obtain ⟨i0, hi, hz0, hz1, hz2⟩ := info_parts Tryz.info5
    go_enter Tryz.func122, Tryz.ntmps122
    go_wp2_with (go_at_call 69; refine (there_any s q n _ hs).mono ?_; rintro e w1 ⟨rfl, rfl⟩)
    go_loopw [9, 10] (fun v i wr => ∃ k : Nat, k ≤ n ∧ i = .int .i64 k ∧ wr.ownsRow w.heap.size 5 1 v k (bcells (part s q k)) ∧ Below w.heap.size w wr) (fun _ i _ => n - (intOf i).toNat)
    case atStart => exact ⟨0, Nat.zero_le _, rfl, World.ownsRow_nil _ _ _ _, Below.refl _ _⟩
    case round =>
      obtain ⟨k, hk, rfl, hown, hbel⟩ := hrel
      have hz := hbel.size
      obtain ⟨A0, cap0, rfl⟩ := own_form hown
      by_cases hlt : k < n
      · have hsn := Lib.hid (part_succ s q k (by omega))
        go_wp2_with (at_builtin; refine wpList_append_own _ rfl _ _ 88 rfl w.heap.size 5 i0 (.int .u8 0) 1 1 Tryz.underlying88 hi hz0 hz1 hz2 rfl (by decide) (.slice A0 k cap0) _ _ rfl (hown.alloc _) ⟨wr.heap.size, 0, none⟩ 1 1 [.int .u8 (s[q + k].toNat : Int)] rfl rfl ?c1 ?c2 ?c3 ?c4 ?c5 ?_)
        case c1 => exact cell_one_new _ _ _
        case c2 => intro u hu; simp at hu; subst hu; rfl
        case c3 => unfold maxLen; omega
        case c4 => omega
        case c5 => simp; omega
        intro v' w1 hown' hgrow _
        obtain ⟨A1, cap1, rfl⟩ := own_form hown'
        rw [← bcells_snoc, ← hsn.out] at hown'
        have hb' : Below w.heap.size w w1 := (hbel.alloc hz _).grown hgrow (by simp; omega) (fun g hg => (hown.lt g hg).1)
        clear hown hgrow hbel hsn
        go_wp2
        go_roundw
        case rel => exact ⟨k + 1, hlt, by go_num, hown', hb'⟩
        case measure => simp [intOf]; omega
      · obtain rfl : k = n := by omega
        have hl := part_length s q k pm'
        have hcv := conv_own (part s q k) (by rw [hl]; exact hown)
        clear hl
        go_wp2
        go_ret3
        exact ⟨rfl, hbel⟩
  · have hb : okB s p m = false := okB_no h
    simp only [sx, so, se, if_neg h]
    clear h
    go_enter Tryz.func122, Tryz.ntmps122
    go_wp2_with (go_at_call 69; refine (there_any s p m _ hs).mono ?_; rintro e w1 ⟨rfl, rfl⟩)
    go_ret3
    exact ⟨rfl, Below.refl _ _⟩
end Go.Proofs.YtnakljbginbenaaGreatDoor.Oc
