/- The walk of derricklaw02.NameBack: it returns true, whatever the argument. -/
import Derived.Test.YtceafomifpkiaaaDoorLba
namespace Go.Proofs.YtceafomifpkiaaaDoor
open Go.RowKit
set_option linter.unusedVariables false

/-- What a string is behind k rounds. -/
def upTo (l : List UInt8) (k : Nat) : List UInt8 := l.mapIdx fun i c => if i < k then up c else c
theorem upTo_zero (l : List UInt8) : upTo l 0 = l := by
  apply List.ext_getElem?
  intro i
  simp [upTo]
theorem upTo_all (l : List UInt8) (k : Nat) (h : l.length ≤ k) : upTo l k = l.map up := by
  apply List.ext_getElem?
  intro i
  by_cases hi : i < l.length
  · simp [upTo, hi, show i < k by omega]
  · simp [upTo, hi]
theorem upTo_len (l : List UInt8) (k : Nat) : (upTo l k).length = l.length := by simp [upTo]
theorem upTo_at (l : List UInt8) (k : Nat) (h : k < l.length) : (upTo l k)[k]'(by rw [upTo_len]; exact h) = l[k] := by
  simp [upTo]
theorem upTo_set (l : List UInt8) (k : Nat) (h : k < l.length) : (upTo l k).set k (up l[k]) = upTo l (k + 1) := by
  apply List.ext_getElem?
  intro i
  rw [List.getElem?_set]
  by_cases e : k = i
  · subst e
    simp [upTo, h]
  · rw [if_neg e]
    by_cases h1 : i < k
    · simp [upTo, h1, show i < k + 1 by omega]
    · simp [upTo, h1, show ¬ i < k + 1 by omega]
theorem upTo_same (l : List UInt8) (k : Nat) (h : k < l.length) (hl : up l[k] = l[k]) : upTo l k = upTo l (k + 1) := by
  rw [← upTo_set l k h, hl]
  have e := upTo_at l k h
  apply List.ext_getElem?
  intro i
  rw [List.getElem?_set]
  by_cases e' : k = i
  · subst e'
    rw [if_pos rfl, if_pos (by rw [upTo_len]; exact h), ← e, List.getElem?_eq_getElem]
  · rw [if_neg e']

set_option maxRecDepth 100000 in
set_option maxHeartbeats 4000000 in
theorem back_walk (n : ByteArray) (hn : n.size ≤ 140737488355328) (w : World) (hg : Glob w) :
    Calls Tryd.prog 5 #[.string n] w fun e w' => e = .returned (.bool true) ∧ Below w.heap.size w w' := by
  go_enter Tryd.func5, Tryd.ntmps5
  go_wp2_with fail
  refine (shown_any _ hg.tab).mono ?_; rintro e w1 ⟨rfl, hb1⟩
  go_wp2_with fail
  refine (may_any n hn _).mono ?_; rintro e w2 ⟨rfl, hb2⟩
  have hB := bthen hb1 hb2
  clear hb1 hb2
  cases hm : mayB n with
  | false =>
    clear hm
    go_wp2_with fail
    go_ret
    exact ⟨rfl, hB⟩
  | true =>
    have HT := Lib.hid (texts_of hm)
    have hnm := may_name hm
    have hz255 := hnm.size
    obtain ⟨hlb, hce⟩ := nameIs_labsB hnm
    obtain ⟨hj1, hj2⟩ := join_of hnm (map_map_low hnm.low)
    rw [← hlb] at hj1 hj2
    have hlbl : (labsB n).length ≤ 255 := by
      rw [hlb, List.length_map]
      have h1 := labsFrom_len n n.size 0 (by omega)
      have : (labs n).length = (labsFrom n 0).length := by simp [labs]
      omega
    have J1 := Lib.hid hj1
    have J2 := Lib.hid hj2
    have CE := Lib.hid hce
    clear hm hnm hlb hce hj1 hj2
    go_wp2_with fail
    refine (labels_any n hn _).mono ?_
    rintro e w3 ⟨A, cap, rfl, hS, hb3⟩
    have hB3 := bthen hB hb3
    clear hB hb3
    rw [CE.out]
    go_wp2_with fail
    refine (join_any A cap _ _ hS (by omega)).mono ?_
    rintro e w4 ⟨rfl, hb4⟩
    have hB4 := bthen hB3 hb4
    clear hB3 hb4 hS
    rw [J1.out, J2.out]
    have hg4 := hg.below hB4
    go_wp2_with fail
    refine (text_any n hn _ hg4.tab).mono ?_
    rintro e w5 ⟨rfl, hb5⟩
    have hB5 := bthen hB4 hb5
    have hg5 := hg.below hB5
    clear hB4 hb5 hg4
    have hpos := HT.out.pos
    have hlen := HT.out.len
    rw [ba_len] at hpos hlen
    obtain ⟨T, hT⟩ : ∃ T, textB n = T := ⟨_, rfl⟩
    rw [hT] at HT hpos hlen ⊢
    clear hT J1 J2 CE
    have b0 : ((T.size : Int) == 0) = false := by
      rw [beq_eq_false_iff_ne]
      omega
    have ht1 := take_any T (by omega)
    rw [HT.out.one] at ht1
    have hsl := fun W => slice_to T (T.size - 1) (by omega) W
    rw [show ((T.size - 1 : Nat) : Int) = (T.size : Int) - 1 by omega] at hsl
    have hdl : (T.extract 0 (T.size - 1)).data.toList = T.data.toList.dropLast := by
      rw [extract_list, List.drop_zero, List.dropLast_eq_take, ba_len]
    have hdz : (T.extract 0 (T.size - 1)).size ≤ 1048576 := by rw [ByteArray.size_extract]; omega
    have ht2 := take_any (T.extract 0 (T.size - 1)) hdz
    rw [hdl] at ht2
    clear hdl hdz
    go_wp2_with fail
    refine (ht1 _ hg5).mono ?_
    rintro e w6 ⟨rfl, hb6⟩
    have hB6 := bthen hB5 hb6
    have hg6 := hg.below hB6
    clear hB5 hb6 hg5 ht1
    go_wp2_with fail
    refine (ht2 _ hg6).mono ?_
    rintro e w7 ⟨rfl, hb7⟩
    have hB7 := bthen hB6 hb7
    clear hB6 hb7 hg6 ht2 hsl
    have hcv := run_bytes_of_string (P := Tryd.prog) w7 9 44 5 T Tryd.underlying9 Tryd.underlying44 Tryd.underlying5
    obtain ⟨cp, hcap⟩ : ∃ cp, grownCap w7 T.size 0 5 = cp := ⟨_, rfl⟩
    rw [hcap] at hcv
    clear hcap
    obtain ⟨tr, htr⟩ : ∃ tr, takeR T.data.toList.dropLast = tr := ⟨_, rfl⟩
    rw [htr]
    go_wp2_with fail
    go_loopw [14] (fun i wr => ∃ k : Nat, k ≤ T.size ∧ i = .int .i64 k ∧ Row wr w7.heap.size (upTo T.data.toList k) ∧ Below w.heap.size w wr) (fun i _ => T.size - (intOf i).toNat)
    case atStart => exact ⟨0, Nat.zero_le _, rfl, by rw [upTo_zero]; exact Row.new w7 _ rfl T _, hB7.drew.alloc hB7.size _⟩
    case round =>
      obtain ⟨k, hk, rfl, hrow, hbel⟩ := hrel
      clear hcv
      have HR := Lib.hid hrow
      have HTR := Lib.hid htr
      clear hrow htr
      by_cases hlt : k < T.size
      · have hkl : k < T.data.toList.length := by rw [ba_len]; exact hlt
        have hr := HR.out k (by rw [upTo_len]; exact hkl)
        rw [upTo_at _ _ hkl] at hr
        have h8 : T.data.toList[k].toNat ≤ 255 := by have := T.data.toList[k].toNat_lt; omega
        obtain ⟨hc, hf⟩ := hr
        have hset := HR.out.set k (up T.data.toList[k]) (by rw [upTo_len]; exact hkl)
        rw [upTo_set _ _ hkl] at hset
        have hsame := upTo_same T.data.toList k hkl
        have hup : up T.data.toList[k] = if 97 ≤ T.data.toList[k].toNat ∧ T.data.toList[k].toNat ≤ 122 then T.data.toList[k] - 32 else T.data.toList[k] := rfl
        generalize T.data.toList[k] = c at *
        have HS := Lib.hid hset
        have HM := Lib.hid hsame
        have HL := Lib.hid hup
        clear hset hsame hup hkl
        have hle := hB7.size
        by_cases hu : 97 ≤ c.toNat ∧ c.toNat ≤ 122
        · obtain ⟨h1, h2⟩ := hu
          have hl : up c = c - 32 := by rw [HL.out, if_pos ⟨h1, h2⟩]
          have hln : ((up c).toNat : Int) = c.toNat - 32 := by rw [hl, UInt8.toNat_sub]; simp; omega
          have HN := Lib.hid hln
          have d1 : decide ((97 : Int) ≤ (c.toNat : Int)) = true := by simp; omega
          have d2 : decide ((c.toNat : Int) ≤ 122) = true := by simp; omega
          clear hl hln
          go_wp2_with fail
          go_roundw
          case rel => exact ⟨k + 1, hlt, by go_num, HS.out _ (by rw [HN.out]), hbel.setCell (p := ⟨w7.heap.size, k, none⟩) hle _⟩
          case measure => simp [intOf]; omega
        · have hl : up c = c := by rw [HL.out, if_neg hu]
          have hrow' : Row wr w7.heap.size (upTo T.data.toList (k + 1)) := by rw [← HM.out hl]; exact HR.out
          have HR' := Lib.hid hrow'
          clear hrow' hl
          by_cases h1 : 97 ≤ c.toNat
          · have d1 : decide ((97 : Int) ≤ (c.toNat : Int)) = true := by simp; omega
            have d2 : decide ((c.toNat : Int) ≤ 122) = false := by simp; omega
            clear hu
            go_wp2_with fail
            go_roundw
            case rel => exact ⟨k + 1, hlt, by go_num, HR'.out, hbel⟩
            case measure => simp [intOf]; omega
          · have d1 : decide ((97 : Int) ≤ (c.toNat : Int)) = false := by simp; omega
            clear hu
            go_wp2_with fail
            go_roundw
            case rel => exact ⟨k + 1, hlt, by go_num, HR'.out, hbel⟩
            case measure => simp [intOf]; omega
      · obtain rfl : k = T.size := by omega
        have hrow := HR.out
        rw [upTo_all _ _ (by rw [ba_len]; omega)] at hrow
        have hcv2 := hrow.conv T.size cp (by simp)
        have hg8 := hg.below hbel
        have hgs : (⟨(T.data.toList.map up).toArray⟩ : ByteArray).size ≤ 1048576 := by
          show (T.data.toList.map up).toArray.size ≤ _
          simp; omega
        have ht3 := take_any ⟨(T.data.toList.map up).toArray⟩ hgs wr hg8
        have hgd : (⟨(T.data.toList.map up).toArray⟩ : ByteArray).data.toList = T.data.toList.map up := by simp
        rw [hgd, HT.out.great] at ht3
        clear hrow hgd hgs
        go_wp2_with fail
        refine ht3.mono ?_
        rintro e w8 ⟨rfl, hb8⟩
        have hB8 := bthen hbel hb8
        have d255 : decide ((n.size : Int) ≤ 255) = true := by simp; omega
        clear ht3 hbel hb8 hcv2
        cases hr0 : (n.toList == [0]) with
        | true =>
          have htr := HTR.out
          rw [HT.out.root hr0] at htr
          subst htr
          go_wp2_with fail
          go_ret
          exact ⟨rfl, hB8⟩
        | false =>
          have htr := HTR.out
          rw [HT.out.short hr0] at htr
          subst htr
          go_wp2_with fail
          go_ret
          exact ⟨rfl, hB8⟩
end Go.Proofs.YtceafomifpkiaaaDoor
