/- The walk of derricklaw02.NameJoins: it returns true, whatever the arguments; and the contract of derricklaw02.few. -/
import Derived.Test.YtceafomifpkiaaaDoorLba
namespace Go.Proofs.YtceafomifpkiaaaDoor
open Go.RowKit
set_option linter.unusedVariables false

def fewB (ls : List ByteArray) : Bool := decide (ls.length ≤ 300) && ls.all fun l => decide (l.size ≤ 300)
theorem fewB_iff {ls : List ByteArray} : fewB ls = true ↔ ls.length ≤ 300 ∧ ∀ l ∈ ls, l.size ≤ 300 := by simp [fewB]

set_option maxRecDepth 100000 in
set_option maxHeartbeats 1000000 in
theorem few_any (A : Option Addr) (cap : Nat) (ls : List ByteArray) (hl : ls.length ≤ 140737488355328) (w : World) (hS : Strs w A ls) :
    Calls Tryd.prog 11 #[.slice A ls.length cap] w fun e w' => e = .returned (.bool (fewB ls)) ∧ w = w' := by
  go_enter Tryd.func11, Tryd.ntmps11
  go_wp2_with fail
  go_loop [3] (fun i => ∃ k : Nat, k ≤ ls.length ∧ k ≤ 301 ∧ i = .int .i64 k ∧ (ls.take k).all (fun l => decide (l.size ≤ 300)) = true) (fun i => ls.length - (intOf i).toNat)
  case atStart => exact ⟨0, Nat.zero_le _, by omega, rfl, rfl⟩
  case round =>
    obtain ⟨k, hk, hk2, rfl, hok⟩ := hrel
    have HK := Lib.hid hok
    clear hok
    by_cases hlt : k < ls.length
    · by_cases h301 : k < 301
      · obtain ⟨ad, rfl, hb, hc⟩ := hS k hlt
        have hsn : (ls.take (k + 1)).all (fun l => decide (l.size ≤ 300)) = decide (ls[k].size ≤ 300) := by
          rw [List.take_succ_eq_append_getElem hlt, List.all_append, HK.out]; simp
        have hbad : ¬ ls[k].size ≤ 300 → fewB ls = false := by
          intro h
          cases hf : fewB ls with
          | false => rfl
          | true => exact (h ((fewB_iff.1 hf).2 _ (List.getElem_mem hlt))).elim
        have HS := Lib.hid hsn
        have HB := Lib.hid hbad
        generalize ls[k] = l at *
        clear hsn hbad hS
        by_cases h300 : l.size ≤ 300
        · have b1 : decide (300 < (l.size : Int)) = false := by simp; omega
          have hn : decide (l.size ≤ 300) = true := by simpa using h300
          have HN := Lib.hid hn
          clear hn h300
          go_wp2_with fail
          go_round
          case rel => exact ⟨k + 1, hlt, by omega, by go_num, HS.out.trans HN.out⟩
          case measure => simp [intOf]; omega
        · have b1 : decide (300 < (l.size : Int)) = true := by simp; omega
          have ht := HB.out h300
          have HT := Lib.hid ht
          clear h300 ht
          go_wp2_with fail
          go_ret
          exact ⟨by rw [HT.out]; rfl, rfl⟩
      · have ht : fewB ls = false := by
          cases hf : fewB ls with
          | false => rfl
          | true => have := (fewB_iff.1 hf).1; omega
        have HT := Lib.hid ht
        have b1 : decide ((ls.length : Int) ≤ 300) = false := by simp; omega
        clear ht
        go_wp2_with fail
        go_ret
        exact ⟨by rw [HT.out]; rfl, rfl⟩
    · have hall : (ls.all fun l => decide (l.size ≤ 300)) = true := by
        have := HK.out
        rwa [List.take_of_length_le (by omega)] at this
      have ht : fewB ls = decide ((ls.length : Int) ≤ 300) := by
        unfold fewB
        rw [hall, Bool.and_true]
        congr 1
        simp
        omega
      have HT := Lib.hid ht
      clear ht hall
      go_wp2_with fail
      go_ret
      exact ⟨by rw [HT.out]; rfl, rfl⟩

theorem joinL_length (ls : List ByteArray) : (joinL ls).length = (ls.map fun l => l.size + 1).sum := by
  induction ls with
  | nil => rfl
  | cons l ls ih =>
    simp only [joinL, List.flatMap_cons, List.length_append, List.length_cons, List.length_map, ba_len, List.map_cons, List.sum_cons] at ih ⊢
    rw [ih]
theorem empty_no : mayB ⟨#[]⟩ = false := by
  cases h : mayB ⟨#[]⟩ with
  | false => rfl
  | true =>
    have := (may_name h).eq
    have h2 := congrArg List.length this
    simp [wire] at h2
theorem join_may (ls : List ByteArray) : (joinE ls = 0 ∧ lbsOk ls = true ∧ (joinL ls).length + 1 ≤ 255 ∧ NameIs (joinS ls) (ls.map fun l => l.data.toList.map low) ∧ (joinS ls).size = (joinL ls).length + 1) ∨
    (joinE ls ≠ 0 ∧ joinS ls = ⟨#[]⟩ ∧ (lbsOk ls && decide ((joinL ls).length + 1 ≤ 255)) = false) := by
  cases h : lbsOk ls with
  | false =>
    right
    refine ⟨by unfold joinE; rw [if_neg (by rw [h]; decide)]; decide, by unfold joinS; rw [if_neg (by rw [h]; simp)], rfl⟩
  | true =>
    by_cases h2 : (joinL ls).length + 1 ≤ 255
    · left
      have hS : joinS ls = ⟨(joinL ls ++ [0]).toArray⟩ := by unfold joinS; rw [if_pos ⟨h, h2⟩]
      have hz : (joinS ls).size = (joinL ls).length + 1 := by rw [← ba_len, hS]; simp
      refine ⟨by unfold joinE; rw [if_pos h, if_pos h2], rfl, h2, ⟨?_, ?_, ?_, by omega⟩, hz⟩
      · intro l hl
        obtain ⟨x, hx, rfl⟩ := List.mem_map.1 hl
        unfold lbsOk at h
        rw [List.all_eq_true] at h
        have := h x hx
        unfold okLb
        simpa using this
      · intro l hl
        obtain ⟨x, hx, rfl⟩ := List.mem_map.1 hl
        rw [List.map_map]
        congr 1
        funext c
        exact low_low c
      · rw [hS]
        unfold wire joinL
        rw [List.flatMap_map]
        simp only [enc1, List.length_map, ba_len]
    · right
      refine ⟨by unfold joinE; rw [if_pos h, if_neg h2]; decide, by unfold joinS; rw [if_neg (fun e => h2 e.2)], by simp [h2]⟩
theorem take_may (t : List UInt8) : ((takeR t).2 == 0) = mayB (takeR t).1 := by
  unfold takeR
  split
  · rw [empty_no]; rfl
  · split
    · rename_i ls _ _
      rcases join_may (ls.map toB) with ⟨h1, _, _, h4, _⟩ | ⟨h1, h2, _⟩
      · rw [h1, h4.may.1]; rfl
      · rw [h2, empty_no]; simpa using h1
    · rw [empty_no]; rfl

theorem take_size (t : List UInt8) : (takeR t).1.size ≤ 255 := by
  unfold takeR
  split
  · exact Nat.zero_le _
  · split
    · rename_i ls _ _
      rcases join_may (ls.map toB) with ⟨_, _, _, h4, _⟩ | ⟨_, h2, _⟩
      · exact h4.size
      · rw [h2]; exact Nat.zero_le _
    · exact Nat.zero_le _
theorem lbsOk_take (ls : List ByteArray) (k : Nat) (hk : k < ls.length) : lbsOk (ls.take (k + 1)) = (lbsOk (ls.take k) && decide (1 ≤ ls[k].size ∧ ls[k].size ≤ 63)) := by
  rw [List.take_succ_eq_append_getElem hk]
  unfold lbsOk
  rw [List.all_append]
  simp
/-- How many bytes some labels take, with the zero byte. -/
def tot (ls : List ByteArray) : Nat := (joinL ls).length + 1
theorem tot_take (ls : List ByteArray) (k : Nat) (hk : k < ls.length) : tot (ls.take (k + 1)) = tot (ls.take k) + 1 + ls[k].size := by
  unfold tot
  rw [joinL_length, joinL_length, List.take_succ_eq_append_getElem hk, List.map_append, List.sum_append]
  simp
  omega
theorem tot_le (ls : List ByteArray) (h : ∀ l ∈ ls, l.size ≤ 300) (k : Nat) : tot (ls.take k) ≤ 301 * k + 1 := by
  induction k with
  | zero => simp [tot, joinL]
  | succ k ih =>
    by_cases hk : k < ls.length
    · rw [tot_take ls k hk]
      have := h _ (List.getElem_mem hk)
      omega
    · rw [List.take_of_length_le (by omega)] at ih ⊢
      omega

set_option maxRecDepth 100000 in
set_option maxHeartbeats 4000000 in
theorem joins_walk (A : Option Addr) (cap : Nat) (ls : List ByteArray) (s : ByteArray) (hl : ls.length ≤ 140737488355328) (hs : s.size ≤ 140737488355328) (w : World) (hS : Strs w A ls) (hg : Glob w) :
    Calls Tryd.prog 6 #[.slice A ls.length cap, .string s] w fun e w' => e = .returned (.bool true) ∧ Below w.heap.size w w' := by
  go_enter Tryd.func6, Tryd.ntmps6
  go_wp2_with fail
  refine (shown_any _ hg.tab).mono ?_; rintro e w1 ⟨rfl, hb1⟩
  have hS1 := hS.below hb1
  go_wp2_with fail
  refine (few_any A cap ls hl _ hS1).mono ?_; rintro e w2 ⟨rfl, rfl⟩
  cases hf : fewB ls with
  | false =>
    clear hf
    go_wp2_with fail
    go_ret
    exact ⟨rfl, hb1⟩
  | true =>
    obtain ⟨hf1, hf2⟩ := fewB_iff.1 hf
    have HF := Lib.hid hf2
    clear hf hf2
    by_cases hbig : 1000 < s.size
    · go_wp2_with fail
      go_ret
      exact ⟨rfl, hb1⟩
    go_wp2_with fail
    refine (join_any A cap ls _ hS1 (by omega)).mono ?_; rintro e w2 ⟨rfl, hb2⟩
    have hB2 := bthen hb1 hb2
    have hS2 := hS1.below hb2
    clear hS hS1 hb1 hb2
    go_wp2_with fail
    go_loop [8, 9, 10] (fun z r i => ∃ k : Nat, k ≤ ls.length ∧ i = .int .i64 k ∧ z = .int .i64 (tot (ls.take k) : Nat) ∧ r = .bool (lbsOk (ls.take k))) (fun _ _ i => ls.length - (intOf i).toNat)
    case atStart => exact ⟨0, Nat.zero_le _, rfl, rfl, rfl⟩
    case round =>
      obtain ⟨k, hk, rfl, rfl, rfl⟩ := hrel
      by_cases hlt : k < ls.length
      · obtain ⟨ad, rfl, hb, hc⟩ := hS2 k hlt
        have h1 := lbsOk_take ls k hlt
        have h2 := tot_take ls k hlt
        have h3 := tot_le ls HF.out k
        have h4 := HF.out _ (List.getElem_mem hlt)
        have H1 := Lib.hid h1
        have H2 := Lib.hid h2
        generalize ls[k] = l at *
        generalize tot (ls.take k) = z at *
        clear h1 h2 hS2
        cases hr : lbsOk (ls.take k) with
        | false =>
          rw [hr] at H1
          clear hr
          go_wp2_with fail
          go_round
          case rel => exact ⟨k + 1, hlt, by go_num, by rw [H2.out]; go_num, by rw [H1.out]; rfl⟩
          case measure => simp [intOf]; omega
        | true =>
          rw [hr] at H1
          clear hr
          by_cases g1 : 1 ≤ l.size
          · have d1 : decide ((1 : Int) ≤ (l.size : Int)) = true := by simp; omega
            by_cases g2 : l.size ≤ 63
            · have d2 : decide ((l.size : Int) ≤ 63) = true := by simp; omega
              have hd : decide (1 ≤ l.size ∧ l.size ≤ 63) = true := by simp; omega
              have HD := Lib.hid hd
              clear hd
              go_wp2_with fail
              go_round
              case rel => exact ⟨k + 1, hlt, by go_num, by rw [H2.out]; go_num, by rw [H1.out, HD.out]; rfl⟩
              case measure => simp [intOf]; omega
            · have d2 : decide ((l.size : Int) ≤ 63) = false := by simp; omega
              have hd : decide (1 ≤ l.size ∧ l.size ≤ 63) = false := by simp; omega
              have HD := Lib.hid hd
              clear hd
              go_wp2_with fail
              go_round
              case rel => exact ⟨k + 1, hlt, by go_num, by rw [H2.out]; go_num, by rw [H1.out, HD.out]; rfl⟩
              case measure => simp [intOf]; omega
          · have d1 : decide ((1 : Int) ≤ (l.size : Int)) = false := by simp; omega
            have hd : decide (1 ≤ l.size ∧ l.size ≤ 63) = false := by simp; omega
            have HD := Lib.hid hd
            clear hd
            go_wp2_with fail
            go_round
            case rel => exact ⟨k + 1, hlt, by go_num, by rw [H2.out]; go_num, by rw [H1.out, HD.out]; rfl⟩
            case measure => simp [intOf]; omega
      · have hfull : ls.take k = ls := List.take_of_length_le (by omega)
        rw [hfull]
        have htl := tot_le ls HF.out k
        rw [hfull] at htl
        clear hfull
        have hgr := hg.below hB2
        have htm := take_may s.data.toList
        have HTM := Lib.hid htm
        clear htm
        go_wp2_with fail
        refine (take_any s (by omega) _ hgr).mono ?_; rintro e w3 ⟨rfl, hb3⟩
        have hB3 := bthen hB2 hb3
        clear hgr hb3 hB2 hS2
        have htz : (takeR s.data.toList).1.size ≤ 140737488355328 := Nat.le_trans (take_size _) (by decide)
        generalize takeR s.data.toList = tr at *
        obtain ⟨tS, tE⟩ := tr
        dsimp only at *
        rcases join_may ls with ⟨j1, j2, j3, j4, j5⟩ | ⟨j1, j2, j3⟩
        · have m1 := j4.may.1
          have m2 : depthB (joinS ls) = (ls.length : Nat) := by rw [depth_name m1, j4.may.2]; simp
          have m3 : ((joinS ls).size : Int) = (tot ls : Nat) := by unfold tot; rw [j5]
          have m4 : decide ((tot ls : Int) ≤ 255) = true := by unfold tot; simp; omega
          have hjz : (joinS ls).size ≤ 140737488355328 := Nat.le_trans j4.size (by decide)
          have M1 := Lib.hid m1
          have M2 := Lib.hid m2
          have M3 := Lib.hid m3
          rw [j1, j2]
          generalize joinS ls = jS at *
          clear j1 j2 j3 j4 j5 m1 m2 m3
          go_wp2_with fail
          refine (may_any jS hjz _).mono ?_; rintro e w4 ⟨rfl, hb4⟩
          rw [M1.out]
          go_wp2_with fail
          refine (depth_any jS hjz _).mono ?_; rintro e w5 ⟨rfl, hb5⟩
          rw [M2.out]
          have q1 : ((jS.size : Int) == (tot ls : Int)) = true := by rw [M3.out]; simp
          go_wp2_with fail
          have hB5 := bthen (bthen hB3 hb4) hb5
          refine (may_any tS htz _).mono ?_; rintro e w6 ⟨rfl, hb6⟩
          cases hm : mayB tS with
          | true =>
            have h0 : (tE == 0) = true := by rw [HTM.out, hm]
            clear hm
            go_wp2_with fail
            go_ret
            exact ⟨rfl, bthen hB5 hb6⟩
          | false =>
            have h0 : (tE == 0) = false := by rw [HTM.out, hm]
            clear hm
            go_wp2_with fail
            go_ret
            exact ⟨rfl, bthen hB5 hb6⟩
        · rw [j2]
          have n1 : (joinE ls == 0) = false := by simpa using j1
          have n2 : (joinE ls != 0) = true := by simpa using j1
          generalize joinE ls = jE at *
          clear j1 j2
          cases hr : lbsOk ls with
          | false =>
            clear hr j3
            go_wp2_with fail
            refine (may_any tS htz _).mono ?_; rintro e w6 ⟨rfl, hb6⟩
            cases hm : mayB tS with
            | true =>
              have h0 : (tE == 0) = true := by rw [HTM.out, hm]
              clear hm
              go_wp2_with fail
              go_ret
              exact ⟨rfl, bthen hB3 hb6⟩
            | false =>
              have h0 : (tE == 0) = false := by rw [HTM.out, hm]
              clear hm
              go_wp2_with fail
              go_ret
              exact ⟨rfl, bthen hB3 hb6⟩
          | true =>
            rw [hr] at j3
            have m4 : decide ((tot ls : Int) ≤ 255) = false := by
              unfold tot
              have : ¬ (joinL ls).length + 1 ≤ 255 := by simpa using j3
              simp; omega
            clear hr j3
            go_wp2_with fail
            refine (may_any tS htz _).mono ?_; rintro e w6 ⟨rfl, hb6⟩
            cases hm : mayB tS with
            | true =>
              have h0 : (tE == 0) = true := by rw [HTM.out, hm]
              clear hm
              go_wp2_with fail
              go_ret
              exact ⟨rfl, bthen hB3 hb6⟩
            | false =>
              have h0 : (tE == 0) = false := by rw [HTM.out, hm]
              clear hm
              go_wp2_with fail
              go_ret
              exact ⟨rfl, bthen hB3 hb6⟩
end Go.Proofs.YtceafomifpkiaaaDoor
