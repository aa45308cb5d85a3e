/- The contracts of derrickref02.Strings, where the lists are the same, and of derrickref02.Under. -/
import Derived.Test.YtceafomifpkiaaaDoorReb
import Derived.Test.YtceafomifpkiaaaDoorNmo
namespace Go.Proofs.YtceafomifpkiaaaDoor
open Go.RowKit
set_option linter.unusedVariables false

set_option maxRecDepth 100000 in
set_option maxHeartbeats 1000000 in
theorem ref_strings (A B : Option Addr) (ca cb : Nat) (ls : List ByteArray) (hl : ls.length ≤ 1048576) (w : World) (hA : Strs w A ls) (hB : Strs w B ls) :
    Calls Tryd.prog 20 #[.slice A ls.length ca, .slice B ls.length cb] w fun e w' => e = .returned (.bool true) ∧ Below w.heap.size w w' := by
  go_enter Tryd.func20, Tryd.ntmps20
  go_wp2_with fail
  go_loopw [5] (fun i wr => ∃ k : Nat, k ≤ ls.length ∧ i = .int .i64 k ∧ Below w.heap.size w wr) (fun i _ => ls.length - (intOf i).toNat)
  case atStart => exact ⟨0, Nat.zero_le _, rfl, Below.refl _ _⟩
  case round =>
    obtain ⟨k, hk, rfl, hb⟩ := hrel
    by_cases hlt : k < ls.length
    · obtain ⟨ad, rfl, _, hc⟩ := (hA.below hb) k hlt
      obtain ⟨ae, rfl, _, hd⟩ := (hB.below hb) k hlt
      generalize ls[k] = l at *
      clear hA hB
      go_wp2_with fail
      go_quiet (fail)
      go_wp2_with fail
      go_roundw
      case rel => exact ⟨k + 1, hlt, by go_num, below_drewN hb _⟩
      case measure => simp [intOf]; omega
    · go_wp2_with fail
      go_ret
      exact ⟨rfl, hb⟩

def toBA (l : List UInt8) : ByteArray := ⟨l.toArray⟩
theorem nameIs_len {s : ByteArray} {ls : List (List UInt8)} (h : NameIs s ls) : ls.length ≤ 255 := by
  have h1 : ls.length ≤ (wire ls).length := by
    unfold wire
    rw [List.length_append]
    have : ls.length ≤ (ls.flatMap enc1).length := by
      clear h
      induction ls with
      | nil => simp
      | cons l ls ih =>
        rw [List.flatMap_cons, List.length_append]
        simp only [enc1, List.length_cons] at ih ⊢
        omega
    omega
  have h2 := h.size
  rw [← ba_len, h.eq] at h2
  omega
theorem labsB_labs {s : ByteArray} (h : mayB s = true) : labsB s = (labs s).map toBA := by
  unfold labsB
  rw [if_pos (may_name' h).1]
  unfold labs
  rw [List.map_map]
  rfl
theorem suffix_at {α : Type} (a b : List α) (h : b.length ≤ a.length) : b <:+ a ↔ ∀ i (hi : i < b.length), a[a.length - b.length + i]'(by omega) = b[i] := by
  constructor
  · rintro ⟨t, rfl⟩ i hi
    simp only [List.length_append]
    rw [List.getElem_append_right (by omega)]
    congr 1
    omega
  · intro hall
    refine ⟨a.take (a.length - b.length), ?_⟩
    have : a.drop (a.length - b.length) = b := by
      apply List.ext_getElem
      · rw [List.length_drop]; omega
      · intro i h1 h2
        rw [List.getElem_drop]
        exact hall i h2
    exact (congrArg (a.take (a.length - b.length) ++ ·) this.symm).trans (List.take_append_drop _ _)
theorem under_labsB {s z : ByteArray} (hs : mayB s = true) (hz : mayB z = true) : underB s z = true ↔ labsB z <:+ labsB s := by
  rw [under_iff, labsB_labs hs, labsB_labs hz]
  constructor
  · rintro ⟨_, _, h⟩; exact h.map _
  · intro h
    refine ⟨hs, hz, ?_⟩
    have h2 := h.map (fun b : ByteArray => b.data.toList)
    rw [List.map_map, List.map_map] at h2
    have e : (fun b : ByteArray => b.data.toList) ∘ toBA = id := by funext l; simp [toBA]
    rwa [e, List.map_id, List.map_id] at h2

set_option maxRecDepth 100000 in
set_option maxHeartbeats 2000000 in
theorem ref_under (s z : ByteArray) (hs : s.size ≤ 1048576) (hz : z.size ≤ 1048576) (w : World) :
    Calls Tryd.prog 24 #[.string s, .string z] w fun e w' => e = .returned (.bool (underB s z)) ∧ Below w.heap.size w w' := by
  go_enter Tryd.func24, Tryd.ntmps24
  go_wp2_with fail
  refine (ref_may s hs _).mono ?_; rintro e w1 ⟨rfl, hb1⟩
  cases hm : mayB s with
  | false =>
    have hu : underB s z = false := by simp [underB, hm]
    have HU := Lib.hid hu
    clear hu hm
    go_wp2_with fail
    go_ret
    exact ⟨by rw [HU.out]; rfl, hb1⟩
  | true =>
    have HM := Lib.hid hm
    clear hm
    go_wp2_with fail
    refine (ref_may z hz _).mono ?_; rintro e w2 ⟨rfl, hb2⟩
    have hB2 := bthen hb1 hb2
    clear hb1 hb2
    cases hm : mayB z with
    | false =>
      have hu : underB s z = false := by simp [underB, hm]
      have HU := Lib.hid hu
      clear hu hm
      go_wp2_with fail
      go_ret
      exact ⟨by rw [HU.out]; rfl, hB2⟩
    | true =>
      have hui := under_labsB HM.out hm
      have hl1 : (labsB s).length ≤ 255 := by rw [labsB_labs HM.out, List.length_map]; exact Nat.le_trans (nameIs_len (may_name HM.out)) (by decide)
      have hl2 : (labsB z).length ≤ 255 := by rw [labsB_labs hm, List.length_map]; exact Nat.le_trans (nameIs_len (may_name hm)) (by decide)
      have HUI := Lib.hid hui
      clear hui hm HM
      go_wp2_with fail
      refine (ref_labels s hs _).mono ?_; rintro e w3 ⟨A, ca, rfl, hA, hb3⟩
      go_wp2_with fail
      refine (ref_labels z hz _).mono ?_; rintro e w4 ⟨B, cb, rfl, hBs, hb4⟩
      have hA4 := hA.below hb4
      have hB4 := bthen (bthen hB2 hb3) hb4
      clear hA hb3 hb4 hB2
      generalize labsB s = ls at *
      generalize labsB z = ms at *
      by_cases hlen : ls.length < ms.length
      · have hu : underB s z = false := by
          cases hu : underB s z with
          | false => rfl
          | true => have := (HUI.out.1 hu).length_le; omega
        have HU := Lib.hid hu
        have b1 : decide ((ls.length : Int) < (ms.length : Int)) = true := by simp; omega
        clear hu
        go_wp2_with fail
        go_ret
        exact ⟨by rw [HU.out]; rfl, hB4⟩
      · have hsf := suffix_at ls ms (by omega)
        have HSF := Lib.hid hsf
        have b1 : decide ((ls.length : Int) < (ms.length : Int)) = false := by simp; omega
        clear hsf
        go_wp2_with fail
        go_loopw [9] (fun i wr => ∃ k : Nat, k ≤ ms.length ∧ i = .int .i64 k ∧ (∀ j (hj : j < ms.length), j < k → ls[ls.length - ms.length + j]'(by omega) = ms[j]) ∧ Below w4.heap.size w4 wr) (fun i _ => ms.length - (intOf i).toNat)
        case atStart => exact ⟨0, Nat.zero_le _, rfl, fun j _ h => absurd h (by omega), Below.refl _ _⟩
        case round =>
          obtain ⟨k, hk, rfl, hall, hb⟩ := hrel
          have HALL := Lib.hid hall
          clear hall
          by_cases hlt : k < ms.length
          · have hi2 : ls.length - ms.length + k < ls.length := by omega
            obtain ⟨ad, rfl, _, hc⟩ := (hA4.below hb) (ls.length - ms.length + k) hi2
            obtain ⟨ae, rfl, _, hd⟩ := (hBs.below hb) k hlt
            have hw1 : IntKind.i64.wrap ((ls.length : Int) - (ms.length : Int)) = (ls.length : Int) - (ms.length : Int) := IntWalk.i64_in _ (by omega)
            have hw2 : IntKind.i64.wrap ((ls.length : Int) - (ms.length : Int) + (k : Int)) = (ls.length : Int) - (ms.length : Int) + (k : Int) := IntWalk.i64_in _ (by omega)
            have hw3 : ((ls.length : Int) - (ms.length : Int) + (k : Int)).toNat = ls.length - ms.length + k := by omega
            have hw4 : 0 ≤ (ls.length : Int) - (ms.length : Int) + (k : Int) := by omega
            have hw5 : (ls.length : Int) - (ms.length : Int) + (k : Int) < (ls.length : Int) := by omega
            by_cases heq : ls[ls.length - ms.length + k] = ms[k]
            · have hn : ∀ j (hj : j < ms.length), j < k + 1 → ls[ls.length - ms.length + j]'(by omega) = ms[j] := by
                intro j hj hjk
                by_cases e : j = k
                · subst e; exact heq
                · exact HALL.out j hj (by omega)
              have HN := Lib.hid hn
              rw [heq] at hc
              generalize ms[k] = l at *
              clear hn heq hA4 hBs
              go_wp2_with fail
              go_quiet (fail)
              go_wp2_with fail
              go_roundw
              case rel => exact ⟨k + 1, hlt, by go_num, HN.out, below_drewN hb _⟩
              case measure => simp [intOf]; omega
            · have hu : underB s z = false := by
                cases hu : underB s z with
                | false => rfl
                | true => exact (heq ((HSF.out.1 (HUI.out.1 hu)) k hlt)).elim
              have HU := Lib.hid hu
              have b2 : (!((ls[ls.length - ms.length + k]).toList == ms[k].toList)) = true := by
                rw [ByteArray.toList_eq, ByteArray.toList_eq]
                have : ls[ls.length - ms.length + k].data.toList ≠ ms[k].data.toList := fun e => heq (ba_ext e)
                simpa using this
              generalize ls[ls.length - ms.length + k] = l1 at *
              generalize ms[k] = l2 at *
              clear hu heq hA4 hBs
              go_wp2_with fail
              go_quiet (fail)
              go_wp2_with fail
              go_ret
              exact ⟨by rw [HU.out]; rfl, bthen hB4 (below_drewN hb _)⟩
          · have hu : underB s z = true := HUI.out.2 (HSF.out.2 (fun i hi => HALL.out i hi (by omega)))
            have HU := Lib.hid hu
            clear hu
            go_wp2_with fail
            go_ret
            exact ⟨by rw [HU.out]; rfl, bthen hB4 hb⟩
end Go.Proofs.YtceafomifpkiaaaDoor
