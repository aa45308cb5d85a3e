/- The walk of derricklaw02.NameParents: it returns true, whatever the argument. -/
import Derived.Test.YtceafomifpkiaaaDoorNmo
namespace Go.Proofs.YtceafomifpkiaaaDoor
open Go.RowKit
set_option linter.unusedVariables false

/-- The name with these labels. -/
def nameOf (ls : List (List UInt8)) : ByteArray := ⟨(wire ls).toArray⟩
theorem nameOf_list (ls : List (List UInt8)) : (nameOf ls).data.toList = wire ls := by simp [nameOf]
theorem nameOf_size (ls : List (List UInt8)) : (nameOf ls).size = (wire ls).length := by rw [← ba_len, nameOf_list]
theorem wire_cons (l : List UInt8) (ls : List (List UInt8)) : wire (l :: ls) = enc1 l ++ wire ls := by simp [wire]
theorem wire_drop_len (ls : List (List UInt8)) (i : Nat) : (wire (ls.drop i)).length ≤ (wire ls).length := by
  induction ls generalizing i with
  | nil => simp
  | cons l ls ih =>
    cases i with
    | zero => simp
    | succ i =>
      have := ih i
      rw [List.drop_succ_cons, wire_cons, List.length_append]
      omega
theorem wire_len (ls : List (List UInt8)) (h : ∀ l ∈ ls, okLb l) : 2 * ls.length + 1 ≤ (wire ls).length := by
  induction ls with
  | nil => simp [wire]
  | cons l ls ih =>
    have h1 := ih (fun l' hl' => h l' (List.mem_cons_of_mem _ hl'))
    have h2 := (h l (by simp)).1
    rw [wire_cons, List.length_append]
    simp only [enc1, List.length_cons]
    omega
theorem NameIs.drop {s : ByteArray} {ls : List (List UInt8)} (h : NameIs s ls) (i : Nat) : NameIs (nameOf (ls.drop i)) (ls.drop i) := by
  refine ⟨fun l hl => h.ok l (List.mem_of_mem_drop hl), fun l hl => h.low l (List.mem_of_mem_drop hl), nameOf_list _, ?_⟩
  rw [nameOf_size]
  have h1 := wire_drop_len ls i
  have h2 := h.size
  rw [← ba_len, h.eq] at h2
  omega
theorem NameIs.self {s : ByteArray} {ls : List (List UInt8)} (h : NameIs s ls) : s = nameOf ls := by
  apply ba_ext; rw [nameOf_list]; exact h.eq
theorem NameIs.len {s : ByteArray} {ls : List (List UInt8)} (h : NameIs s ls) : ls.length ≤ 127 := by
  have h1 := wire_len ls h.ok
  have h2 := h.size
  rw [← ba_len, h.eq] at h2
  omega
theorem NameIs.parent {s : ByteArray} {l : List UInt8} {ls : List (List UInt8)} (h : NameIs s (l :: ls)) : parB s = true ∧ parS s = nameOf ls := by
  obtain ⟨h1, h2⟩ := h.may
  have h0 : (s.toList == [0]) = false := by
    cases h3 : (s.toList == [0]) with
    | false => rfl
    | true => rw [(may_labs_nil h1).1 h3] at h2; cases h2
  have hp : parB s = true := by simp [parB, h1, h0]
  refine ⟨hp, ?_⟩
  unfold parS
  rw [if_pos hp]
  apply ba_ext
  rw [nameOf_list, extract_list, ← ba_len, List.take_length]
  have hz := wire_endZ h.ok h.eq
  have hL : isL s 0 = true := by
    cases hL : isL s 0 with
    | true => rfl
    | false =>
      have : labs s = [] := by unfold labs; rw [labsFrom_nil (by rw [hL]; decide)]; rfl
      rw [h2] at this; cases this
  have h4 := lab_enc ⟨0, hL⟩
  have h5 : lab ⟨0, hL⟩ = l := by
    have : labs s = lab ⟨0, hL⟩ :: (labsFrom s (nxt s 0)).map lab := by unfold labs; rw [labsFrom_cons hL]; rfl
    rw [h2] at this
    exact (List.cons.inj this).1.symm
  rw [h5, List.drop_zero, h.eq, wire_cons] at h4
  rw [h.eq, wire_cons]
  exact (List.append_cancel_left h4).symm
theorem NameIs.root {s : ByteArray} {ls : List (List UInt8)} (h : NameIs s ls) : underB s ⟨#[0]⟩ = true := by
  have h1 := h.may
  have h2 : NameIs ⟨#[0]⟩ [] := ⟨by simp, by simp, rfl, by decide⟩
  rw [under_iff]
  refine ⟨h1.1, h2.may.1, ?_⟩
  rw [h2.may.2]
  exact List.nil_suffix
theorem NameIs.under_drop {s : ByteArray} {ls : List (List UInt8)} (h : NameIs s ls) (i : Nat) : underB s (nameOf (ls.drop i)) = true := by
  rw [under_iff, (h.drop i).may.2, h.may.2]
  exact ⟨h.may.1, (h.drop i).may.1, List.drop_suffix _ _⟩
theorem NameIs.not_under {s : ByteArray} {ls : List (List UInt8)} (h : NameIs s ls) (i : Nat) (hi : i < ls.length) : underB (nameOf (ls.drop (i + 1))) s = false := by
  cases hu : underB (nameOf (ls.drop (i + 1))) s with
  | false => rfl
  | true =>
    rw [under_iff, (h.drop (i + 1)).may.2, h.may.2] at hu
    have := hu.2.2.length_le
    simp at this
    omega

set_option maxRecDepth 100000 in
set_option maxHeartbeats 2000000 in
theorem parents_walk (s : ByteArray) (hs : s.size ≤ 140737488355328) (w : World) (ht : Tab w) :
    Calls Tryd.prog 7 #[.string s] w fun e w' => e = .returned (.bool true) ∧ Below w.heap.size w w' := by
  have hroot : (⟨#[0]⟩ : ByteArray).size ≤ 140737488355328 := by decide
  go_enter Tryd.func7, Tryd.ntmps7
  go_wp2_with fail
  refine (shown_any _ ht).mono ?_; rintro e w1 ⟨rfl, hb1⟩
  go_wp2_with fail
  refine (may_any s hs _).mono ?_; rintro e w2 ⟨rfl, hb2⟩
  have hB := bthen hb1 hb2
  clear hb1 hb2 ht
  cases hm : mayB s with
  | false =>
    have e1 : parB s = false := by simp [parB, hm]
    have e2 : underB s ⟨#[0]⟩ = false := by simp [underB, hm]
    have e3 : depthB s = -1 := by simp [depthB, hm]
    have E1 := Lib.hid e1
    have E2 := Lib.hid e2
    have E3 := Lib.hid e3
    clear e1 e2 e3 hm
    go_wp2_with fail
    refine (parent_any s hs _).mono ?_; rintro e w3 ⟨rfl, hb3⟩
    rw [E1.out]
    go_wp2_with fail
    refine (under_any s _ hs hroot _).mono ?_; rintro e w4 ⟨rfl, hb4⟩
    rw [E2.out]
    go_wp2_with fail
    refine (depth_any s hs _).mono ?_; rintro e w5 ⟨rfl, hb5⟩
    rw [E3.out]
    go_wp2_with fail
    go_ret
    exact ⟨rfl, bthen (bthen (bthen hB hb3) hb4) hb5⟩
  | true =>
    have hn := may_name hm
    obtain ⟨ls, hls⟩ : ∃ ls, labs s = ls := ⟨_, rfl⟩
    rw [hls] at hn
    have hd : depthB s = (ls.length : Nat) := by rw [depth_name hm, hls]
    have hlen := hn.len
    have HN := Lib.hid hn
    have HD := Lib.hid hd
    have hself : s = nameOf (ls.drop 0) := by simpa using hn.self
    have HSelf := Lib.hid hself
    clear hn hd hls hm hself
    go_wp2_with fail
    refine (depth_any s hs _).mono ?_; rintro e w3 ⟨rfl, hb3⟩
    rw [HD.out]
    have hB3 := bthen hB hb3
    clear hB hb3
    go_wp2_with fail
    go_loopw [7, 8] (fun p i wr => ∃ k : Nat, k ≤ ls.length ∧ i = .int .i64 k ∧ p = .string (nameOf (ls.drop k)) ∧ Below w.heap.size w wr) (fun _ i _ => ls.length - (intOf i).toNat)
    case atStart => exact ⟨0, Nat.zero_le _, rfl, by rw [← HSelf.out], hB3⟩
    case round =>
      obtain ⟨k, hk, rfl, rfl, hB⟩ := hrel
      by_cases hlt : k < ls.length
      · have hz : (nameOf (ls.drop k)).size ≤ 140737488355328 := Nat.le_trans (HN.out.drop k).size (by decide)
        have hz2 : (nameOf (ls.drop (k + 1))).size ≤ 140737488355328 := Nat.le_trans (HN.out.drop (k + 1)).size (by decide)
        have hcons : ls.drop k = ls[k] :: ls.drop (k + 1) := List.drop_eq_getElem_cons hlt
        have hp := (HN.out.drop k)
        have hpar : parB (nameOf (ls.drop k)) = true ∧ parS (nameOf (ls.drop k)) = nameOf (ls.drop (k + 1)) := by
          have h3 := HN.out.drop k
          generalize nameOf (ls.drop k) = q at *
          rw [hcons] at h3
          exact h3.parent
        have hdn : depthB (nameOf (ls.drop (k + 1))) = (ls.length : Int) - 1 - (k : Int) := by
          rw [depth_name (HN.out.drop (k + 1)).may.1, (HN.out.drop (k + 1)).may.2, List.length_drop]
          omega
        have P1 := Lib.hid hpar.1
        have P2 := Lib.hid hpar.2
        have U1 := Lib.hid (HN.out.under_drop (k + 1))
        have U2 := Lib.hid (HN.out.not_under k hlt)
        have D1 := Lib.hid hdn
        clear hcons hp hpar hdn
        go_wp2_with fail
        refine (parent_any _ hz _).mono ?_; rintro e w4 ⟨rfl, hb4⟩
        rw [P1.out, P2.out]
        go_wp2_with fail
        refine (under_any s _ hs hz2 _).mono ?_; rintro e w5 ⟨rfl, hb5⟩
        rw [U1.out]
        go_wp2_with fail
        refine (under_any _ s hz2 hs _).mono ?_; rintro e w6 ⟨rfl, hb6⟩
        rw [U2.out]
        go_wp2_with fail
        refine (depth_any _ hz2 _).mono ?_; rintro e w7 ⟨rfl, hb7⟩
        rw [D1.out]
        go_wp2_with fail
        go_roundw
        case rel => exact ⟨k + 1, hlt, by go_num, rfl, bthen (bthen (bthen (bthen hB hb4) hb5) hb6) hb7⟩
        case measure => simp [intOf]; omega
      · have hr : ls.drop k = [] := List.drop_of_length_le (by omega)
        have hrb : ((nameOf (ls.drop k)).toList == [0]) = true := by rw [hr, ByteArray.toList_eq]; rfl
        have U1 : underB s s = true := by
          have := HN.out.under_drop 0
          rw [← HSelf.out] at this
          exact this
        have U2 := HN.out.root
        have V1 := Lib.hid U1
        have V2 := Lib.hid U2
        clear hr U1 U2
        go_wp2_with fail
        refine (under_any s s hs hs _).mono ?_; rintro e w4 ⟨rfl, hb4⟩
        rw [V1.out]
        go_wp2_with fail
        refine (under_any s _ hs hroot _).mono ?_; rintro e w5 ⟨rfl, hb5⟩
        rw [V2.out]
        go_wp2_with fail
        go_ret
        exact ⟨rfl, bthen (bthen hB hb4) hb5⟩
end Go.Proofs.YtceafomifpkiaaaDoor
