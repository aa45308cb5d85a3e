/- The walk of derricklaw02.NameBack: it returns true, whatever the argument. -/
import Derived.Test.YtceafomifpkiaaaDoorNtm
import Derived.Test.YtceafomifpkiaaaDoorNmo
namespace Go.Proofs.YtceafomifpkiaaaDoor
open Go.RowKit
set_option linter.unusedVariables false

theorem nameIs_labsB {n : ByteArray} {ls : List (List UInt8)} (h : NameIs n ls) : labsB n = ls.map toB ∧ cerr n = 0 := by
  obtain ⟨hz, hl⟩ := wire_endZ h.ok h.eq
  have hc := (cnt_yes hz h.size).2
  refine ⟨?_, hc⟩
  unfold labsB
  rw [if_pos hc, ← hl]
  unfold labs
  rw [List.map_map]
  congr 1
theorem join_of {n : ByteArray} {ls ms : List (List UInt8)} (h : NameIs n ls) (hms : ms.map (·.map low) = ls) : joinS (ms.map toB) = n ∧ joinE (ms.map toB) = 0 := by
  have hok : ∀ m ∈ ms, okLb m := fun m hm => by
    have := h.ok (m.map low) (by rw [← hms]; exact List.mem_map.2 ⟨m, hm, rfl⟩)
    unfold okLb at *
    simpa using this
  have h1 : lbsOk (ms.map toB) = true := by
    unfold lbsOk
    rw [List.all_eq_true]
    intro x hx
    obtain ⟨m, hm, rfl⟩ := List.mem_map.1 hx
    have := hok m hm
    unfold okLb at this
    rw [toB_size]
    simpa using this
  have h2 : joinL (ms.map toB) = ls.flatMap enc1 := by
    rw [← hms]
    unfold joinL
    rw [List.flatMap_map, List.flatMap_map]
    congr 1
    funext m
    rw [toB_size, toB_list]
    simp [enc1]
  have h3 : (joinL (ms.map toB)).length + 1 ≤ 255 := by
    rw [h2]
    have := h.size
    rw [← ba_len, h.eq] at this
    simpa [wire] using this
  refine ⟨?_, ?_⟩
  · unfold joinS
    rw [if_pos ⟨h1, h3⟩, h2]
    apply ba_ext
    rw [h.eq]
    simp [wire]
  · unfold joinE
    rw [if_pos h1, if_pos h3]
theorem takeR_of {n : ByteArray} {ls ms : List (List UInt8)} {t : List UInt8} (h : NameIs n ls) (hms : ms.map (·.map low) = ls) (ht : splitL t = some ms) : takeR t = (n, 0) := by
  obtain ⟨h1, h2⟩ := join_of h hms
  unfold takeR
  rw [ht]
  show (if ms.all (fun l => decide (l.length ≤ 63)) = true then _ else _) = _
  rw [if_pos, h1, h2]
  rw [List.all_eq_true]
  intro m hm
  have := h.ok (m.map low) (by rw [← hms]; exact List.mem_map.2 ⟨m, hm, rfl⟩)
  unfold okLb at this
  simpa using this.2

/-- A small letter as the great one. -/
def up (c : UInt8) : UInt8 := if 97 ≤ c.toNat ∧ c.toNat ≤ 122 then c - 32 else c
theorem esc_up_fin : ∀ c : Fin 256, (esc (UInt8.ofNat c.val)).map up = esc (up (UInt8.ofNat c.val)) := by decide +kernel
theorem esc_up (c : UInt8) : (esc c).map up = esc (up c) := by
  have := esc_up_fin ⟨c.toNat, c.toNat_lt⟩
  simpa using this
theorem low_up_fin : ∀ c : Fin 256, low (UInt8.ofNat c.val) = UInt8.ofNat c.val → low (up (UInt8.ofNat c.val)) = UInt8.ofNat c.val := by decide +kernel
theorem low_up (c : UInt8) (h : low c = c) : low (up c) = c := by
  have := low_up_fin ⟨c.toNat, c.toNat_lt⟩
  simp only [UInt8.ofNat_toNat] at this
  exact this h
theorem escL_up (l : List UInt8) : (escL l).map up = escL (l.map up) := by
  induction l with
  | nil => rfl
  | cons c l ih =>
    simp only [escL, List.flatMap_cons, List.map_append, List.map_cons] at ih ⊢
    rw [ih, esc_up]
theorem textL_up (ls : List (List UInt8)) : (textL ls).map up = textL (ls.map (·.map up)) := by
  induction ls with
  | nil => rfl
  | cons l ls ih =>
    rw [textL_cons, List.map_append, List.map_cons, ih, escL_up, List.map_cons, textL_cons]
    rfl
theorem low_up_list {l : List UInt8} (h : l.map low = l) : (l.map up).map low = l := by
  rw [List.map_map]
  induction l with
  | nil => rfl
  | cons c l ih =>
    rw [List.map_cons] at h
    obtain ⟨h1, h2⟩ := List.cons.inj h
    rw [List.map_cons, ih h2]
    congr 1
    exact low_up c h1
theorem low_up_lists {ls : List (List UInt8)} (h : ∀ l ∈ ls, l.map low = l) : (ls.map (·.map up)).map (·.map low) = ls := by
  rw [List.map_map]
  induction ls with
  | nil => rfl
  | cons l ls ih =>
    rw [List.map_cons, ih (fun l' hl' => h l' (List.mem_cons_of_mem _ hl'))]
    congr 1
    exact low_up_list (h l (by simp))

theorem splF_dot : splF [46] = none := by
  have : cutOk [46] = false := by unfold cutOk; rw [scan_end (.inr rfl)]; rfl
  exact splF_bad (by rw [this]; decide)
theorem splF_nil : splF [] = none := by
  have : cutOk [] = false := by unfold cutOk; rw [scan_end (.inl rfl)]; rfl
  exact splF_bad (by rw [this]; decide)
theorem splitL_of {t : List UInt8} {ls : List (List UInt8)} (h : splF t = some ls) : splitL t = some ls := by
  unfold splitL
  by_cases e : t = [46]
  · rw [e, splF_dot] at h; cases h
  · rw [if_neg e, h]

/-- What the text of a name is taken as. -/
structure Texts (n : ByteArray) (T : List UInt8) : Prop where
  one : takeR T = (n, 0)
  great : takeR (T.map up) = (n, 0)
  root : (n.toList == [0]) = true → takeR T.dropLast = (⟨#[]⟩, 2)
  short : (n.toList == [0]) = false → takeR T.dropLast = (n, 0)
  pos : 1 ≤ T.length
  len : T.length ≤ 1000000
theorem texts_of {n : ByteArray} (hm : mayB n = true) : Texts n (textB n).data.toList := by
  have h := may_name hm
  have h0 := may_labs_nil hm
  obtain ⟨ls, hls⟩ : ∃ ls, labs n = ls := ⟨_, rfl⟩
  have hlen := textP_len (labsFrom n 0)
  have hll := labsFrom_len n n.size 0 (by omega)
  have hsz := h.size
  change (textL (labs n)).length ≤ _ at hlen
  rw [hls] at h h0 hlen
  by_cases he : ls = []
  · subst he
    have hr : (n.toList == [0]) = true := h0.2 rfl
    have hT : (textB n).data.toList = [46] := by unfold textB; rw [if_pos hm, if_pos hr]
    have hn : n = ⟨#[0]⟩ := by apply ba_ext; rw [h.eq]; rfl
    have hsp : splitL [46] = some [] := by unfold splitL; rw [if_pos rfl]
    have h46 := takeR_of (ms := []) h rfl hsp
    rw [hT]
    refine ⟨h46, h46, fun _ => ?_, fun h' => ?_, by simp, by simp⟩
    · show takeR [] = _
      unfold takeR splitL
      rw [if_neg (by simp), splF_nil]
    · rw [hr] at h'; cases h'
  · have hr : (n.toList == [0]) = false := by
      cases hr : (n.toList == [0]) with
      | false => rfl
      | true => exact (he (h0.1 hr)).elim
    have hT : (textB n).data.toList = textL ls := by unfold textB; rw [if_pos hm, if_neg (by rw [hr]; decide), hls]
    have hne : ∀ l ∈ ls, l ≠ [] := fun l hl e => by
      have := (h.ok l hl).1
      rw [e] at this
      simp at this
    have hne2 : ∀ l ∈ ls.map (·.map up), l ≠ [] := fun l hl e => by
      obtain ⟨l', hl', rfl⟩ := List.mem_map.1 hl
      exact hne l' hl' (by simpa using e)
    rw [hT]
    refine ⟨takeR_of h (map_map_low h.low) (splitL_of (splF_text ls he hne)), ?_, fun h' => ?_, fun _ => takeR_of h (map_map_low h.low) (splitL_of (splF_short ls he hne)), ?_, by omega⟩
    · rw [textL_up]
      exact takeR_of h (low_up_lists h.low) (splitL_of (splF_text _ (by simpa using he) hne2))
    · rw [hr] at h'; cases h'
    · have := textL_ne ls he
      rcases Nat.eq_zero_or_pos (textL ls).length with e | e
      · exact (this (List.eq_nil_of_length_eq_zero e)).elim
      · exact e
end Go.Proofs.YtceafomifpkiaaaDoor
