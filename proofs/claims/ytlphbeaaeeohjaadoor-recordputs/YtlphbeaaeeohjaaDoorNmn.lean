/- Plain mathematics: what is a name, by its labels. -/
import Derived.Test.YtlphbeaaeeohjaaDoorNmd
namespace Go.Proofs.YtlphbeaaeeohjaaDoor
open Go

theorem low_len {n : Nat} (h : n ≤ 63) : low (UInt8.ofNat n) = UInt8.ofNat n := by
  unfold low
  rw [UInt8.toNat_ofNat', if_neg (by omega)]
theorem map_low_enc1 (l : List UInt8) (h : l.length ≤ 63) : (enc1 l).map low = enc1 (l.map low) := by
  simp only [enc1, List.map_cons, low_len h, List.length_map]
theorem map_low_wire (ls : List (List UInt8)) (h : ∀ l ∈ ls, okLb l) : (wire ls).map low = wire (ls.map (·.map low)) := by
  unfold wire
  rw [List.map_append]
  congr 1
  induction ls with
  | nil => rfl
  | cons l ls ih =>
    rw [List.flatMap_cons, List.map_append, List.map_cons, List.flatMap_cons, ih (fun l' hl' => h l' (List.mem_cons_of_mem _ hl')), map_low_enc1 l (h l (by simp)).2]
theorem low_low (c : UInt8) : low (low c) = low c := by
  unfold low
  by_cases h : 65 ≤ c.toNat ∧ c.toNat ≤ 90
  · rw [if_pos h]
    have : (c + 32).toNat = c.toNat + 32 := by rw [UInt8.toNat_add]; simp; omega
    rw [if_neg (by omega)]
  · rw [if_neg h, if_neg h]
theorem okLb_low {l : List UInt8} (h : okLb l) : okLb (l.map low) := by unfold okLb at *; simpa using h

/-- A string is the name with these labels. -/
structure NameIs (s : ByteArray) (ls : List (List UInt8)) : Prop where
  ok : ∀ l ∈ ls, okLb l
  low : ∀ l ∈ ls, l.map low = l
  eq : s.data.toList = wire ls
  size : s.size ≤ 255

theorem foldB_eq_iff (s : ByteArray) : ((foldB s).toList == s.toList) = true ↔ s.data.toList.map low = s.data.toList := by
  rw [ByteArray.toList_eq, ByteArray.toList_eq, foldB_list]
  simp
theorem map_map_low {ls : List (List UInt8)} (h : ∀ l ∈ ls, l.map low = l) : ls.map (·.map low) = ls := by
  induction ls with
  | nil => rfl
  | cons l ls ih => rw [List.map_cons, h l (by simp), ih (fun l' hl' => h l' (List.mem_cons_of_mem _ hl'))]
theorem NameIs.may {s : ByteArray} {ls : List (List UInt8)} (h : NameIs s ls) : mayB s = true ∧ labs s = ls := by
  obtain ⟨hz, hl⟩ := wire_endZ h.ok h.eq
  refine ⟨?_, hl⟩
  unfold mayB
  rw [(cnt_yes hz h.size).2, Bool.and_eq_true]
  refine ⟨rfl, (foldB_eq_iff s).2 ?_⟩
  rw [h.eq, map_low_wire ls h.ok, map_map_low h.low]
theorem may_name {s : ByteArray} (h : mayB s = true) : NameIs s (labs s) := by
  unfold mayB at h
  simp only [Bool.and_eq_true, beq_iff_eq] at h
  obtain ⟨h1, h2⟩ := h
  have hz : endZ s = true := by
    cases hz : endZ s with
    | false => rw [(cnt_form hz).2] at h1; omega
    | true => rfl
  have hs : s.size ≤ 255 := by
    rcases Nat.lt_or_ge 255 s.size with h3 | h3
    · rw [(cnt_long hz h3).2] at h1; omega
    · exact h3
  obtain ⟨he, hok⟩ := endZ_wire hz
  refine ⟨hok, ?_, he, hs⟩
  have h3 := (foldB_eq_iff s).1 (by simpa using h2)
  rw [he, map_low_wire _ hok] at h3
  have h4 : (labs s).map (·.map low) = labs s := wire_inj (fun l hl => by
    obtain ⟨l', hl', rfl⟩ := List.mem_map.1 hl
    exact okLb_low (hok l' hl')) hok h3
  intro l hl
  obtain ⟨i, hi, rfl⟩ := List.getElem_of_mem hl
  have := congrArg (fun L => L[i]?) h4
  simp [hi] at this
  exact this
theorem cnt_name {s : ByteArray} (h : mayB s = true) : cnt s = (labs s).length := by
  have hn := may_name h
  rw [(cnt_yes (wire_endZ hn.ok hn.eq).1 hn.size).1]
  simp [labs]
theorem depth_name {s : ByteArray} (h : mayB s = true) : depthB s = (labs s).length := by
  unfold depthB
  rw [if_pos h, cnt_name h]
theorem may_labs_nil {s : ByteArray} (h : mayB s = true) : (s.toList == [0]) = true ↔ labs s = [] := by
  have hn := may_name h
  rw [ByteArray.toList_eq, hn.eq]
  constructor
  · intro he
    have : wire (labs s) = wire [] := by rw [eq_of_beq he]; rfl
    exact wire_inj hn.ok (by simp) this
  · intro he; rw [he]; rfl

theorem tails_aux (s : ByteArray) : ∀ (m p : Nat), s.size - p ≤ m → s.data.toList.drop (endFrom s p) = [0] → ∀ t : List UInt8, ((∃ x ∈ labsFrom s p, s.data.toList.drop (nxt s x.1) = t) ↔ ∃ k, 1 ≤ k ∧ k ≤ ((labsFrom s p).map lab).length ∧ wire (((labsFrom s p).map lab).drop k) = t) := by
  intro m
  induction m with
  | zero =>
    intro p h hz t
    have hn : ¬ isL s p = true := fun h' => by have := isL_iff.1 h'; omega
    rw [labsFrom_nil hn]
    simp
    omega
  | succ m ih =>
    intro p h hz t
    by_cases hl : isL s p = true
    · have h' := isL_iff.1 hl
      have hm : s.size - nxt s p ≤ m := by unfold nxt at *; omega
      rw [endFrom_cons hl] at hz
      have hsp := split_from s m (nxt s p) hm
      rw [hz] at hsp
      have hih := ih (nxt s p) hm hz t
      rw [labsFrom_cons hl]
      constructor
      · rintro ⟨x, hx, e⟩
        rcases List.mem_cons.1 hx with rfl | hx
        · exact ⟨1, by omega, by simp, by rw [← e, hsp]; rfl⟩
        · obtain ⟨k, h1, h2, h3⟩ := hih.1 ⟨x, hx, e⟩
          exact ⟨k + 1, by omega, by simpa using h2, by simpa using h3⟩
      · rintro ⟨k, h1, h2, e⟩
        by_cases hk : k = 1
        · subst hk
          exact ⟨⟨p, hl⟩, by simp, by rw [hsp, ← e]; rfl⟩
        · obtain ⟨x, hx, e'⟩ := hih.2 ⟨k - 1, by omega, by simp at h2 ⊢; omega, by
            rw [← e]
            obtain ⟨j, rfl⟩ : ∃ j, k = j + 1 := ⟨k - 1, by omega⟩
            simp⟩
          exact ⟨x, List.mem_cons_of_mem _ hx, e'⟩
    · rw [labsFrom_nil hl]
      simp
      omega
end Go.Proofs.YtlphbeaaeeohjaaDoor
