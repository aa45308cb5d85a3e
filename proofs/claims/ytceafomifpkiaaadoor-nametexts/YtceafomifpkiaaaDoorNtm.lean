/- Plain mathematics: the text of labels is taken as these labels. -/
import Derived.Test.YtceafomifpkiaaaDoorNty
namespace Go.Proofs.YtceafomifpkiaaaDoor
open Go

theorem num3_dec : ∀ c : Fin 256, num3 [UInt8.ofNat (48 + c.val / 100), UInt8.ofNat (48 + c.val / 10 % 10), UInt8.ofNat (48 + c.val % 10)] = some c.val := by decide +kernel
theorem unesc_esc (c : UInt8) (t : List UInt8) : unesc (esc c ++ t) = (c, (esc c).length) := by
  have hc := c.toNat_lt
  by_cases h1 : c.toNat = 46 ∨ c.toNat = 92
  · have he : esc c = [92, c] := by unfold esc; rw [if_pos h1]
    rw [he]
    unfold unesc
    rw [if_neg (by simp), if_pos (by simpa using h1)]
    rfl
  · by_cases h2 : 33 ≤ c.toNat ∧ c.toNat ≤ 126
    · have he : esc c = [c] := by unfold esc; rw [if_neg h1, if_pos h2]
      rw [he]
      unfold unesc
      rw [if_pos (by simp; omega)]
      rfl
    · have he : esc c = [92, UInt8.ofNat (48 + c.toNat / 100), UInt8.ofNat (48 + c.toNat / 10 % 10), UInt8.ofNat (48 + c.toNat % 10)] := by unfold esc; rw [if_neg h1, if_neg h2]
      rw [he]
      unfold unesc
      have hn := num3_dec ⟨c.toNat, hc⟩
      have h48 : (UInt8.ofNat (48 + c.toNat / 100)).toNat = 48 + c.toNat / 100 := by rw [UInt8.toNat_ofNat']; omega
      rw [if_neg (by simp), if_neg, if_neg (by simp)]
      · have : List.take 3 (List.drop 1 ([92, UInt8.ofNat (48 + c.toNat / 100), UInt8.ofNat (48 + c.toNat / 10 % 10), UInt8.ofNat (48 + c.toNat % 10)] ++ t)) = [UInt8.ofNat (48 + c.toNat / 100), UInt8.ofNat (48 + c.toNat / 10 % 10), UInt8.ofNat (48 + c.toNat % 10)] := rfl
        rw [this, hn]
        simp
      · rintro ⟨_, h3⟩
        have h4 : (([92, UInt8.ofNat (48 + c.toNat / 100), UInt8.ofNat (48 + c.toNat / 10 % 10), UInt8.ofNat (48 + c.toNat % 10)] ++ t).getD 1 0).toNat = 48 + c.toNat / 100 := h48
        omega
theorem rd_esc (c : UInt8) (t : List UInt8) : rdOk (esc c ++ t) = true ∧ rdC (esc c ++ t) = c ∧ rdN (esc c ++ t) = (esc c).length := by
  have h := unesc_esc c t
  have hok : rdOk (esc c ++ t) = true := by
    unfold rdOk
    rw [h]
    simp
  refine ⟨hok, ?_, ?_⟩
  · unfold rdC; rw [if_pos hok, h]
  · unfold rdN; rw [if_pos hok, h]
theorem esc_head (c : UInt8) (t : List UInt8) : ¬ (esc c ++ t = [] ∨ ((esc c ++ t).getD 0 0).toNat = 46) := by
  rintro (h | h)
  · have := esc_len c
    have h2 := congrArg List.length h
    simp at h2
    rw [h2.1] at this
    simp at this
  · by_cases h1 : c.toNat = 46 ∨ c.toNat = 92
    · have he : esc c = [92, c] := by unfold esc; rw [if_pos h1]
      rw [he] at h
      simp at h
    · by_cases h2 : 33 ≤ c.toNat ∧ c.toNat ≤ 126
      · have he : esc c = [c] := by unfold esc; rw [if_neg h1, if_pos h2]
        rw [he] at h
        simp at h
        omega
      · have he : esc c = [92, UInt8.ofNat (48 + c.toNat / 100), UInt8.ofNat (48 + c.toNat / 10 % 10), UInt8.ofNat (48 + c.toNat % 10)] := by unfold esc; rw [if_neg h1, if_neg h2]
        rw [he] at h
        simp at h
theorem scan_text (b t : List UInt8) (h : t = [] ∨ (t.getD 0 0).toNat = 46) : scan (escL b ++ t) = some (b, t) := by
  induction b with
  | nil => simpa [escL] using scan_end h
  | cons c b ih =>
    have e : escL (c :: b) ++ t = esc c ++ (escL b ++ t) := by simp [escL]
    obtain ⟨h1, h2, h3⟩ := rd_esc c (escL b ++ t)
    rw [e, scan_step (esc_head c _) h1, h2, h3, List.drop_left', ih]
    · rfl
    · rfl
theorem cut_text (b t : List UInt8) (hb : b ≠ []) (h : t = [] ∨ (t.getD 0 0).toNat = 46) : cutOk (escL b ++ t) = true ∧ cutB (escL b ++ t) = b ∧ cutR (escL b ++ t) = t.drop 1 := by
  have hs := scan_text b t h
  unfold cutOk cutB cutR
  rw [hs]
  refine ⟨?_, rfl, rfl⟩
  have : b.length ≠ 0 := fun e => hb (List.eq_nil_of_length_eq_zero e)
  simp
  omega
theorem textL_cons (l : List UInt8) (ls : List (List UInt8)) : textL (l :: ls) = escL l ++ (46 :: textL ls) := by simp [textL]
theorem textL_ne (ls : List (List UInt8)) (h : ls ≠ []) : textL ls ≠ [] := by
  cases ls with
  | nil => exact (h rfl).elim
  | cons l ls => rw [textL_cons]; simp
theorem splF_text (ls : List (List UInt8)) : ls ≠ [] → (∀ l ∈ ls, l ≠ []) → splF (textL ls) = some ls := by
  induction ls with
  | nil => intro h; exact (h rfl).elim
  | cons l ls ih =>
    intro _ hne
    obtain ⟨h1, h2, h3⟩ := cut_text l (46 :: textL ls) (hne l (by simp)) (.inr rfl)
    rw [textL_cons, splF_ok h1, h2, h3]
    show (cont (textL ls) false).map _ = _
    unfold cont
    by_cases h0 : ls = []
    · subst h0
      rw [if_pos ⟨rfl, rfl⟩]; rfl
    · rw [if_neg (fun e => textL_ne ls h0 e.2), ih h0 (fun l' hl' => hne l' (List.mem_cons_of_mem _ hl'))]
      rfl
/-- Without the last point. -/
theorem splF_short (ls : List (List UInt8)) : ls ≠ [] → (∀ l ∈ ls, l ≠ []) → splF (textL ls).dropLast = some ls := by
  induction ls with
  | nil => intro h; exact (h rfl).elim
  | cons l ls ih =>
    intro _ hne
    by_cases h0 : ls = []
    · subst h0
      have e : (textL [l]).dropLast = escL l ++ [] := by simp [textL]
      obtain ⟨h1, h2, h3⟩ := cut_text l [] (hne l (by simp)) (.inl rfl)
      rw [e, splF_ok h1, h2, h3]
      rfl
    · have e : (textL (l :: ls)).dropLast = escL l ++ (46 :: (textL ls).dropLast) := by
        rw [textL_cons, List.dropLast_append_of_ne_nil (by simp), List.dropLast_cons_of_ne_nil (textL_ne ls h0)]
      obtain ⟨h1, h2, h3⟩ := cut_text l (46 :: (textL ls).dropLast) (hne l (by simp)) (.inr rfl)
      have ih' := ih h0 (fun l' hl' => hne l' (List.mem_cons_of_mem _ hl'))
      rw [e, splF_ok h1, h2, h3]
      show (cont (textL ls).dropLast false).map _ = _
      unfold cont
      rw [if_neg, ih']
      · rfl
      · rintro ⟨_, e2⟩
        rw [e2] at ih'
        have : cutOk ([] : List UInt8) = false := by unfold cutOk; rw [scan_end (.inl rfl)]; rfl
        rw [splF_bad (by rw [this]; decide)] at ih'
        cases ih'
end Go.Proofs.YtceafomifpkiaaaDoor
