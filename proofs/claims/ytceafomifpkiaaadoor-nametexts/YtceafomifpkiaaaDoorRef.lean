/- Plain mathematics of derrickref02.Take: it tells what the program's Take tells. -/
import Derived.Test.YtceafomifpkiaaaDoorRed
namespace Go.Proofs.YtceafomifpkiaaaDoor
open Go
set_option linter.unusedVariables false

/-- The labels of a text that ends in a point, as the reference reads it: the labels before, and the label that is being read. -/
def rl (l : List UInt8) (ls : List (List UInt8)) (b : List UInt8) : Option (List (List UInt8)) :=
  if h0 : l = [] then (if b = [] then some ls else none)
  else if h : rdOk l = true then rl (l.drop (rdN l)) ls (b ++ [rdC l])
  else if (l.getD 0 0).toNat = 46 ∧ b ≠ [] then rl (l.drop 1) (ls ++ [b]) []
  else none
termination_by l.length
decreasing_by
  · have := rdN_pos h
    have h2 : l.length ≠ 0 := fun e => h0 (List.eq_nil_of_length_eq_zero e)
    rw [List.length_drop]; omega
  · have h2 : l.length ≠ 0 := fun e => h0 (List.eq_nil_of_length_eq_zero e)
    rw [List.length_drop]; omega
theorem rl_nil (ls : List (List UInt8)) (b : List UInt8) : rl [] ls b = if b = [] then some ls else none := by rw [rl, dif_pos rfl]
theorem rl_byte {l : List UInt8} (h0 : l ≠ []) (h : rdOk l = true) (ls : List (List UInt8)) (b : List UInt8) : rl l ls b = rl (l.drop (rdN l)) ls (b ++ [rdC l]) := by rw [rl, dif_neg h0, dif_pos h]
theorem rl_dot {l : List UInt8} (h0 : l ≠ []) (h : ¬ rdOk l = true) (ls : List (List UInt8)) (b : List UInt8) (h2 : (l.getD 0 0).toNat = 46 ∧ b ≠ []) : rl l ls b = rl (l.drop 1) (ls ++ [b]) [] := by rw [rl, dif_neg h0, dif_neg h, if_pos h2]
theorem rl_bad {l : List UInt8} (h0 : l ≠ []) (h : ¬ rdOk l = true) (ls : List (List UInt8)) (b : List UInt8) (h2 : ¬ ((l.getD 0 0).toNat = 46 ∧ b ≠ [])) : rl l ls b = none := by rw [rl, dif_neg h0, dif_neg h, if_neg h2]

theorem rd_head {l : List UInt8} (h : rdOk l = true) : ¬ (l = [] ∨ (l.getD 0 0).toNat = 46) := by
  have := (rd_esc_eq h).2
  rw [this]
  exact esc_head _ _
theorem scan_eq (m : Nat) : ∀ (l c t : List UInt8), l.length ≤ m → scan l = some (c, t) → l = escL c ++ t ∧ (t = [] ∨ (t.getD 0 0).toNat = 46) := by
  induction m with
  | zero =>
    intro l c t hl h
    have : l = [] := List.eq_nil_of_length_eq_zero (by omega)
    subst this
    rw [scan_end (.inl rfl)] at h
    cases h
    exact ⟨rfl, .inl rfl⟩
  | succ m ih =>
    intro l c t hl h
    by_cases h0 : l = [] ∨ (l.getD 0 0).toNat = 46
    · rw [scan_end h0] at h
      cases h
      exact ⟨rfl, h0⟩
    · cases hok : rdOk l with
      | false => rw [scan_bad h0 (by rw [hok]; decide)] at h; cases h
      | true =>
        rw [scan_step h0 hok] at h
        obtain ⟨p, hp, e⟩ := Option.map_eq_some_iff.1 h
        cases e
        have hn := rdN_pos hok
        have h1 : l.length ≠ 0 := fun e => h0 (.inl (List.eq_nil_of_length_eq_zero e))
        obtain ⟨h2, h3⟩ := ih (l.drop (rdN l)) p.1 p.2 (by rw [List.length_drop]; omega) hp
        refine ⟨?_, h3⟩
        have h4 := (rd_esc_eq hok).2
        rw [h2] at h4
        refine h4.trans ?_
        simp [escL]
theorem rl_scan (m : Nat) : ∀ (l c t : List UInt8) (ls : List (List UInt8)) (b : List UInt8), l.length ≤ m → scan l = some (c, t) →
    rl l ls b = if t = [] then (if b ++ c = [] then some ls else none) else if b ++ c = [] then none else rl (t.drop 1) (ls ++ [b ++ c]) [] := by
  induction m with
  | zero =>
    intro l c t ls b hl h
    have : l = [] := List.eq_nil_of_length_eq_zero (by omega)
    subst this
    rw [scan_end (.inl rfl)] at h
    cases h
    rw [rl_nil]
    simp
  | succ m ih =>
    intro l c t ls b hl h
    by_cases h0 : l = [] ∨ (l.getD 0 0).toNat = 46
    · rw [scan_end h0] at h
      cases h
      by_cases hl0 : l = []
      · subst hl0
        rw [rl_nil]
        simp
      · have h46 := h0.resolve_left hl0
        have hno : ¬ rdOk l = true := fun h => rd_head h h0
        rw [if_neg hl0, List.append_nil]
        by_cases hb : b = []
        · rw [rl_bad hl0 hno ls b (fun h => h.2 hb), if_pos hb]
        · rw [rl_dot hl0 hno ls b ⟨h46, hb⟩, if_neg hb]
    · have hl0 : l ≠ [] := fun e => h0 (.inl e)
      cases hok : rdOk l with
      | false => rw [scan_bad h0 (by rw [hok]; decide)] at h; cases h
      | true =>
        rw [scan_step h0 hok] at h
        obtain ⟨p, hp, e⟩ := Option.map_eq_some_iff.1 h
        cases e
        have hn := rdN_pos hok
        have h1 : l.length ≠ 0 := fun e => hl0 (List.eq_nil_of_length_eq_zero e)
        rw [rl_byte hl0 hok, ih (l.drop (rdN l)) p.1 p.2 ls (b ++ [rdC l]) (by rw [List.length_drop]; omega) hp]
        simp
theorem rl_none (m : Nat) : ∀ (l : List UInt8) (ls : List (List UInt8)) (b : List UInt8), l.length ≤ m → scan l = none → rl l ls b = none := by
  induction m with
  | zero =>
    intro l ls b hl h
    have : l = [] := List.eq_nil_of_length_eq_zero (by omega)
    subst this
    rw [scan_end (.inl rfl)] at h
    cases h
  | succ m ih =>
    intro l ls b hl h
    by_cases h0 : l = [] ∨ (l.getD 0 0).toNat = 46
    · rw [scan_end h0] at h; cases h
    · have hl0 : l ≠ [] := fun e => h0 (.inl e)
      cases hok : rdOk l with
      | false => exact rl_bad hl0 (by rw [hok]; decide) ls b (fun h => h0 (.inr h.1))
      | true =>
        rw [scan_step h0 hok] at h
        have hn := rdN_pos hok
        have h1 : l.length ≠ 0 := fun e => hl0 (List.eq_nil_of_length_eq_zero e)
        rw [rl_byte hl0 hok]
        exact ih _ _ _ (by rw [List.length_drop]; omega) (by simpa using h)
theorem rl_shift (m : Nat) : ∀ (l : List UInt8) (ls : List (List UInt8)) (b : List UInt8), l.length ≤ m → rl l ls b = (rl l [] b).map (ls ++ ·) := by
  induction m with
  | zero =>
    intro l ls b hl
    have : l = [] := List.eq_nil_of_length_eq_zero (by omega)
    subst this
    rw [rl_nil, rl_nil]
    split <;> simp
  | succ m ih =>
    intro l ls b hl
    by_cases hl0 : l = []
    · subst hl0
      rw [rl_nil, rl_nil]
      split <;> simp
    · have h1 : l.length ≠ 0 := fun e => hl0 (List.eq_nil_of_length_eq_zero e)
      cases hok : rdOk l with
      | true =>
        have hn := rdN_pos hok
        rw [rl_byte hl0 hok, rl_byte hl0 hok, ih _ ls _ (by rw [List.length_drop]; omega)]
      | false =>
        have hno : ¬ rdOk l = true := by rw [hok]; decide
        by_cases h2 : (l.getD 0 0).toNat = 46 ∧ b ≠ []
        · rw [rl_dot hl0 hno ls b h2, rl_dot hl0 hno [] b h2, ih _ (ls ++ [b]) _ (by rw [List.length_drop]; omega), ih _ ([] ++ [b]) _ (by rw [List.length_drop]; omega), Option.map_map]
          congr 1
          funext p
          simp
        · rw [rl_bad hl0 hno ls b h2, rl_bad hl0 hno [] b h2]; rfl
theorem opn_scan (m : Nat) : ∀ (l c t : List UInt8) (x : Bool), l.length ≤ m → scan l = some (c, t) → opn l x = if t = [] then (if c = [] then x else true) else opn (t.drop 1) false := by
  induction m with
  | zero =>
    intro l c t x hl h
    have : l = [] := List.eq_nil_of_length_eq_zero (by omega)
    subst this
    rw [scan_end (.inl rfl)] at h
    cases h
    rw [opn_nil]; simp
  | succ m ih =>
    intro l c t x hl h
    by_cases h0 : l = [] ∨ (l.getD 0 0).toNat = 46
    · rw [scan_end h0] at h
      cases h
      by_cases hl0 : l = []
      · subst hl0
        rw [opn_nil]; simp
      · have hno : ¬ rdOk l = true := fun h => rd_head h h0
        rw [if_neg hl0, opn_no hl0 hno]
    · have hl0 : l ≠ [] := fun e => h0 (.inl e)
      cases hok : rdOk l with
      | false => rw [scan_bad h0 (by rw [hok]; decide)] at h; cases h
      | true =>
        rw [scan_step h0 hok] at h
        obtain ⟨p, hp, e⟩ := Option.map_eq_some_iff.1 h
        cases e
        have hn := rdN_pos hok
        have h1 : l.length ≠ 0 := fun e => hl0 (List.eq_nil_of_length_eq_zero e)
        rw [opn_yes hl0 hok, ih (l.drop (rdN l)) p.1 p.2 true (by rw [List.length_drop]; omega) hp]
        simp
/-- With a point more, a text that was none ends within a label, or is none. -/
theorem scan_more (m : Nat) : ∀ l : List UInt8, l.length ≤ m → scan l = none → scan (l ++ [46]) = none ∨ ∃ c, c ≠ [] ∧ scan (l ++ [46]) = some (c, []) := by
  induction m with
  | zero =>
    intro l hl h
    have : l = [] := List.eq_nil_of_length_eq_zero (by omega)
    subst this
    rw [scan_end (.inl rfl)] at h
    cases h
  | succ m ih =>
    intro l hl h
    by_cases h0 : l = [] ∨ (l.getD 0 0).toNat = 46
    · rw [scan_end h0] at h; cases h
    · have hl0 : l ≠ [] := fun e => h0 (.inl e)
      have h1 : l.length ≠ 0 := fun e => hl0 (List.eq_nil_of_length_eq_zero e)
      have h0' : ¬ (l ++ [46] = [] ∨ ((l ++ [46]).getD 0 0).toNat = 46) := by
        rintro (e | e)
        · simp at e
        · apply h0
          right
          cases l with
          | nil => exact (hl0 rfl).elim
          | cons a r => exact e
      cases hok : rdOk l with
      | true =>
        have hn := rdN_pos hok
        obtain ⟨q1, q2⟩ := rd_esc_eq hok
        rw [scan_step h0 hok] at h
        have hpre : esc (rdC l) <+: l ++ [46] := ⟨l.drop (rdN l) ++ [46], by rw [← List.append_assoc, ← q2]⟩
        obtain ⟨r1, r2, r3⟩ := rdC_of hpre
        have hdr : (l ++ [46]).drop (rdN (l ++ [46])) = l.drop (rdN l) ++ [46] := by
          rw [r3, ← q1, List.drop_append_of_le_length (rdN_le (by omega))]
        rw [scan_step h0' r1, hdr, r2]
        rcases ih (l.drop (rdN l)) (by rw [List.length_drop]; omega) (by simpa using h) with e | ⟨c, hc, e⟩
        · left; rw [e]; rfl
        · right; rw [e]; exact ⟨_, by simp, rfl⟩
      | false =>
        cases hok2 : rdOk (l ++ [46]) with
        | false => left; exact scan_bad h0' (by rw [hok2]; decide)
        | true =>
          right
          obtain ⟨q1, q2⟩ := rd_esc_eq hok2
          have hle := rdN_le (l := l ++ [46]) (by simp)
          have hall : rdN (l ++ [46]) = l.length + 1 := by
            rcases Nat.lt_or_ge l.length (rdN (l ++ [46])) with h2 | h2
            · simp at hle; omega
            · have hp : esc (rdC (l ++ [46])) <+: l := by
                refine List.prefix_of_prefix_length_le ⟨_, q2.symm⟩ (List.prefix_append _ _) (by rw [← q1]; exact h2)
              rw [(rdC_of hp).1] at hok; cases hok
          rw [scan_step h0' hok2, hall, List.drop_of_length_le (by simp), scan_end (.inl rfl)]
          exact ⟨_, by simp, rfl⟩

theorem cut_none {l : List UInt8} (h : scan l = none) : ¬ cutOk l = true := by unfold cutOk; rw [h]; decide
theorem cut_empty {l t : List UInt8} (h : scan l = some ([], t)) : ¬ cutOk l = true := by unfold cutOk; rw [h]; simp
theorem cut_some {l c t : List UInt8} (h : scan l = some (c, t)) (hc : c ≠ []) : cutOk l = true ∧ cutB l = c ∧ cutR l = t.drop 1 := by
  unfold cutOk cutB cutR
  rw [h]
  have : c.length ≠ 0 := fun e => hc (List.eq_nil_of_length_eq_zero e)
  exact ⟨by simp; omega, rfl, rfl⟩
/-- How a text ends: in a point (f), or in a byte of a label. -/
structure Ends (l : List UInt8) (ls : List (List UInt8)) (f : Bool) : Prop where
  opn : ∀ x, opn l x = !f
  dot : f = true → rl l [] [] = some ls ∧ ∃ p, l = p ++ [46]
  byte : f = false → rl (l ++ [46]) [] [] = some ls ∧ ∃ p c, l = p ++ esc c
  ne : ∀ b ∈ ls, b ≠ []
theorem escL_last {c : List UInt8} (h : c ≠ []) : ∃ p x, escL c = p ++ esc x := by
  obtain ⟨d, x, rfl⟩ : ∃ d x, c = d ++ [x] := ⟨c.dropLast, c.getLast h, (List.dropLast_concat_getLast h).symm⟩
  exact ⟨escL d, x, escL_snoc d x⟩
theorem spl_ends (m : Nat) : ∀ l : List UInt8, l.length ≤ m → l ≠ [] →
    (splF l = none → rl l [] [] = none ∧ rl (l ++ [46]) [] [] = none) ∧ (∀ ls, splF l = some ls → ∃ f, Ends l ls f) := by
  induction m with
  | zero => intro l hl h; exact (h (List.eq_nil_of_length_eq_zero (by omega))).elim
  | succ m ih =>
    intro l hl hl0
    rcases hsc : scan l with _ | ⟨c, t⟩
    · have hsp := splF_bad (cut_none hsc)
      refine ⟨fun _ => ⟨rl_none _ l [] [] (Nat.le_refl _) hsc, ?_⟩, fun ls h => by rw [hsp] at h; cases h⟩
      rcases scan_more _ l (Nat.le_refl _) hsc with e | ⟨c, hc, e⟩
      · exact rl_none _ _ [] [] (Nat.le_refl _) e
      · rw [rl_scan _ _ c [] [] [] (Nat.le_refl _) e, if_pos rfl, if_neg (by simpa using hc)]
    · obtain ⟨hle, hlt⟩ := scan_eq _ l c t (Nat.le_refl _) hsc
      by_cases hc : c = []
      · subst hc
        have hsp := splF_bad (cut_empty hsc)
        have ht : t ≠ [] := fun e => by subst e; exact hl0 (by rw [hle]; rfl)
        have h46 := hlt.resolve_left ht
        refine ⟨fun _ => ⟨?_, ?_⟩, fun ls h => by rw [hsp] at h; cases h⟩
        · rw [rl_scan _ l [] t [] [] (Nat.le_refl _) hsc, if_neg ht]; rfl
        · have hsc2 : scan (l ++ [46]) = some ([], l ++ [46]) := scan_end (.inr (by
            rw [hle]
            cases t with
            | nil => exact (ht rfl).elim
            | cons a r => exact h46))
          rw [rl_scan _ _ [] _ [] [] (Nat.le_refl _) hsc2, if_neg (by simp)]; rfl
      · obtain ⟨k1, k2, k3⟩ := cut_some hsc hc
        have hopn := fun x => opn_scan _ l c t x (Nat.le_refl _) hsc
        have hrl := rl_scan _ l c t [] [] (Nat.le_refl _) hsc
        have hsp := splF_ok k1
        rw [k2, k3] at hsp
        obtain ⟨pe, xe, hpe⟩ := escL_last hc
        by_cases ht : t = []
        · subst ht
          have hsp2 : splF l = some [c] := by rw [hsp]; rfl
          refine ⟨fun h => (by rw [hsp2] at h; cases h), fun ls h => ?_⟩
          rw [hsp2] at h; cases h
          refine ⟨false, ⟨fun x => (by rw [hopn]; simp [hc]), fun h => absurd h (by decide), fun _ => ⟨?_, pe, xe, (by rw [hle, List.append_nil, hpe])⟩, (by simpa using hc)⟩⟩
          have hsc2 : scan (l ++ [46]) = some (c, [46]) := by
            rw [hle, List.append_nil]
            exact scan_text c [46] (.inr rfl)
          rw [rl_scan _ _ c _ [] [] (Nat.le_refl _) hsc2, if_neg (by simp), if_neg (by simpa using hc)]
          show rl [] _ _ = _
          rw [rl_nil]; rfl
        · obtain ⟨t', rfl⟩ : ∃ t', t = 46 :: t' := by
            cases t with
            | nil => exact (ht rfl).elim
            | cons a r =>
              have : a.toNat = 46 := hlt.resolve_left ht
              have e : a = 46 := by rw [← UInt8.toNat_inj]; exact this
              exact ⟨r, by rw [e]⟩
          rw [if_neg ht, if_neg (by simpa using hc)] at hrl
          simp only [if_neg ht] at hopn
          change rl l [] [] = rl t' ([] ++ [[] ++ c]) [] at hrl
          change ∀ x, opn l x = opn t' false at hopn
          have hlen : t'.length < l.length := by
            rw [hle]
            simp
            omega
          by_cases ht' : t' = []
          · subst ht'
            have hsp2 : splF l = some [c] := by rw [hsp]; rfl
            refine ⟨fun h => (by rw [hsp2] at h; cases h), fun ls h => ?_⟩
            rw [hsp2] at h; cases h
            exact ⟨true, ⟨fun x => (by rw [hopn, opn_nil]; rfl), fun _ => ⟨(by rw [hrl, rl_nil]; rfl), escL c, hle⟩, fun h => absurd h (by decide), (by simpa using hc)⟩⟩
          · have hct : cont t' false = splF t' := by unfold cont; rw [if_neg (fun e => ht' e.2)]
            change splF l = (cont t' false).map _ at hsp
            rw [hct] at hsp
            obtain ⟨ih1, ih2⟩ := ih t' (by omega) ht'
            have hrl2 : rl (l ++ [46]) [] [] = rl (t' ++ [46]) ([] ++ [[] ++ c]) [] := by
              have hsc2 : scan (l ++ [46]) = some (c, 46 :: (t' ++ [46])) := by
                have e : l ++ [46] = escL c ++ (46 :: (t' ++ [46])) := by rw [hle]; simp
                rw [e]
                exact scan_text c _ (.inr rfl)
              rw [rl_scan _ _ c _ [] [] (Nat.le_refl _) hsc2, if_neg (by simp), if_neg (by simpa using hc)]
              rfl
            have hrl' := hrl.trans (rl_shift _ t' _ _ (Nat.le_refl _))
            have hrl2' := hrl2.trans (rl_shift _ (t' ++ [46]) _ _ (Nat.le_refl _))
            refine ⟨fun h => ?_, fun ls h => ?_⟩
            · have hn : splF t' = none := by
                rw [hsp] at h
                simpa using h
              rw [hrl', hrl2', (ih1 hn).1, (ih1 hn).2]
              exact ⟨rfl, rfl⟩
            · rw [hsp] at h
              obtain ⟨ls', hls', rfl⟩ := Option.map_eq_some_iff.1 h
              obtain ⟨f, hf⟩ := ih2 ls' hls'
              refine ⟨f, ⟨fun x => (by rw [hopn]; exact hf.opn false), fun e => ⟨?_, ?_⟩, fun e => ⟨?_, ?_⟩, ?_⟩⟩
              · rw [hrl', (hf.dot e).1]; rfl
              · obtain ⟨p, hp⟩ := (hf.dot e).2
                exact ⟨escL c ++ (46 :: p), by rw [hle, hp]; simp⟩
              · rw [hrl2', (hf.byte e).1]; rfl
              · obtain ⟨p, x, hp⟩ := (hf.byte e).2
                exact ⟨escL c ++ (46 :: p), x, by rw [hle, hp]; simp⟩
              · intro b hb
                rcases List.mem_cons.1 hb with rfl | hb
                · exact hc
                · exact hf.ne b hb

/-- Does the reference add a point? -/
def addDot (l : List UInt8) : Bool := (l.getD (l.length - 1) 0).toNat != 46 || (decide (1 < l.length) && ((l.getD (l.length - 2) 0).toNat == 92 && opn l false))
theorem esc_last (c : UInt8) : (esc c).getD ((esc c).length - 1) 0 = 46 → esc c = [92, 46] := by
  unfold esc
  by_cases h1 : c.toNat = 46 ∨ c.toNat = 92
  · rw [if_pos h1]
    intro h
    have : c = 46 := h
    rw [this]
  · rw [if_neg h1]
    by_cases h2 : 33 ≤ c.toNat ∧ c.toNat ≤ 126
    · rw [if_pos h2]
      intro h
      have : c = 46 := h
      rw [this] at h1
      exact (h1 (.inl rfl)).elim
    · rw [if_neg h2]
      intro h
      have h3 : UInt8.ofNat (48 + c.toNat % 10) = 46 := h
      have h4 := congrArg UInt8.toNat h3
      rw [UInt8.toNat_ofNat'] at h4
      simp at h4
      omega
theorem addDot_of {l : List UInt8} {ls : List (List UInt8)} {f : Bool} (h : Ends l ls f) : addDot l = !f := by
  unfold addDot
  rw [h.opn]
  cases f with
  | true =>
    obtain ⟨p, rfl⟩ := (h.dot rfl).2
    have : ((p ++ [46]).getD ((p ++ [46]).length - 1) 0).toNat = 46 := by simp
    rw [this]
    simp
  | false =>
    obtain ⟨p, c, rfl⟩ := (h.byte rfl).2
    have hel := esc_len c
    have hg : (p ++ esc c).getD ((p ++ esc c).length - 1) 0 = (esc c).getD ((esc c).length - 1) 0 := by
      rw [List.getD_eq_getElem?_getD, List.getD_eq_getElem?_getD, List.getElem?_append_right (by rw [List.length_append]; omega)]
      congr 2
      rw [List.length_append]; omega
    rw [hg]
    by_cases h46 : ((esc c).getD ((esc c).length - 1) 0).toNat = 46
    · have e : esc c = [92, 46] := esc_last c (by rw [← UInt8.toNat_inj]; exact h46)
      rw [e]
      simp
    · have : (((esc c).getD ((esc c).length - 1) 0).toNat != 46) = true := by simpa using h46
      rw [this]
      rfl

/-- The bytes that the reference lays for labels. -/
def nOf (ls : List (List UInt8)) : List UInt8 := ls.flatMap fun b => UInt8.ofNat (b.length % 256) :: b.map low
def refR (r : Option (List (List UInt8))) : ByteArray × Int := match r with
  | none => (⟨#[]⟩, 2)
  | some ls => if (ls.any (fun b => decide (63 < b.length)) || decide (254 < (nOf ls).length)) = true then (⟨#[]⟩, 3) else (⟨(nOf ls ++ [0]).toArray⟩, 0)
theorem nOf_join {ls : List (List UInt8)} (h : ls.all (fun l => decide (l.length ≤ 63)) = true) : nOf ls = joinL (ls.map toB) := by
  unfold nOf joinL
  rw [List.flatMap_map]
  rw [List.all_eq_true] at h
  induction ls with
  | nil => rfl
  | cons l ls ih =>
    have h1 : l.length ≤ 63 := by simpa using h l (by simp)
    rw [List.flatMap_cons, List.flatMap_cons, ih (fun x hx => h x (List.mem_cons_of_mem _ hx)), toB_size, toB_list, Nat.mod_eq_of_lt (by omega)]
theorem refR_some {ls : List (List UInt8)} (hne : ∀ b ∈ ls, b ≠ []) : refR (some ls) = if ls.all (fun l => decide (l.length ≤ 63)) = true then (joinS (ls.map toB), joinE (ls.map toB)) else (⟨#[]⟩, 3) := by
  unfold refR
  by_cases h : ls.all (fun l => decide (l.length ≤ 63)) = true
  · have hany : ls.any (fun b => decide (63 < b.length)) = false := by
      rw [List.any_eq_false]
      intro x hx
      rw [List.all_eq_true] at h
      have := h x hx
      simp at this ⊢
      omega
    have hok : lbsOk (ls.map toB) = true := by
      unfold lbsOk
      rw [List.all_eq_true]
      intro x hx
      obtain ⟨l, hl, rfl⟩ := List.mem_map.1 hx
      rw [List.all_eq_true] at h
      have h1 := h l hl
      have h2 : l.length ≠ 0 := fun e => hne l hl (List.eq_nil_of_length_eq_zero e)
      rw [toB_size]
      simp at h1 ⊢
      omega
    rw [if_pos h]
    show (if (ls.any (fun b => decide (63 < b.length)) || decide (254 < (nOf ls).length)) = true then _ else _) = _
    rw [hany, nOf_join h, Bool.false_or]
    unfold joinS joinE
    by_cases h255 : (joinL (ls.map toB)).length + 1 ≤ 255
    · rw [if_neg (by simp; omega), if_pos ⟨hok, h255⟩, if_pos hok, if_pos h255]
    · rw [if_pos (by simp; omega), if_neg (fun e => h255 e.2), if_pos hok, if_neg h255]
  · have hany : ls.any (fun b => decide (63 < b.length)) = true := by
      rw [Bool.not_eq_true, List.all_eq_false] at h
      obtain ⟨x, hx, h1⟩ := h
      rw [List.any_eq_true]
      refine ⟨x, hx, ?_⟩
      simp at h1 ⊢
      omega
    rw [if_neg h]
    show (if (ls.any (fun b => decide (63 < b.length)) || decide (254 < (nOf ls).length)) = true then _ else _) = _
    rw [hany]
    rfl
/-- What the reference's Take reads. -/
def dotted (l : List UInt8) : List UInt8 := if addDot l = true then l ++ [46] else l
theorem take_ref {l : List UInt8} (h0 : l ≠ []) (h1 : l ≠ [46]) : takeR l = refR (rl (dotted l) [] []) := by
  obtain ⟨k1, k2⟩ := spl_ends _ l (Nat.le_refl _) h0
  have hsp : splitL l = splF l := by unfold splitL; rw [if_neg h1]
  unfold takeR
  rw [hsp]
  rcases hs : splF l with _ | ls
  · obtain ⟨e1, e2⟩ := k1 hs
    have : rl (dotted l) [] [] = none := by unfold dotted; split <;> assumption
    rw [this]
    rfl
  · obtain ⟨f, hf⟩ := k2 ls hs
    have : rl (dotted l) [] [] = some ls := by
      unfold dotted
      rw [addDot_of hf]
      cases f with
      | true => rw [if_neg (by decide)]; exact (hf.dot rfl).1
      | false => rw [if_pos (by decide)]; exact (hf.byte rfl).1
    rw [this, refR_some hf.ne]
end Go.Proofs.YtceafomifpkiaaaDoor
