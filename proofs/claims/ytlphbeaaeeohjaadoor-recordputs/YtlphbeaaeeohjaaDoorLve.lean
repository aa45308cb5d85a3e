/- The walk of derricklaw04.RdataVery: what is taken may be; with a byte more, or less, it isn't; a target is a name. -/
import Derived.Test.YtlphbeaaeeohjaaDoorRmn
import Derived.Test.YtlphbeaaeeohjaaDoorLwn
namespace Go.Proofs.YtlphbeaaeeohjaaDoor
open Go.RowKit
set_option linter.unusedVariables false

theorem tdO_eq {s : ByteArray} {p m k : Nat} (hm : m ≤ 65535) : tdO s p m k = if p + m ≤ s.size then takeD s p m k else none := by
  unfold tdO
  by_cases h : p + m ≤ s.size
  · rw [if_pos h, if_pos (Oc.okB_yes ⟨by omega, by omega, by omega⟩), show ((p : Int) + (m : Int)).toNat = p + m by omega]
    exact take_eq k h hm
  · rw [if_neg h, if_neg (by rw [Oc.okB_no (fun x => h (by have := x.2.2; omega))]; decide)]
theorem tdO_neg {s : ByteArray} {p k : Nat} {m : Int} (hm : m < 0) : tdO s p m k = none := by
  unfold tdO
  rw [if_neg (by rw [Oc.okB_no (fun x => by have := x.2.1; omega)]; decide)]
theorem td_may {s : ByteArray} {p m k : Nat} (hm : m ≤ 65535) {l : List UInt8} (h : tdO s p m k = some l) : mayD k ⟨l.toArray⟩ = true ∧ takeD s p m k = some l ∧ p + m ≤ s.size := by
  rw [tdO_eq hm] at h
  split at h
  · rename_i hp
    exact ⟨takeD_may hp h, h, hp⟩
  · cases h
theorem td_more {s : ByteArray} {p m k : Nat} (hm : m < 256) (hf : fixedD k = true) {l : List UInt8} (h : tdO s p m k = some l) : tdE s p ((m : Int) + 1) k = 2 ∧ tdE s p ((m : Int) - 1) k = 2 := by
  obtain ⟨_, h1, hp⟩ := td_may (by omega) h
  refine ⟨(td_none ?_).2, (td_none ?_).2⟩
  · rw [show (m : Int) + 1 = ((m + 1 : Nat) : Int) by omega, tdO_eq (by omega)]
    split
    · rename_i hp2
      exact takeD_exact hf hp hp2 h1 (by omega)
    · rfl
  · by_cases h0 : m = 0
    · subst h0
      exact tdO_neg (by omega)
    · rw [show (m : Int) - 1 = ((m - 1 : Nat) : Int) by omega, tdO_eq (by omega)]
      split
      · rename_i hp2
        exact takeD_exact hf hp hp2 h1 (by omega)
      · rfl
theorem fixed_or (k : Nat) : (k ≠ 1 ∧ k ≠ 28 ∧ k ≠ 2 ∧ k ≠ 5 ∧ k ≠ 12 ∧ k ≠ 15 ∧ k ≠ 6) ∨ k = 1 ∨ k = 28 ∨ k = 2 ∨ k = 5 ∨ k = 12 ∨ k = 15 ∨ k = 6 := by omega
theorem tg_cases (k : Nat) (d : ByteArray) : (tgB k d = false ∧ tgS k d = ⟨#[]⟩) ∨ (tgB k d = true ∧ mayB (tgS k d) = true ∧ (tgS k d).size ≤ d.size) := by
  obtain ⟨h1, h2⟩ := tgt_eq k d
  cases h : tgtD k d with
  | none => rw [h] at h1 h2; exact .inl ⟨h1, h2⟩
  | some n =>
    rw [h] at h1 h2
    obtain ⟨a, b⟩ := tgtD_name h
    refine .inr ⟨h1, ?_, ?_⟩
    · rw [h2]; exact a
    · rw [h2]; exact b

end Go.Proofs.YtlphbeaaeeohjaaDoor
