/- Plain mathematics of SOA data: their two names, as the document's Put takes them. -/
import Derived.Test.YtnakljbginbenaaGreatDoorRpm
namespace Go.Proofs.YtnakljbginbenaaGreatDoor
open Go.RowKit
set_option linter.unusedVariables false

theorem mk_list (l : List UInt8) : (⟨l.toArray⟩ : ByteArray).data.toList = l := rfl
/-- What Put of SOA data does, step by step. -/
structure Soa (x d : ByteArray) (L : Kn) (a b : Nat) (S1 S2 : List UInt8 × Kn) : Prop where
  sa : szN d = a
  sb : szN (d.extract a d.size) = b
  le : a ≤ d.size ∧ a + b ≤ d.size ∧ d.size ≤ a + b + 20
  n1 : (d.extract 0 a).size ≤ 255
  n2 : (d.extract a (a + b)).size ≤ 255
  s1 : stp x.data.toList L (d.extract 0 a) = S1
  s2 : stp S1.1 S1.2 (d.extract a (a + b)) = S2
  k1 : KnOk S1.1 S1.2
  l1 : S1.1.length ≤ x.size + 255
  l2 : S2.1.length ≤ x.size + 510
  eq : rp x.data.toList L 6 d = (S2.1 ++ (d.extract (a + b) d.size).data.toList, S2.2)
theorem soa_parts {x d : ByteArray} {L : Kn} (hK : KnOk x.data.toList L) (hG : Good x.data.toList L) (hm : mayD 6 d = true) : ∃ a b S1 S2, Soa x d L a b S1 S2 := by
  have h6 : 0 < szN d ∧ 0 < szN (d.extract (szN d) d.size) ∧ d.size = szN d + szN (d.extract (szN d) d.size) + 20 := by
    have h := hm
    unfold mayD at h
    rw [Bool.and_eq_true, if_neg (by decide), if_neg (by decide), if_neg (by decide), if_neg (by decide), if_pos rfl] at h
    have h := h.2
    unfold soaB at h
    rw [decide_eq_true_iff] at h
    exact h
  obtain ⟨ha, hb, hsum⟩ := h6
  obtain ⟨a1, a2, a3⟩ := szN_pos ha
  obtain ⟨b1, b2, b3⟩ := szN_pos hb
  have hN2 : d.extract (szN d) (szN d + szN (d.extract (szN d) d.size)) = (d.extract (szN d) d.size).extract 0 (szN (d.extract (szN d) d.size)) := by
    apply ba_ext
    rw [ext_list, extract_list, extract_list, ← ba_len d, List.take_length, List.drop_take]
    congr 1
    rw [ba_len]
    omega
  obtain ⟨g1, hG1⟩ := stepped hG (d.extract 0 (szN d))
  have hK1 := knOk_stp hK (d.extract 0 (szN d))
  obtain ⟨X1, p1, p2, _, p5⟩ := g1.app
  obtain ⟨g2, hG2⟩ := stepped hG1 (d.extract (szN d) (szN d + szN (d.extract (szN d) d.size)))
  obtain ⟨X2, p3, p4, _, p6⟩ := g2.app
  have l1 : (stp x.data.toList L (d.extract 0 (szN d))).1.length ≤ x.size + 255 := by rw [p1, List.length_append, ba_len]; omega
  refine ⟨szN d, szN (d.extract (szN d) d.size), _, _, rfl, rfl, ⟨a1, by omega, by omega⟩, ?_, ?_, rfl, rfl, hK1, l1, ?_, ?_⟩
  · rw [ByteArray.size_extract]; omega
  · rw [ByteArray.size_extract]; omega
  · rw [p3, List.length_append]; omega
  · unfold rp
    rw [if_pos hm]
    unfold putD
    rw [if_neg (by decide), if_neg (by decide), if_pos rfl]
    simp only
    rw [← hN2]
    rw [← hN2] at b3
    have hs1 : put x.data.toList L (labs (d.extract 0 (szN d))) = stp x.data.toList L (d.extract 0 (szN d)) := by unfold stp; rw [if_pos a3]
    rw [hs1]
    have hs2 : ∀ S K, put S K (labs (d.extract (szN d) (szN d + szN (d.extract (szN d) d.size)))) = stp S K (d.extract (szN d) (szN d + szN (d.extract (szN d) d.size))) := fun S K => by unfold stp; rw [if_pos b3]
    rw [hs2, extract_list d (szN d + szN (d.extract (szN d) d.size)) d.size, ← ba_len d, List.take_length]
end Go.Proofs.YtnakljbginbenaaGreatDoor
