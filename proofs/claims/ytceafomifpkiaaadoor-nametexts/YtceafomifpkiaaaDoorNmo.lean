/- Plain mathematics of name.Under and name.Parent, and the contract of derricklaw02.shown. -/
import Derived.Test.YtceafomifpkiaaaDoorNmn
import Derived.Test.YtceafomifpkiaaaDoorNmx
namespace Go.Proofs.YtceafomifpkiaaaDoor
open Go.RowKit
set_option linter.unusedVariables false

theorem under_iff (s z : ByteArray) : underB s z = true ↔ mayB s = true ∧ mayB z = true ∧ labs z <:+ labs s := by
  unfold underB
  rw [Bool.and_eq_true, Bool.and_eq_true, and_assoc]
  refine and_congr_right fun hs => and_congr_right fun hz => ?_
  have ns := may_name hs
  have nz := may_name hz
  have hend := (endZ_iff s).1 (wire_endZ ns.ok ns.eq).1
  have ht := tails_aux s s.size 0 (by omega) hend z.data.toList
  have hany : (labsFrom s 0).any (restIs s z) = true ↔ ∃ x ∈ labsFrom s 0, s.data.toList.drop (nxt s x.1) = z.data.toList := by
    rw [List.any_eq_true]
    refine exists_congr fun x => and_congr_right fun _ => ?_
    unfold restIs
    rw [ByteArray.toList_eq, ByteArray.toList_eq, extract_list, ← ba_len, List.take_length]
    simp
  rw [Bool.or_eq_true, hany, ht, ByteArray.toList_eq, ByteArray.toList_eq, beq_iff_eq, ns.eq, nz.eq]
  show _ ∨ (∃ k, 1 ≤ k ∧ k ≤ (labs s).length ∧ wire ((labs s).drop k) = wire (labs z)) ↔ _
  have hdrop : ∀ k, ∀ l ∈ (labs s).drop k, okLb l := fun k l hl => ns.ok l (List.mem_of_mem_drop hl)
  constructor
  · rintro (h | ⟨k, _, _, h⟩)
    · rw [wire_inj ns.ok nz.ok h]; exact List.suffix_refl _
    · rw [← wire_inj (hdrop k) nz.ok h]; exact List.drop_suffix _ _
  · rintro ⟨t, h⟩
    by_cases h0 : t = []
    · subst h0; left; rw [← h]; rfl
    · right
      refine ⟨t.length, ?_, ?_, ?_⟩
      · have : t.length ≠ 0 := fun e => h0 (List.eq_nil_of_length_eq_zero e)
        omega
      · rw [← h]; simp
      · rw [← h]; simp

/-- The example's name. -/
def exN : ByteArray := ⟨#[3, 119, 119, 119, 2, 97, 98, 0]⟩
theorem exN_is : NameIs exN [[119, 119, 119], [97, 98]] := by
  refine ⟨?_, ?_, by decide, by decide⟩
  · unfold okLb; decide
  · decide
theorem exN_text : textB exN = ⟨#[119, 119, 119, 46, 97, 98, 46]⟩ := by
  obtain ⟨h1, h2⟩ := exN_is.may
  have h3 : (exN.toList == [0]) = false := by rw [ByteArray.toList_eq]; decide
  unfold textB
  rw [if_pos h1, if_neg (by rw [h3]; decide), h2]
  decide
theorem exJ : joinS [⟨#[119, 119, 119]⟩, ⟨#[65, 98]⟩] = exN ∧ joinE [⟨#[119, 119, 119]⟩, ⟨#[65, 98]⟩] = 0 := by decide

theorem add0 (g j : Nat) : Addr.add ⟨g, 0, none⟩ j = ⟨g, j, none⟩ := by
  unfold Addr.add
  split
  · rename_i h0; simp_all
  · simp

set_option maxHeartbeats 1000000 in
theorem shown_any (w : World) (ht : Tab w) : Calls Tryd.prog 10 #[] w fun e w' => e = .returned (.bool true) ∧ Below w.heap.size w w' := by
  go_enter Tryd.func10, Tryd.ntmps10
  have hS : Strs (w.alloc (.cells #[.string ⟨#[119, 119, 119]⟩, .string ⟨#[65, 98]⟩] 9)) (some ⟨w.heap.size, 0, none⟩) [⟨#[119, 119, 119]⟩, ⟨#[65, 98]⟩] := by
    intro j hj
    refine ⟨_, rfl, by simp, ?_⟩
    rw [add0]
    refine (World.cell?_alloc_mark w _ 9 (0, 0) j).trans ?_
    match j, hj with
    | 0, _ => rfl
    | 1, _ => rfl
  have hj := join_any _ 2 _ _ hS (by decide)
  rw [exJ.1, exJ.2] at hj
  have hb0 : Below w.heap.size w (w.alloc (.cells #[.string ⟨#[119, 119, 119]⟩, .string ⟨#[65, 98]⟩] 9)) := (Below.refl _ _).alloc (Nat.le_refl _) _
  have e1 : (exN.toList == [3, 119, 119, 119, 2, 97, 98, 0]) = true := by rw [ByteArray.toList_eq]; decide
  have hz : exN.size ≤ 140737488355328 := by decide
  have hm := exN_is.may.1
  have HM := Lib.hid hm
  have HS := Lib.hid hS
  clear hS hm
  go_wp2_with fail
  refine hj.mono ?_
  rintro e w1 ⟨rfl, hb1⟩
  have hb01 := bthen hb0 hb1
  go_wp2_with fail
  have hx := text_any exN hz w1 (ht.below hb01)
  rw [exN_text] at hx
  refine hx.mono ?_
  rintro e w2 ⟨rfl, hb2⟩
  go_wp2_with fail
  refine (may_any exN hz _).mono ?_
  rintro e w3 ⟨rfl, hb3⟩
  rw [HM.out]
  go_wp2_with fail
  go_ret
  exact ⟨rfl, bthen (bthen hb01 hb2) hb3⟩
end Go.Proofs.YtceafomifpkiaaaDoor
