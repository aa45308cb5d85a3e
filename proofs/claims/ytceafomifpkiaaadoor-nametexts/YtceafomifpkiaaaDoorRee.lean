/- The contract of derrickref02.Text: as the program's. -/
import Derived.Test.YtceafomifpkiaaaDoorRed
import Derived.Test.YtceafomifpkiaaaDoorRec
namespace Go.Proofs.YtceafomifpkiaaaDoor
open Go.RowKit
set_option linter.unusedVariables false

theorem textT_len (ls : List ByteArray) (h : ∀ l ∈ ls, l.size ≤ 63) (k : Nat) : (textL ((ls.take k).map fun l => l.data.toList)).length ≤ 253 * k := by
  induction k with
  | zero => simp [textL]
  | succ k ih =>
    by_cases hk : k < ls.length
    · have h1 := h _ (List.getElem_mem hk)
      have h2 := escL_len ls[k].data.toList
      rw [ba_len] at h2
      rw [List.take_succ_eq_append_getElem hk, List.map_append, List.map_cons, List.map_nil, textL_snoc]
      simp only [List.length_append, List.length_cons, List.length_nil]
      omega
    · rw [List.take_of_length_le (by omega)] at ih ⊢
      omega
theorem labsB_small {s : ByteArray} (h : mayB s = true) : ∀ l ∈ labsB s, l.size ≤ 63 := by
  rw [labsB_labs h]
  intro l hl
  obtain ⟨x, hx, rfl⟩ := List.mem_map.1 hl
  have := ((may_name h).ok x hx).2
  show x.toArray.size ≤ 63
  simpa using this
theorem labsB_data {s : ByteArray} (h : mayB s = true) : ((labsB s).map fun l => l.data.toList) = labs s := by
  rw [labsB_labs h, List.map_map]
  have e : (fun b : ByteArray => b.data.toList) ∘ toBA = id := by funext l; simp [toBA]
  rw [e, List.map_id]

set_option maxRecDepth 100000 in
set_option maxHeartbeats 2000000 in
theorem ref_text (s : ByteArray) (hs : s.size ≤ 1048576) (w : World) :
    Calls Tryd.prog 30 #[.string s] w fun e w' => e = .returned (.string (textB s)) ∧ Below w.heap.size w w' := by
  go_enter Tryd.func30, Tryd.ntmps30
  go_wp2_with fail
  refine (ref_may s hs _).mono ?_; rintro e w1 ⟨rfl, hb1⟩
  cases hm : mayB s with
  | false =>
    have hu : textB s = ⟨#[]⟩ := by simp [textB, hm]
    have HU := Lib.hid hu
    clear hu hm
    go_wp2_with fail
    go_ret
    exact ⟨by rw [HU.out]; rfl, hb1⟩
  | true =>
    cases h0 : (s.toList == [0]) with
    | true =>
      have hu : textB s = ⟨#[46]⟩ := by simp [textB, hm, h0]
      have HU := Lib.hid hu
      clear hu hm
      go_wp2_with fail
      go_ret
      exact ⟨by rw [HU.out]; rfl, hb1⟩
    | false =>
      have hu : textB s = ⟨(textL ((labsB s).map fun l => l.data.toList)).toArray⟩ := by rw [labsB_data hm]; simp [textB, hm, h0]
      have HU := Lib.hid hu
      have HS := Lib.hid (labsB_small hm)
      have hl1 : (labsB s).length ≤ 255 := by rw [labsB_labs hm, List.length_map]; exact nameIs_len (may_name hm)
      clear hu hm
      go_wp2_with fail
      refine (ref_labels s hs _).mono ?_; rintro e w2 ⟨A, cap, rfl, hA, hb2⟩
      have hB2 := bthen hb1 hb2
      clear hb1 hb2
      generalize labsB s = ls at *
      go_wp2_with fail
      go_loopw [5, 6] (fun t i wr => ∃ (k : Nat) (r : ByteArray), k ≤ ls.length ∧ i = .int .i64 k ∧ t = .string r ∧ r.data.toList = textL ((ls.take k).map fun l => l.data.toList) ∧ Below w2.heap.size w2 wr) (fun _ i _ => ls.length - (intOf i).toNat)
      case atStart => exact ⟨0, ⟨#[]⟩, Nat.zero_le _, rfl, rfl, rfl, Below.refl _ _⟩
      case round =>
        obtain ⟨k, r, hk, rfl, rfl, hr, hb⟩ := hrel
        have HR := Lib.hid hr
        clear hr
        by_cases hlt : k < ls.length
        · have hlz := HS.out _ (List.getElem_mem hlt)
          have htl := textT_len ls HS.out k
          rw [← HR.out, ba_len] at htl
          have hsn : textL ((ls.take (k + 1)).map fun l => l.data.toList) = r.data.toList ++ escL ls[k].data.toList ++ [46] := by
            rw [List.take_succ_eq_append_getElem hlt, List.map_append, List.map_cons, List.map_nil, textL_snoc, HR.out]
          have hcc := fun W hW => ((hA.below hb).below (w' := W) hW) k hlt
          obtain ⟨ad, rfl, _, _⟩ := (hA.below hb) k hlt
          have HC := Lib.hid hcc
          have HN := Lib.hid hsn
          generalize ls[k] = l at *
          clear hcc hsn
          go_wp2_with fail
          go_loopw [5, 7] (fun t i wq => ∃ (j : Nat) (q : ByteArray), j ≤ l.size ∧ i = .int .i64 j ∧ t = .string q ∧ q.data.toList = r.data.toList ++ escL (l.data.toList.take j) ∧ Below wr.heap.size wr wq) (fun _ i _ => l.size - (intOf i).toNat)
          case atStart => exact ⟨0, r, Nat.zero_le _, rfl, rfl, by simp [escL], Below.refl _ _⟩
          case round =>
            obtain ⟨j, q, hj, rfl, rfl, hq, hb'⟩ := hrel
            obtain ⟨ad', had, _, hc⟩ := HC.out _ hb'
            cases had
            have hel := escL_len (l.data.toList.take j)
            have htj : (l.data.toList.take j).length ≤ j := List.length_take_le _ _
            have hqz : q.size = r.size + (escL (l.data.toList.take j)).length := by rw [← ba_len, hq, List.length_append, ba_len]
            have HQ := Lib.hid hq
            clear hq
            by_cases hlj : j < l.size
            · have h8 : l[j].toNat ≤ 255 := by have := l[j].toNat_lt; omega
              have hej := esc_len l[j]
              have hsj : escL (l.data.toList.take (j + 1)) = escL (l.data.toList.take j) ++ esc l[j] := by
                rw [List.take_succ_eq_append_getElem (by rw [ba_len]; exact hlj), escL_snoc]; rfl
              have HJ := Lib.hid hsj
              have hesz : (⟨(esc l[j]).toArray⟩ : ByteArray).size = (esc l[j]).length := by
                show (esc l[j]).toArray.size = _
                simp
              have y1 : ¬ 9223372036854775807 < q.size + (esc l[j]).length := by omega
              have hone := ref_one l[j]
              clear hsj hqz hel htj
              go_wp2_with fail
              refine (hone _).mono ?_; rintro e' w4 ⟨rfl, hb4⟩
              clear hone
              go_wp2_with fail
              go_roundw
              case rel => exact ⟨j + 1, _, hlj, by go_num, rfl, by rw [HJ.out]; simp [HQ.out], bthen hb' hb4⟩
              case measure => simp [intOf]; omega
            · have hfull : l.data.toList.take j = l.data.toList := List.take_of_length_le (by rw [ba_len]; omega)
              have hq2 : q.data.toList = r.data.toList ++ escL l.data.toList := by rw [HQ.out, hfull]
              have HQ2 := Lib.hid hq2
              have y1 : ¬ 9223372036854775807 < q.size + 1 := by omega
              clear hq2 hfull hqz hel htj
              go_wp2_with fail
              go_roundw
              case rel => exact ⟨k + 1, _, hlt, by go_num, rfl, by rw [HN.out]; simp [HQ2.out], bthen hb hb'⟩
              case measure => simp [intOf]; omega
        · have hfull : ls.take k = ls := List.take_of_length_le (by omega)
          have hr2 : r = ⟨(textL (ls.map fun l => l.data.toList)).toArray⟩ := by
            apply ba_ext; rw [HR.out, hfull]
          subst hr2
          clear hfull
          go_wp2_with fail
          go_ret
          exact ⟨by rw [HU.out]; rfl, bthen hB2 hb⟩
end Go.Proofs.YtceafomifpkiaaaDoor
