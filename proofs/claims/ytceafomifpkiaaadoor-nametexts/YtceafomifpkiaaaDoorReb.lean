/- The contract of derrickref02.Join: as the program's. -/
import Derived.Test.YtceafomifpkiaaaDoorRea
import Derived.IntWalk
namespace Go.Proofs.YtceafomifpkiaaaDoor
open Go.RowKit
set_option linter.unusedVariables false

theorem conv_one (W : World) (g : Nat) (c : UInt8) (h : W.cell? ⟨g, 0, none⟩ = some (.int .u8 (c.toNat : Nat))) :
    (convert 44 9 (.slice (some ⟨g, 0, none⟩) 1 1)).run Tryd.prog W = .ok (.string ⟨#[c]⟩) W := by
  refine run_convert_bytes_back (P := Tryd.prog) W 44 9 5 ⟨g, 0, none⟩ 1 [c] Tryd.underlying44 Tryd.underlying5 Tryd.underlying9 (fun j hj => ?_)
  match j, hj with
  | 0, _ => simpa [Addr.add] using h

theorem joinL_take_len (ls : List ByteArray) (k : Nat) (h : lbsOk (ls.take k) = true) : (joinL (ls.take k)).length ≤ 64 * k := by
  have h1 := joinL_len (ls.take k) h (ls.take k).length (Nat.le_refl _)
  rw [List.take_length] at h1
  have h2 : (ls.take k).length ≤ k := List.length_take_le _ _
  omega

set_option maxRecDepth 100000 in
set_option maxHeartbeats 4000000 in
theorem ref_join (A : Option Addr) (cap : Nat) (ls : List ByteArray) (w : World) (hS : Strs w A ls) (hl : ls.length ≤ 1000) (hsz : ∀ l ∈ ls, l.size ≤ 1000) :
    Calls Tryd.prog 15 #[.slice A ls.length cap] w fun e w' => e = .returned (.tuple #[.string (joinS ls), .int .i64 (joinE ls)]) ∧ Below w.heap.size w w' := by
  have HZ := Lib.hid hsz
  clear hsz
  go_enter Tryd.func15, Tryd.ntmps15
  go_wp2_with fail
  go_loopw [4, 5] (fun t i wr => ∃ (k : Nat) (r : ByteArray), k ≤ ls.length ∧ i = .int .i64 k ∧ t = .string r ∧ r.data.toList = joinL (ls.take k) ∧ lbsOk (ls.take k) = true ∧ Below w.heap.size w wr) (fun _ i _ => ls.length - (intOf i).toNat)
  case atStart => exact ⟨0, ⟨#[]⟩, Nat.zero_le _, rfl, rfl, rfl, rfl, Below.refl _ _⟩
  case round =>
    obtain ⟨k, r, hk, rfl, rfl, hr, hok, hB⟩ := hrel
    have HR := Lib.hid hr
    have HK := Lib.hid hok
    clear hr hok
    by_cases hlt : k < ls.length
    · obtain ⟨ad, rfl, hb, hc⟩ := (hS.below hB) k hlt
      have hlz := HZ.out _ (List.getElem_mem hlt)
      have hjt := joinL_take ls k hlt
      have hno : ¬ (1 ≤ ls[k].size ∧ ls[k].size ≤ 63) → lbsOk ls = false := by
        intro h
        cases hf : lbsOk ls with
        | false => rfl
        | true => exact (h (lbsOk_at hf k hlt)).elim
      have hnx : (1 ≤ ls[k].size ∧ ls[k].size ≤ 63) → lbsOk (ls.take (k + 1)) = true := by
        intro h
        rw [List.take_succ_eq_append_getElem hlt]
        have h2 := HK.out
        unfold lbsOk at h2 ⊢
        rw [List.all_append, h2]
        simpa using h
      have HNo := Lib.hid hno
      have HNx := Lib.hid hnx
      clear hno hnx
      have HJ := Lib.hid hjt
      generalize ls[k] = l at *
      clear hjt hS
      by_cases c1 : 1 ≤ l.size
      · by_cases c2 : l.size ≤ 63
        · have b1 : decide ((l.size : Int) < 1) = false := by simp; omega
          have b2 : decide (63 < (l.size : Int)) = false := by simp; omega
          have hof : (UInt8.ofNat l.size).toNat = l.size := by rw [UInt8.toNat_ofNat']; omega
          have HN := Lib.hid (HNx.out ⟨c1, c2⟩)
          have hcv : ∀ W g, W.cell? ⟨g, 0, none⟩ = some (.int .u8 (l.size : Nat)) → (convert 44 9 (.slice (some ⟨g, 0, none⟩) 1 1)).run Tryd.prog W = .ok (.string ⟨#[UInt8.ofNat l.size]⟩) W := fun W g h => conv_one W g _ (by rw [hof]; exact h)
          have hwr : IntKind.u8.wrap (l.size : Int) = l.size := IntWalk.u8_in _ (by omega)
          have hrs : r.size ≤ 64 * k := by rw [← ba_len, HR.out]; exact joinL_take_len ls k HK.out
          have hfs := foldB_size l
          have y1 : ¬ 9223372036854775807 < r.size + 1 := by omega
          have y2 : ¬ 9223372036854775807 < r.size + 1 + (foldB l).size := by omega
          have HFS := Lib.hid hfs
          clear hfs
          have HO := Lib.hid hof
          clear hof
          go_wp2_with fail
          have hca : ∀ o, (wr.alloc o).cell? (ad.add k) = some (.string l) := fun o => (World.cell?_alloc_lt wr o _ (by rw [add_block]; exact hb)).trans hc
          have hnew := World.cell?_alloc_mark wr #[.int .u8 (l.size : Nat)] 5 (0, 0) 0
          have HNew := Lib.hid hnew
          clear hnew
          go_region_with (first
            | (go_at_call 19; refine (ref_fold l (by omega) _).mono ?_; rintro e w2 ⟨rfl, hb2⟩
               have hc2 : w2.cell? (ad.add k) = some (.string l) := (hb2.cell (p := ad.add k) (by rw [add_block]; exact Nat.lt_of_lt_of_le hb (by simp))).trans (hca _)
               have hn2 : w2.cell? ⟨wr.heap.size, 0, none⟩ = some (.int .u8 (l.size : Nat)) := (hb2.cell (p := ⟨wr.heap.size, 0, none⟩) (by simp)).trans HNew.out)
            | (go_at_call 19; refine (ref_fold l (by omega) _).mono ?_; rintro e w2 ⟨rfl, hb2⟩
               have hc2 : w2.cell? (ad.add k) = some (.string l) := (hb2.cell (p := ad.add k) (by rw [add_block]; exact hb)).trans hc
               have hca2 : ∀ o, (w2.alloc o).cell? (ad.add k) = some (.string l) := fun o => (World.cell?_alloc_lt w2 o _ (by rw [add_block]; exact Nat.lt_of_lt_of_le hb hb2.size)).trans hc2))
          all_goals
            go_wp2_with fail
            go_roundw
            case rel =>
              refine ⟨k + 1, _, hlt, by go_num, rfl, ?_, HN.out, ?_⟩
              · rw [HJ.out, ← HR.out]; simp
              · first
                  | exact bthen (balloc hB _).drew hb2
                  | exact balloc (bthen hB.drew hb2) _
            case measure => simp [intOf]; omega
        · have b1 : decide ((l.size : Int) < 1) = false := by simp; omega
          have b2 : decide (63 < (l.size : Int)) = true := by simp; omega
          have HBad := Lib.hid (HNo.out (fun h => c2 h.2))
          have e1 : joinE ls = 2 := by unfold joinE; rw [if_neg (by rw [HBad.out]; decide)]
          have e2 : joinS ls = ⟨#[]⟩ := by unfold joinS; rw [if_neg (by rw [HBad.out]; simp)]
          have E1 := Lib.hid e1
          have E2 := Lib.hid e2
          clear e1 e2
          go_wp2_with fail
          go_ret2
          exact ⟨by rw [E1.out, E2.out]; rfl, hB⟩
      · have b1 : decide ((l.size : Int) < 1) = true := by simp; omega
        have HBad := Lib.hid (HNo.out (fun h => c1 h.1))
        have e1 : joinE ls = 2 := by unfold joinE; rw [if_neg (by rw [HBad.out]; decide)]
        have e2 : joinS ls = ⟨#[]⟩ := by unfold joinS; rw [if_neg (by rw [HBad.out]; simp)]
        have E1 := Lib.hid e1
        have E2 := Lib.hid e2
        clear e1 e2
        go_wp2_with fail
        go_ret2
        exact ⟨by rw [E1.out, E2.out]; rfl, hB⟩
    · have hfull : ls.take k = ls := List.take_of_length_le (by omega)
      have hok : lbsOk ls = true := by have := HK.out; rwa [hfull] at this
      have hrl : r.data.toList = joinL ls := by have := HR.out; rwa [hfull] at this
      have hrz : r.size = (joinL ls).length := by rw [← ba_len, hrl]
      have hjt := joinL_take_len ls k HK.out
      rw [hfull] at hjt
      have y1 : ¬ 9223372036854775807 < r.size + 1 := by omega
      by_cases h254 : 254 < r.size
      · have b1 : decide (254 < (r.size : Int)) = true := by simp; omega
        have e1 : joinE ls = 3 := by unfold joinE; rw [if_pos hok, if_neg (by omega)]
        have e2 : joinS ls = ⟨#[]⟩ := by unfold joinS; rw [if_neg (by intro h; have := h.2; omega)]
        have E1 := Lib.hid e1
        have E2 := Lib.hid e2
        clear e1 e2 hfull hok hrl hrz
        go_wp2_with fail
        go_ret2
        exact ⟨by rw [E1.out, E2.out]; rfl, hB⟩
      · have b1 : decide (254 < (r.size : Int)) = false := by simp; omega
        have e1 : joinE ls = 0 := by unfold joinE; rw [if_pos hok, if_pos (by omega)]
        have e2 : joinS ls = r ++ ⟨#[0]⟩ := by
          unfold joinS
          rw [if_pos ⟨hok, by omega⟩]
          apply ba_ext
          rw [← hrl]
          simp
        have E1 := Lib.hid e1
        have E2 := Lib.hid e2
        clear e1 e2 hfull hok hrl hrz
        go_wp2_with fail
        go_ret2
        exact ⟨by rw [E1.out, E2.out]; rfl, hB⟩
end Go.Proofs.YtceafomifpkiaaaDoor
