/- The contract of name.Take: the name of a text form. -/
import Derived.Test.YtceafomifpkiaaaDoorNmz
namespace Go.Proofs.YtceafomifpkiaaaDoor
open Go.RowKit
set_option linter.unusedVariables false

def toB (l : List UInt8) : ByteArray := ⟨l.toArray⟩
theorem toB_data (s : ByteArray) : toB s.data.toList = s := by
  apply ba_ext; simp [toB]
theorem toB_list (l : List UInt8) : (toB l).data.toList = l := by simp [toB]
theorem toB_size (l : List UInt8) : (toB l).size = l.length := by rw [← ba_len, toB_list]
/-- name.Take's results. -/
def takeR (l : List UInt8) : ByteArray × Int := match splitL l with
  | none => (⟨#[]⟩, 2)
  | some ls => if ls.all (fun l => decide (l.length ≤ 63)) = true then (joinS (ls.map toB), joinE (ls.map toB)) else (⟨#[]⟩, 3)

set_option maxRecDepth 100000 in
set_option maxHeartbeats 1000000 in
theorem take_any (s : ByteArray) (hs : s.size ≤ 1048576) (w : World) (hg : Glob w) :
    Calls Tryd.prog 27 #[.string s] w fun e w' => e = .returned (.tuple #[.string (takeR s.data.toList).1, .int .i64 (takeR s.data.toList).2]) ∧ Below w.heap.size w w' := by
  obtain ⟨tr, htr⟩ : ∃ tr, takeR s.data.toList = tr := ⟨_, rfl⟩
  have HT := Lib.hid htr
  rw [htr]
  clear htr
  go_enter Tryd.func27, Tryd.ntmps27
  go_wp2_with fail
  refine (split_any s hs _ hg).mono ?_
  rintro e w1 ⟨A, cap, ls, ok, rfl, hlen, hS, hb1, hsp⟩
  cases ok with
  | false =>
    have ht : tr = (⟨#[]⟩, 2) := by rw [← HT.out]; unfold takeR; rw [hsp]; rfl
    subst ht
    clear hsp
    go_wp2_with fail
    go_ret2
    exact ⟨rfl, hb1⟩
  | true =>
    have hid : (ls.map fun l => l.data.toList).map toB = ls := by
      rw [List.map_map]
      have : (toB ∘ fun l : ByteArray => l.data.toList) = id := by funext x; exact toB_data x
      rw [this, List.map_id]
    have hall : (ls.map fun l => l.data.toList).all (fun l => decide (l.length ≤ 63)) = ls.all fun l => decide (l.size ≤ 63) := by
      rw [List.all_map]
      rfl
    have ht : tr = if (ls.all fun l => decide (l.size ≤ 63)) = true then (joinS ls, joinE ls) else (⟨#[]⟩, 3) := by
      rw [← HT.out]; unfold takeR; rw [hsp]
      show (if (ls.map fun l => l.data.toList).all (fun l => decide (l.length ≤ 63)) = true then _ else _) = _
      rw [hid, hall]
    have HR := Lib.hid ht
    clear ht hid hall hsp HT
    go_wp2_with fail
    go_loop [17] (fun i => ∃ k : Nat, k ≤ ls.length ∧ i = .int .i64 k ∧ (ls.take k).all (fun l => decide (l.size ≤ 63)) = true) (fun i => ls.length - (intOf i).toNat)
    case atStart => exact ⟨0, Nat.zero_le _, rfl, rfl⟩
    case round =>
      obtain ⟨k, hk, rfl, hok⟩ := hrel
      have HK := Lib.hid hok
      clear hok
      by_cases hlt : k < ls.length
      · obtain ⟨ad, rfl, hb, hc⟩ := hS k hlt
        have hsn : (ls.take (k + 1)).all (fun l => decide (l.size ≤ 63)) = decide (ls[k].size ≤ 63) := by
          rw [List.take_succ_eq_append_getElem hlt, List.all_append, HK.out]; simp
        have hany : ¬ ls[k].size ≤ 63 → (ls.all fun l => decide (l.size ≤ 63)) = false := by
          intro h
          rw [List.all_eq_false]
          exact ⟨ls[k], List.getElem_mem hlt, by simpa using h⟩
        have HS := Lib.hid hsn
        have HA := Lib.hid hany
        have hlk : ls[k].size ≤ 63 ∨ ¬ ls[k].size ≤ 63 := by omega
        generalize ls[k] = l at *
        clear hsn hany hS
        by_cases h63 : l.size ≤ 63
        · have b1 : decide (63 < (l.size : Int)) = false := by simp; omega
          have hn : decide (l.size ≤ 63) = true := by simpa using h63
          have HN := Lib.hid hn
          clear hn h63 hlk
          go_wp2_with fail
          go_round
          case rel => exact ⟨k + 1, hlt, by go_num, HS.out.trans HN.out⟩
          case measure => simp [intOf]; omega
        · have b1 : decide (63 < (l.size : Int)) = true := by simp; omega
          have ht : tr = (⟨#[]⟩, 3) := by rw [HR.out, HA.out h63]; rfl
          clear h63 hlk HR
          subst ht
          go_wp2_with fail
          go_ret2
          exact ⟨rfl, hb1⟩
      · have hfull : (ls.all fun l => decide (l.size ≤ 63)) = true := by
          have := HK.out
          rwa [List.take_of_length_le (by omega)] at this
        have ht : tr = (joinS ls, joinE ls) := by rw [HR.out, if_pos hfull]
        clear hfull HR
        subst ht
        go_wp2_with fail
        refine (join_any A cap ls _ hS (by omega)).mono ?_
        rintro e w2 ⟨rfl, hb2⟩
        go_wp2_with fail
        go_ret2
        exact ⟨rfl, bthen hb1 hb2⟩
end Go.Proofs.YtceafomifpkiaaaDoor
