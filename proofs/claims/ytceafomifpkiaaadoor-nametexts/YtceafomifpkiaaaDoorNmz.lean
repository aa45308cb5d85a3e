/- The contracts of name.split and name.Take: the labels, and the name, of a text form. -/
import Derived.Test.YtceafomifpkiaaaDoorNms
namespace Go.Proofs.YtceafomifpkiaaaDoor
open Go.RowKit
set_option linter.unusedVariables false

theorem scan_len (m : Nat) : ∀ (l b t : List UInt8), l.length ≤ m → scan l = some (b, t) → b.length + t.length ≤ l.length := by
  induction m with
  | zero =>
    intro l b t hl h
    have : l = [] := List.eq_nil_of_length_eq_zero (by omega)
    subst this
    rw [scan_end (.inl rfl)] at h
    cases h; simp
  | succ m ih =>
    intro l b t hl h
    by_cases h0 : l = [] ∨ (l.getD 0 0).toNat = 46
    · rw [scan_end h0] at h
      cases h; simp
    · cases hok : rdOk l with
      | false => rw [scan_bad h0 (by rw [hok]; decide)] at h; cases h
      | true =>
        rw [scan_step h0 hok] at h
        have hn := rdN_pos hok
        have hl0 : 1 ≤ l.length := by
          rcases Nat.eq_zero_or_pos l.length with e | e
          · exact (h0 (.inl (List.eq_nil_of_length_eq_zero e))).elim
          · exact e
        have hln := rdN_le hl0
        obtain ⟨p, hp, e⟩ := Option.map_eq_some_iff.1 h
        cases e
        have := ih (l.drop (rdN l)) p.1 p.2 (by rw [List.length_drop]; omega) hp
        rw [List.length_drop] at this
        simp
        omega
theorem cutR_lt {l : List UInt8} (h : cutOk l = true) : (cutR l).length < l.length ∧ 1 ≤ (cutB l).length ∧ (cutB l).length ≤ l.length := by
  unfold cutOk at h
  unfold cutR cutB
  split at h
  · rename_i p hp
    have := scan_len l.length l p.1 p.2 (Nat.le_refl _) hp
    simp at h ⊢
    omega
  · cases h

/-- The labels of a text that is not the root's. -/
def splF (l : List UInt8) : Option (List (List UInt8)) :=
  if h : cutOk l = true then (if cutR l = [] then some [cutB l] else (splF (cutR l)).map (cutB l :: ·)) else none
termination_by l.length
decreasing_by exact (cutR_lt h).1
theorem splF_bad {l : List UInt8} (h : ¬ cutOk l = true) : splF l = none := by rw [splF, dif_neg h]
/-- What is still to come. -/
def cont (l : List UInt8) (first : Bool) : Option (List (List UInt8)) := if first = false ∧ l = [] then some [] else splF l
theorem splF_ok {l : List UInt8} (h : cutOk l = true) : splF l = (cont (cutR l) false).map (cutB l :: ·) := by
  rw [splF, dif_pos h]
  unfold cont
  by_cases h0 : cutR l = []
  · rw [if_pos h0, if_pos ⟨rfl, h0⟩]; rfl
  · rw [if_neg h0, if_neg (fun e => h0 e.2)]
/-- The labels of a text. -/
def splitL (l : List UInt8) : Option (List (List UInt8)) := if l = [46] then some [] else splF l

/-- What name.split returns. -/
def SplPost (s : ByteArray) (w : World) (e : Ending) (w' : World) : Prop :=
  ∃ (A : Option Addr) (cap : Nat) (ls : List ByteArray) (ok : Bool), e = .returned (.tuple #[.slice A ls.length cap, .bool ok]) ∧ ls.length ≤ s.size ∧ Strs w' A ls ∧ Below w.heap.size w w' ∧
    splitL s.data.toList = if ok = true then some (ls.map fun l => l.data.toList) else none

set_option maxRecDepth 100000 in
set_option maxHeartbeats 1000000 in
theorem split_any (s : ByteArray) (hs : s.size ≤ 1048576) (w : World) (hg : Glob w) :
    Calls Tryd.prog 38 #[.string s] w (SplPost s w) := by
  obtain ⟨i0, hi, hz0, hz1, hz2⟩ := info_parts info9
  by_cases hd : s.data.toList = [46]
  · have b0 : (s.toList == [46]) = true := by rw [ByteArray.toList_eq, hd]; rfl
    have hsp : splitL s.data.toList = some [] := by unfold splitL; rw [if_pos hd]
    have HS := Lib.hid hsp
    clear hsp hd
    go_enter Tryd.func38, Tryd.ntmps38
    go_wp2_with fail
    go_ret2
    exact ⟨none, 0, [], true, rfl, by simp, fun j hj => absurd hj (by simp), Below.refl _ _, by rw [HS.out]; rfl⟩
  · have b0 : (s.toList == [46]) = false := by rw [ByteArray.toList_eq]; simpa using hd
    have hsp : splitL s.data.toList = splF s.data.toList := by unfold splitL; rw [if_neg hd]
    have HSP := Lib.hid hsp
    clear hsp hd
    go_enter Tryd.func38, Tryd.ntmps38
    go_wp2_with fail
    go_loopw [4, 5] (fun v t wr => ∃ (acc : List ByteArray) (r : ByteArray), t = .string r ∧ wr.ownsRow w.heap.size 9 1 v acc.length (acc.map Value.string) ∧ splF s.data.toList = (cont r.data.toList (decide (acc.length = 0))).map (fun p => (acc.map fun l => l.data.toList) ++ p) ∧ acc.length + r.size ≤ s.size ∧ Below w.heap.size w wr) (fun _ t _ => match t with | .string r => r.size | _ => 0)
    case atStart => exact ⟨[], s, rfl, World.ownsRow_nil _ _ _ _, by simp [cont], by simp, Below.refl _ _⟩
    case round =>
      obtain ⟨acc, r, rfl, hown, hsc, hlen, hB⟩ := hrel
      obtain ⟨A, cap, rfl⟩ := own_form hown
      have HS := Lib.hid hsc
      clear hsc
      by_cases hgo : r.size ≠ 0 ∨ acc.length = 0
      · have hct : cont r.data.toList (decide (acc.length = 0)) = splF r.data.toList := by
          unfold cont
          rw [if_neg]
          rintro ⟨h1, h2⟩
          have h3 : r.size = 0 := by rw [← ba_len, h2]; rfl
          have h4 : ¬ acc.length = 0 := by simpa using h1
          omega
        have HS2 : Hid (splF s.data.toList = (splF r.data.toList).map (fun p => (acc.map fun l => l.data.toList) ++ p)) := by
          have := HS.out
          rw [hct] at this
          exact this
        clear hct HS
        have HS := HS2
        clear HS2
        have hgr := hg.below hB
        by_cases hr : r.size = 0
        · have hrl : r.data.toList = [] := List.eq_nil_of_length_eq_zero (by rw [ba_len]; exact hr)
          have b1 : (!r.toList.isEmpty) = false := by rw [ByteArray.toList_eq, hrl]; rfl
          have b2 : r.toList = [] := by rw [ByteArray.toList_eq, hrl]
          have hac : acc.length = 0 := by omega
          have b3 : ((acc.length : Int) == 0) = true := by rw [hac]; rfl
          clear hrl hgo hr hac
          go_wp2_with fail
          refine (cut_any r (by omega) _ hgr).mono ?_
          rintro e w2 ⟨rfl, hb2⟩
          have hB2 := bthen hB hb2
          have hown2 := own_below hown hb2
          have hs2 := hB2.size
          clear hown
          cases hok : cutOk r.data.toList with
          | false =>
            have hn : splitL s.data.toList = none := by rw [HSP.out, HS.out, splF_bad (by rw [hok]; decide)]; rfl
            have HN := Lib.hid hn
            clear hn hok
            go_wp2_with fail
            go_ret2
            exact ⟨none, 0, [], false, rfl, by simp, fun j hj => absurd hj (by simp), hB2, by rw [HN.out]; rfl⟩
          | true =>
            have hst := splF_ok hok
            obtain ⟨hlt, hl1, hl2⟩ := cutR_lt hok
            rw [ba_len] at hlt hl2
            have H1 := Lib.hid hst
            clear hst hok
            generalize cutR r.data.toList = tR at *
            generalize cutB r.data.toList = tB at *
            go_wp2_with (at_builtin; refine wpList_append_own _ rfl _ _ 22 rfl w.heap.size 9 i0 (.string ⟨#[]⟩) 1 16 Tryd.underlying22 hi hz0 hz1 hz2 rfl (by decide) _ _ _ rfl (hown2.alloc _) ⟨w2.heap.size, 0, none⟩ 1 1 [.string ⟨tB.toArray⟩] rfl rfl (cell_one_new _ _ _) (by simp [Value.oneCell']) (by unfold maxLen; omega) (by omega) (by simp; omega) ?_; intro v' w3 hown' hgrow _)
            go_roundw
            case rel =>
              refine ⟨acc ++ [⟨tB.toArray⟩], ⟨tR.toArray⟩, rfl, by simpa using hown', ?_, ?_, ?_⟩
              · rw [HS.out, H1.out, Option.map_map]
                have : decide ((acc ++ [(⟨tB.toArray⟩ : ByteArray)]).length = 0) = false := by simp
                rw [this]
                congr 1
                funext p
                simp
              · show (acc ++ [_]).length + tR.toArray.size ≤ s.size
                simp
                omega
              · exact (balloc hB2 _).grown hgrow (by simp; omega) (fun k e => (hown2.lt k e).1)
            case measure =>
              show tR.toArray.size < r.size
              simpa using hlt
        · have hrl : r.data.toList ≠ [] := fun e => hr (by rw [← ba_len, e]; rfl)
          have b1 : (!r.toList.isEmpty) = true := by rw [ByteArray.toList_eq]; simpa using hrl
          have b2 : ¬ r.toList = [] := by rw [ByteArray.toList_eq]; exact hrl
          clear hrl hgo
          go_wp2_with fail
          refine (cut_any r (by omega) _ hgr).mono ?_
          rintro e w2 ⟨rfl, hb2⟩
          have hB2 := bthen hB hb2
          have hown2 := own_below hown hb2
          have hs2 := hB2.size
          clear hown
          cases hok : cutOk r.data.toList with
          | false =>
            have hn : splitL s.data.toList = none := by rw [HSP.out, HS.out, splF_bad (by rw [hok]; decide)]; rfl
            have HN := Lib.hid hn
            clear hn hok
            go_wp2_with fail
            go_ret2
            exact ⟨none, 0, [], false, rfl, by simp, fun j hj => absurd hj (by simp), hB2, by rw [HN.out]; rfl⟩
          | true =>
            have hst := splF_ok hok
            obtain ⟨hlt, hl1, hl2⟩ := cutR_lt hok
            rw [ba_len] at hlt hl2
            have H1 := Lib.hid hst
            clear hst hok
            generalize cutR r.data.toList = tR at *
            generalize cutB r.data.toList = tB at *
            go_wp2_with (at_builtin; refine wpList_append_own _ rfl _ _ 22 rfl w.heap.size 9 i0 (.string ⟨#[]⟩) 1 16 Tryd.underlying22 hi hz0 hz1 hz2 rfl (by decide) _ _ _ rfl (hown2.alloc _) ⟨w2.heap.size, 0, none⟩ 1 1 [.string ⟨tB.toArray⟩] rfl rfl (cell_one_new _ _ _) (by simp [Value.oneCell']) (by unfold maxLen; omega) (by omega) (by simp; omega) ?_; intro v' w3 hown' hgrow _)
            go_roundw
            case rel =>
              refine ⟨acc ++ [⟨tB.toArray⟩], ⟨tR.toArray⟩, rfl, by simpa using hown', ?_, ?_, ?_⟩
              · rw [HS.out, H1.out, Option.map_map]
                have : decide ((acc ++ [(⟨tB.toArray⟩ : ByteArray)]).length = 0) = false := by simp
                rw [this]
                congr 1
                funext p
                simp
              · show (acc ++ [_]).length + tR.toArray.size ≤ s.size
                simp
                omega
              · exact (balloc hB2 _).grown hgrow (by simp; omega) (fun k e => (hown2.lt k e).1)
            case measure =>
              show tR.toArray.size < r.size
              simpa using hlt
      · have hr : r.size = 0 := by omega
        have hac : acc.length ≠ 0 := by omega
        have hrl : r.data.toList = [] := List.eq_nil_of_length_eq_zero (by rw [ba_len]; exact hr)
        have b1 : (!r.toList.isEmpty) = false := by rw [ByteArray.toList_eq, hrl]; rfl
        have b2 : r.toList = [] := by rw [ByteArray.toList_eq, hrl]
        have b3 : ((acc.length : Int) == 0) = false := by simpa using hac
        have hct : splitL s.data.toList = some (acc.map fun l => l.data.toList) := by
          rw [HSP.out, HS.out]
          unfold cont
          rw [if_pos ⟨by simpa using hac, hrl⟩]
          simp
        have HC := Lib.hid hct
        obtain ⟨A', cap', hv, hS⟩ := strs_of_own hown
        cases hv
        clear hct hrl hr hac hgo
        go_wp2_with fail
        go_ret2
        exact ⟨A, cap, acc, true, rfl, by omega, hS, hB, by rw [HC.out]; rfl⟩
end Go.Proofs.YtceafomifpkiaaaDoor
