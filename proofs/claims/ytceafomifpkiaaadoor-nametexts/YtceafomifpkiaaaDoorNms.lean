/- The contract of name.cutLabel: the first label of a text form, and what is behind it. -/
import Derived.Test.YtceafomifpkiaaaDoorNmr
import Derived.Test.YtceafomifpkiaaaDoorNml
namespace Go.Proofs.YtceafomifpkiaaaDoor
open Go.RowKit
set_option linter.unusedVariables false

theorem rdN_pos {l : List UInt8} (h : rdOk l = true) : 1 ≤ rdN l := by
  unfold rdN
  rw [if_pos h]
  unfold rdOk at h
  have h2 := congrArg List.length (eq_of_beq h)
  have h3 := esc_len (unesc l).1
  rw [List.length_take] at h2
  omega
theorem rdN_le {l : List UInt8} (h : 1 ≤ l.length) : rdN l ≤ l.length := by
  unfold rdN
  split
  · exact unesc_le l h
  · exact Nat.zero_le _

/-- The bytes of the first label of a text, and the text from the label's end on. -/
def scan (l : List UInt8) : Option (List UInt8 × List UInt8) :=
  if h0 : l = [] ∨ (l.getD 0 0).toNat = 46 then some ([], l)
  else if h : rdOk l = true then (scan (l.drop (rdN l))).map fun p => (rdC l :: p.1, p.2)
  else none
termination_by l.length
decreasing_by
  have h1 := rdN_pos h
  have h2 : l.length ≠ 0 := fun e => h0 (.inl (List.eq_nil_of_length_eq_zero e))
  rw [List.length_drop]
  omega
theorem scan_end {l : List UInt8} (h : l = [] ∨ (l.getD 0 0).toNat = 46) : scan l = some ([], l) := by rw [scan, dif_pos h]
theorem scan_step {l : List UInt8} (h : ¬ (l = [] ∨ (l.getD 0 0).toNat = 46)) (h2 : rdOk l = true) : scan l = (scan (l.drop (rdN l))).map fun p => (rdC l :: p.1, p.2) := by rw [scan, dif_neg h, dif_pos h2]
theorem scan_bad {l : List UInt8} (h : ¬ (l = [] ∨ (l.getD 0 0).toNat = 46)) (h2 : ¬ rdOk l = true) : scan l = none := by rw [scan, dif_neg h, dif_neg h2]

theorem info5 : (Tryd.prog.info? 5).map (fun i => (i.zero, i.size, i.bytes)) = some (some (.int .u8 0), 1, 1) := by kernel_rfl
theorem conv_nil (w : World) : (convert 44 9 (.slice none 0 0)).run Tryd.prog w = .ok (.string ⟨#[]⟩) w := by kernel_rfl
theorem conv_own {w : World} {base : Nat} {v : Value} {l : List UInt8} (h : w.ownsRow base 5 1 v l.length (Lib.byteCells l)) : (convert 44 9 v).run Tryd.prog w = .ok (.string ⟨l.toArray⟩) w := by
  rcases h.2 with ⟨rfl, h0⟩ | ⟨g, cap, cur, rfl, _, hg, hle, _, hcs, htk⟩
  · have : l = [] := List.eq_nil_of_length_eq_zero h0
    subst this
    exact conv_nil w
  · refine run_convert_bytes_back (P := Tryd.prog) w 44 9 5 ⟨g, 0, none⟩ cap l Tryd.underlying44 Tryd.underlying5 Tryd.underlying9 (fun j hj => ?_)
    exact h.cells (g := g) rfl j _ (by simp [Lib.byteCells, hj])
theorem own_form {w : World} {base : Nat} {e : TypeId} {v : Value} {n : Nat} {xs : List Value} (h : w.ownsRow base e 1 v n xs) : ∃ A cap, v = .slice A n cap := by
  rcases h.2 with ⟨rfl, rfl⟩ | ⟨g, cap, cur, rfl, _⟩
  · exact ⟨_, _, rfl⟩
  · exact ⟨_, _, rfl⟩

/-- name.cutLabel's results. -/
def cutB (l : List UInt8) : List UInt8 := match scan l with | some p => p.1 | none => []
def cutR (l : List UInt8) : List UInt8 := match scan l with | some p => p.2.drop 1 | none => []
def cutOk (l : List UInt8) : Bool := match scan l with | some p => decide (0 < p.1.length) | none => false

theorem trim_dot (t : List UInt8) (h : t = [] ∨ (t.getD 0 0).toNat = 46) : Lib.trimPrefix t [46] = t.drop 1 := by
  cases t with
  | nil => rfl
  | cons a r =>
    have : a.toNat = 46 := by simpa using h
    have e : a = 46 := by rw [← UInt8.toNat_inj]; exact this
    subst e
    simp [Lib.trimPrefix, Lib.hasPrefix, List.isPrefixOf]

theorem trim_at (r : ByteArray) (W : World) (h : r.data.toList = [] ∨ (r.data.toList.getD 0 0).toNat = 46) :
    Calls Tryd.prog 50 #[.string r, .string ⟨#[46]⟩] W fun e w' => e = .returned (.string ⟨(r.data.toList.drop 1).toArray⟩) ∧ w' = W := by
  have := Tryd.strings_TrimPrefix r ⟨#[46]⟩ W
  rw [show (ByteArray.mk #[46]).data.toList = [46] from rfl, trim_dot _ h] at this
  exact this
theorem own_below {w w' : World} {base : Nat} {e : TypeId} {v : Value} {n : Nat} {xs : List Value} (h : w.ownsRow base e 1 v n xs) (hb : Below w.heap.size w w') : w'.ownsRow base e 1 v n xs := by
  refine ⟨h.1, ?_⟩
  rcases h.2 with hn | ⟨g, cap, cur, rfl, hgb, hg, rest⟩
  · exact .inl hn
  · exact .inr ⟨g, cap, cur, rfl, hgb, (hb.block g (Array.getElem?_eq_some_iff.1 hg).1).trans hg, rest⟩
theorem below_drewN {B : Nat} {a w : World} (h : Below B a w) (n : Nat) : Below B a (w.drewN n) := ⟨h.os, h.tape, h.output, h.size, h.block⟩

set_option maxRecDepth 100000 in
set_option maxHeartbeats 1000000 in
theorem cut_any (s : ByteArray) (hs : s.size ≤ 1048576) (w : World) (hg : Glob w) :
    Calls Tryd.prog 45 #[.string s] w fun e w' => e = .returned (.tuple #[.string ⟨(cutB s.data.toList).toArray⟩, .string ⟨(cutR s.data.toList).toArray⟩, .bool (cutOk s.data.toList)]) ∧ Below w.heap.size w w' := by
  obtain ⟨i0, hi, hz0, hz1, hz2⟩ := info_parts info5
  go_enter Tryd.func45, Tryd.ntmps45
  go_wp2_with fail
  go_loopw [0, 5] (fun t b wr => ∃ (acc : List UInt8) (r : ByteArray), t = .string r ∧ wr.ownsRow w.heap.size 5 1 b acc.length (Lib.byteCells acc) ∧ scan s.data.toList = (scan r.data.toList).map (fun p => (acc ++ p.1, p.2)) ∧ acc.length + r.size ≤ s.size ∧ Below w.heap.size w wr) (fun t _ _ => match t with | .string r => r.size | _ => 0)
  case atStart => exact ⟨[], s, rfl, World.ownsRow_nil _ _ _ _, by simp, by simp, Below.refl _ _⟩
  case round =>
    obtain ⟨acc, r, rfl, hown, hsc, hlen, hB⟩ := hrel
    obtain ⟨A, cap, rfl⟩ := own_form hown
    have HS := Lib.hid hsc
    clear hsc
    by_cases h0 : r.size = 0
    · have hr0 : r.data.toList = [] := List.eq_nil_of_length_eq_zero (by rw [ba_len]; exact h0)
      have b0 : (!r.toList.isEmpty) = false := by rw [ByteArray.toList_eq, hr0]; rfl
      have b1 : r.toList = [] := by rw [ByteArray.toList_eq, hr0]
      have hend0 : r.data.toList = [] ∨ (r.data.toList.getD 0 0).toNat = 46 := .inl hr0
      have hend : scan r.data.toList = some ([], r.data.toList) := scan_end hend0
      clear h0 hr0
      have hb2 := conv_own hown
      have htr := fun W => trim_at r W hend0
      have e1 : cutB s.data.toList = acc := by unfold cutB; rw [HS.out, hend]; simp
      have e2 : cutR s.data.toList = r.data.toList.drop 1 := by unfold cutR; rw [HS.out, hend]; rfl
      have e3 : cutOk s.data.toList = decide (0 < acc.length) := by unfold cutOk; rw [HS.out, hend]; simp
      have E1 := Lib.hid e1
      have E2 := Lib.hid e2
      have E3 := Lib.hid e3
      have hb3 : ∀ n, (convert 44 9 (.slice A acc.length cap)).run Tryd.prog (wr.drewN n) = .ok (.string ⟨acc.toArray⟩) (wr.drewN n) := fun n => conv_own (w := wr.drewN n) hown
      clear hend hend0 e1 e2 e3 hb2
      go_wp2_with fail
      go_quiet ((go_at_call 50; exact Calls.quiet_of_same (htr _)))
      go_wp2_with fail
      go_ret3
      exact ⟨by rw [E1.out, E2.out, E3.out]; rfl, below_drewN hB _⟩
    · have hpos : 0 < r.size := by omega
      have hr0 : r.data.toList ≠ [] := fun e => h0 (by rw [← ba_len, e]; rfl)
      have b0 : (!r.toList.isEmpty) = true := by rw [ByteArray.toList_eq]; simpa using hr0
      have b1 : ¬ r.toList = [] := by rw [ByteArray.toList_eq]; exact hr0
      have g0 := at_getD r 0 hpos
      have h8 : r[0].toNat ≤ 255 := by have := r[0].toNat_lt; omega
      by_cases h46 : r[0].toNat = 46
      · have b2 : ((r[0].toNat : Int) != 46) = false := by simp; omega
        have hend0 : r.data.toList = [] ∨ (r.data.toList.getD 0 0).toNat = 46 := .inr (by rw [← g0]; exact h46)
        have hend : scan r.data.toList = some ([], r.data.toList) := scan_end hend0
        clear h0 hr0 g0 h46
        have hb2 := conv_own hown
        have htr := fun W => trim_at r W hend0
        have e1 : cutB s.data.toList = acc := by unfold cutB; rw [HS.out, hend]; simp
        have e2 : cutR s.data.toList = r.data.toList.drop 1 := by unfold cutR; rw [HS.out, hend]; rfl
        have e3 : cutOk s.data.toList = decide (0 < acc.length) := by unfold cutOk; rw [HS.out, hend]; simp
        have E1 := Lib.hid e1
        have E2 := Lib.hid e2
        have E3 := Lib.hid e3
        have hb3 : ∀ n, (convert 44 9 (.slice A acc.length cap)).run Tryd.prog (wr.drewN n) = .ok (.string ⟨acc.toArray⟩) (wr.drewN n) := fun n => conv_own (w := wr.drewN n) hown
        clear hend hend0 e1 e2 e3 hb2
        go_wp2_with fail
        go_quiet ((go_at_call 50; exact Calls.quiet_of_same (htr _)))
        go_wp2_with fail
        go_ret3
        exact ⟨by rw [E1.out, E2.out, E3.out]; rfl, below_drewN hB _⟩
      · have b2 : ((r[0].toNat : Int) != 46) = true := by simp; omega
        have hno : ¬ (r.data.toList = [] ∨ (r.data.toList.getD 0 0).toNat = 46) := by rw [← g0]; exact fun h => h.elim hr0 h46
        have hgr := hg.below hB
        have hrd := read_any r (by omega) hpos wr hgr
        have hln := rdN_le (l := r.data.toList) (by rw [ba_len]; exact hpos)
        rw [ba_len] at hln
        cases hok : rdOk r.data.toList with
        | false =>
          have hbad := scan_bad hno (by rw [hok]; decide)
          have e1 : cutB s.data.toList = [] := by unfold cutB; rw [HS.out, hbad]; rfl
          have e2 : cutR s.data.toList = [] := by unfold cutR; rw [HS.out, hbad]; rfl
          have e3 : cutOk s.data.toList = false := by unfold cutOk; rw [HS.out, hbad]; rfl
          have E1 := Lib.hid e1
          have E2 := Lib.hid e2
          have E3 := Lib.hid e3
          rw [hok] at hrd
          clear hbad e1 e2 e3 hno hok h0 hr0 g0 h46
          go_wp2_with fail
          refine hrd.mono ?_
          rintro e w2 ⟨rfl, hb2⟩
          go_wp2_with fail
          go_ret3
          exact ⟨by rw [E1.out, E2.out, E3.out]; rfl, bthen hB hb2⟩
        | true =>
          have hst := scan_step hno hok
          have hn1 := rdN_pos hok
          rw [hok] at hrd
          have hsl := fun w => slice_from r (rdN r.data.toList) hln w
          have hdrop : (r.extract (rdN r.data.toList) r.size).data.toList = r.data.toList.drop (rdN r.data.toList) := by
            rw [extract_list, ← ba_len, List.take_length]
          have hdz : (r.extract (rdN r.data.toList) r.size).size = r.size - rdN r.data.toList := by rw [ByteArray.size_extract]; omega
          have H1 := Lib.hid hst
          have H2 := Lib.hid hdrop
          have H3 := Lib.hid hdz
          clear hst hdrop hdz hno hok h0 hr0 g0 h46
          generalize rdN r.data.toList = n at *
          generalize rdC r.data.toList = c at *
          go_wp2_with fail
          refine hrd.mono ?_
          rintro e w2 ⟨rfl, hb2⟩
          have hown2 : w2.ownsRow w.heap.size 5 1 (.slice A acc.length cap) acc.length (Lib.byteCells acc) := own_below hown hb2
          have hB2 := bthen hB hb2
          have hs2 := hB2.size
          clear hown
          go_wp2_with (at_builtin; refine wpList_append_own _ rfl _ _ 44 rfl w.heap.size 5 i0 (.int .u8 0) 1 1 Tryd.underlying44 hi hz0 hz1 hz2 rfl (by decide) _ _ _ rfl (hown2.alloc _) ⟨w2.heap.size, 0, none⟩ 1 1 [.int .u8 (c.toNat : Nat)] rfl rfl (cell_one_new _ _ _) (by simp [Value.oneCell']) (by unfold maxLen; omega) (by omega) (by simp; omega) ?_; intro v' w3 hown' hgrow _)
          go_roundw
          case rel =>
            refine ⟨acc ++ [c], r.extract n r.size, rfl, by simpa [Lib.byteCells] using hown', ?_, by rw [H3.out]; simp; omega, ?_⟩
            · rw [HS.out, H1.out, H2.out, Option.map_map]
              congr 1
              funext p
              simp
            · refine (balloc hB2 _).grown hgrow (by simp; omega) (fun k e => (hown2.lt k e).1)
          case measure =>
            show (r.extract n r.size).size < r.size
            rw [H3.out]; omega
end Go.Proofs.YtceafomifpkiaaaDoor
