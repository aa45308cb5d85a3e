/- The contract of derricklaw06.begins, at a begin; and what a cut of a message is, in plain mathematics. -/
import Derived.Test.YtnakljbginbenaaDoorMmq
import Derived.Test.YtnakljbginbenaaDoorMmn
import Derived.Test.YtnakljbginbenaaDoorMmo
namespace Go.Proofs.YtnakljbginbenaaDoor
open Go.RowKit
set_option linter.unusedVariables false

set_option maxRecDepth 100000 in
set_option maxHeartbeats 1000000 in
theorem begins_yes (A : Option Addr) (cap : Nat) (A2 : Option Addr) (cap2 : Nat) (l l2 : List Rc) (hp : l2 <+: l) (hl : l.length ≤ 9223372036854775807) (w : World) (hI : Sl rf w A cap l) (hJ : Sl rf w A2 cap2 l2) :
    Calls Tryd.prog 15 #[.slice A l.length cap, .slice A2 l2.length cap2] w fun e w' => e = .returned (.bool true) ∧ Below w.heap.size w w' := by
  have HI := Lib.hid hI
  have HJ := Lib.hid hJ
  have hle := hp.length_le
  have HP := Lib.hid hp
  have dgt : decide ((l2.length : Int) > (l.length : Int)) = false := by simp; omega
  have dgt2 : decide (l.length < l2.length) = false := by simp; omega
  have HLe := Lib.hid hle
  clear hle
  clear hI hJ hp
  go_enter Tryd.func15, Tryd.ntmps15
  go_wp2_with fail
  clear dgt dgt2
  go_loopw [5] (fun i wr => ∃ j : Nat, j ≤ l2.length ∧ i = .int .i64 j ∧ Below w.heap.size w wr) (fun i _ => l2.length - (intOf i).toNat)
  case atStart => exact ⟨0, Nat.zero_le _, rfl, Below.refl _ _⟩
  case round =>
    obtain ⟨j, hj, rfl, hbel⟩ := hrel
    by_cases hlt : j < l2.length
    · have hlt1 : j < l.length := by have := HLe.out; omega
      have he : l[j] = l2[j] := (HP.out.getElem hlt).symm
      obtain ⟨b, off, rfl, hb, c0, c1, c2, c3, c4⟩ := (HI.out.below' hbel).rec5 j hlt1
      obtain ⟨b', off', rfl, hb', d0, d1, d2, d3, d4⟩ := (HJ.out.below' hbel).rec5 j hlt
      rw [he] at c0 c1 c2 c3 c4
      have HB := Lib.hid hbel
      clear hbel he
      generalize l2[j] = r at *
      go_upto_region 6 with (fail)
      first | (go_region_with (fail)) | fail
      all_goals
        go_wp2_with fail
        go_roundw
        case rel => exact ⟨j + 1, hlt, by go_num, HB.out.drew⟩
        case measure => simp [intOf]; omega
    · obtain rfl : j = l2.length := by omega
      have HB := Lib.hid hbel
      clear hbel
      go_wp2_with fail
      go_ret
      exact ⟨rfl, HB.out⟩

/-- What was cut fits; what fits isn't cut. -/
theorem fits_law {m : Ms} {most : Nat} {N : Ms} {E : Int} (hM : MayM m) (hmo : most ≤ 65535) (h : CutIs m most N E) :
    ((encM m).1.length ≤ most → E = 0 ∧ N = m) ∧ (most < (encM m).1.length → (E = 3 ∧ N = zMs) ∨ (E = 0 ∧ ∃ j, j < m.recs.length ∧ N = lessM m j true ∧ (encM N).1.length ≤ most)) := by
  have hmin : min (most : Int) 65535 = most := by omega
  have hG := (bgM_app hM).2
  have hall : rsF (bgM m) (m.recs.take m.recs.length) = encM m := by rw [List.take_length]; rfl
  have h0 : rsF (bgM m) (m.recs.take 0) = bgM m := by rw [List.take_zero]; rfl
  have hmono : ∀ i j, i ≤ j → (rsF (bgM m) (m.recs.take i)).1.length ≤ (rsF (bgM m) (m.recs.take j)).1.length := fun i j hij => rsF_mono hG hM.recs hij
  have hbe := hmono 0 m.recs.length (Nat.zero_le _)
  rw [h0, hall] at hbe
  unfold CutIs at h
  rw [hmin] at h
  rcases h with ⟨h1, _⟩ | ⟨_, h2, h3, h4⟩ | ⟨_, h2, h3, j, hF, h5⟩
  · rw [mayM_iff.2 hM] at h1; cases h1
  · exact ⟨fun hle => by omega, fun _ => .inl ⟨h4, h3⟩⟩
  · have hlow : ((rsF (bgM m) (m.recs.take j)).1.length : Int) ≤ most := by
      rcases Nat.eq_zero_or_pos j with hj | hj
      · subst hj; rw [h0]; exact h2
      · have := hF.2.1 (j - 1) (by omega)
        rw [show j - 1 + 1 = j by omega] at this
        exact this
    refine ⟨fun hle => ?_, fun hgt => ?_⟩
    · have hj : j = m.recs.length := by
        rcases Nat.lt_or_ge j m.recs.length with hlt | hge
        · have e1 := hF.2.2 hlt
          have e2 := hmono (j + 1) m.recs.length hlt
          rw [hall] at e2
          omega
        · have := hF.1; omega
      subst hj
      refine ⟨h3, ?_⟩
      rw [h5, decide_eq_false (Nat.lt_irrefl _), Bool.or_false]
      exact lessM_all m (Nat.le_refl _)
    · right
      have hj : j < m.recs.length := by
        rcases Nat.lt_or_ge j m.recs.length with hlt | hge
        · exact hlt
        · exfalso
          have : j = m.recs.length := by have := hF.1; omega
          subst this
          rw [hall] at hlow
          omega
      refine ⟨h3, j, hj, ?_, ?_⟩
      · rw [h5, decide_eq_true hj, Bool.or_true]
      · rw [h5, lessM_len]
        omega
theorem less_pre (m : Ms) (j : Nat) (t : Bool) : (lessM m j t).recs <+: m.recs ∧ (lessM m j t).an <+: m.an := ⟨by rw [lessM_recs]; exact List.take_prefix _ _, List.take_prefix _ _⟩
theorem less_sm {m : Ms} (h : SmM m) (j : Nat) (t : Bool) : SmM (lessM m j t) :=
  ⟨h.q, ⟨by have := h.an.len; show (m.an.take j).length ≤ _; rw [List.length_take]; omega, fun r hr => h.an.each r (List.mem_of_mem_take hr)⟩, ⟨by have := h.ns.len; show (m.ns.take _).length ≤ _; rw [List.length_take]; omega, fun r hr => h.ns.each r (List.mem_of_mem_take hr)⟩, ⟨by have := h.ar.len; show (m.ar.take _).length ≤ _; rw [List.length_take]; omega, fun r hr => h.ar.each r (List.mem_of_mem_take hr)⟩⟩

/-- append at an operation, in a region that draws its order. -/
theorem wp_append_sl {w : World} {o : Oper} {a : Act} {K : Act → World → Prop} {Q : Exit → Act → World → Prop} (s x : Operand)
    (ho : o.op = .call { callee := .builtin .append, args := #[s, x], argTypes := #[24, 24] })
    (base : Nat) (v : Value) (l0 : List Rc) (hs : a.eval s = v) (hown : w.ownsRow base 44 5 v l0.length (l0.flatMap rf)) (A : Option Addr) (cap : Nat) (l : List Rc) (hSl : Sl rf w A cap l) (hx : a.eval x = .slice A l.length cap)
    (h63 : l0.length + l.length ≤ 1000000) (hbase : base ≤ w.heap.size)
    (h : ∀ v' w', w'.ownsRow base 44 5 v' (l0 ++ l).length ((l0 ++ l).flatMap rf) → w.grownBy w' v.ownBlock → K (a.put o.dst v') w') : o.wp Tryd.prog a w K Q := by
  obtain ⟨i0, hi, hz0, hz1, hz2⟩ := el_of elR
  cases A with
  | none =>
    obtain rfl := hSl.empty rfl
    have hz := hSl.nl rfl
    subst hz
    have hx' : a.eval x = .slice none 0 0 := hx
    have hrun := run_append_owned_none (P := Tryd.prog) (w := w) base 24 o.type 44 i0 5 Tryd.underlying24 hi v l0.length (l0.flatMap rf) hown
    unfold Oper.wp
    simp [execOp, ho, resolve, invoke, builtin, hs, hx', hrun, Result.andThen]
    exact h v w (by simpa using hown) ⟨rfl, rfl, rfl, Nat.le_refl _, fun _ _ _ => rfl⟩
  | some ad =>
    refine wp_append_own w s x 24 ho base 44 i0 zR 5 40 Tryd.underlying24 hi hz0 hz1 hz2 rfl (by decide) v l0.length (l0.flatMap rf) hs hown ad l.length cap (l.flatMap rf) hx (flat_len rf_len l) hSl.src (rf_one l) (by unfold maxLen; omega) (by omega) hbase ?_
    intro v' w' h1 h2 _
    exact h v' w' (by rw [List.length_append, List.flatMap_append]; exact h1) h2
end Go.Proofs.YtnakljbginbenaaDoor
