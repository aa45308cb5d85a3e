/- The contract of derrickref09.Ints at what is the same; both Spreads of any number; appends of questions. -/
import Derived.Test.YtdgbmcjlnpfndaaHsc
namespace Go.Proofs.Ytdgbmcjlnpfndaa
open Go.RowKit
set_option linter.unusedVariables false

set_option maxHeartbeats 1000000 in
theorem rspread_no (v : Value) (m : Int) (h : mayM m = false) (w : World) :
    Calls Try.prog 18 #[v, .int .i64 m] w fun e w' => e = .returned (.slice none 0 0) ∧ w' = w := by
  by_cases h1 : m ≤ 16
  · have h0 : ¬ (0 : Int) < m := by
      unfold mayM at h
      simp at h
      omega
    have d1 : decide ((0 : Int) < m) = false := by simpa using h0
    clear h h1
    go_enter Try.func18, Try.ntmps18
    go_wp2_with fail
    go_loopw [5, 6] (fun v x wr => v = .slice none 0 0 ∧ x = .int .i64 0 ∧ wr = w) (fun _ _ _ => 0)
    case atStart => exact ⟨rfl, rfl, rfl⟩
    case round =>
      obtain ⟨rfl, rfl, rfl⟩ := hrel
      go_wp2_with fail
      go_ret
      exact ⟨rfl, rfl⟩
  · have d2 : decide (m ≤ 16) = false := by simpa using h1
    have d1 : decide ((0 : Int) < m) = true := by simp; omega
    clear h h1
    go_enter Try.func18, Try.ntmps18
    go_wp2_with fail
    go_loopw [5, 6] (fun v x wr => v = .slice none 0 0 ∧ x = .int .i64 0 ∧ wr = w) (fun _ _ _ => 0)
    case atStart => exact ⟨rfl, rfl, rfl⟩
    case round =>
      obtain ⟨rfl, rfl, rfl⟩ := hrel
      go_wp2_with fail
      go_ret
      exact ⟨rfl, rfl⟩

/-- The counts over any number of shards. -/
def cntI (l : List Rc) (a : Int) : List Nat := if mayM a = true then cnts l a.toNat else []
theorem spreadI (A : Option Addr) (cap : Nat) (l : List Rc) (hl : l.length ≤ 1000) (ho : ∀ r ∈ l, r.Ok ∧ r.n.size ≤ 100000) (a : Int) (w : World) (hI : Sl qf w A cap l) :
    Calls Try.prog 17 #[.slice A l.length cap, .int .i64 a] w fun e w' => ∃ A' c', e = .returned (.slice A' (cntI l a).length c') ∧ Ns .i64 w' A' (cntI l a) ∧ Below w.heap.size w w' := by
  cases h : mayM a with
  | false =>
    rw [show cntI l a = [] by unfold cntI; rw [h]; rfl]
    exact (spread_no _ a h w).mono fun e w' ⟨h1, h2⟩ => ⟨none, 0, h1, (fun j hj => absurd hj (by simp)), by rw [h2]; exact Below.refl _ _⟩
  | true =>
    obtain ⟨m, rfl, h1, h2⟩ := mayM_nat h
    rw [show cntI l m = cnts l m by unfold cntI; rw [h]; rfl, cnts_len]
    exact (spread_any A cap l hl ho m h1 h2 w hI).mono fun e w' ⟨g, h1, h2, h3⟩ => ⟨_, _, h1, h2, h3⟩
theorem rspreadI (A : Option Addr) (cap : Nat) (l : List Rc) (hl : l.length ≤ 1000) (ho : ∀ r ∈ l, r.Ok ∧ r.n.size ≤ 100000) (a : Int) (w : World) (hI : Sl qf w A cap l) :
    Calls Try.prog 18 #[.slice A l.length cap, .int .i64 a] w fun e w' => ∃ A' c', e = .returned (.slice A' (cntI l a).length c') ∧ Ns .i64 w' A' (cntI l a) ∧ Below w.heap.size w w' := by
  cases h : mayM a with
  | false =>
    rw [show cntI l a = [] by unfold cntI; rw [h]; rfl]
    exact (rspread_no _ a h w).mono fun e w' ⟨h1, h2⟩ => ⟨none, 0, h1, (fun j hj => absurd hj (by simp)), by rw [h2]; exact Below.refl _ _⟩
  | true =>
    obtain ⟨m, rfl, h1, h2⟩ := mayM_nat h
    rw [show cntI l m = cnts l m by unfold cntI; rw [h]; rfl, cnts_len]
    exact rspread_any A cap l hl ho m h1 h2 w hI

set_option maxRecDepth 100000 in
set_option maxHeartbeats 1000000 in
theorem ints_yes (A : Option Addr) (cap : Nat) (A2 : Option Addr) (cap2 : Nat) (l : List Nat) (hl : l.length ≤ 1000) (w : World) (hI : Ns .i64 w A l) (hJ : Ns .i64 w A2 l) :
    Calls Try.prog 16 #[.slice A l.length cap, .slice A2 l.length cap2] w fun e w' => e = .returned (.bool true) ∧ Below w.heap.size w w' := by
  have HI := Lib.hid hI
  have HJ := Lib.hid hJ
  clear hI hJ
  go_enter Try.func16, Try.ntmps16
  go_wp2_with fail
  go_loopw [5] (fun i wr => ∃ j : Nat, j ≤ l.length ∧ i = .int .i64 j ∧ Below w.heap.size w wr) (fun i _ => l.length - (intOf i).toNat)
  case atStart => exact ⟨0, Nat.zero_le _, rfl, Below.refl _ _⟩
  case round =>
    obtain ⟨j, hj, rfl, hbel⟩ := hrel
    by_cases hlt : j < l.length
    · obtain ⟨b, off, rfl, c0⟩ := (HI.out.below hbel) j hlt
      obtain ⟨b', off', rfl, d0⟩ := (HJ.out.below hbel) j hlt
      have HB := Lib.hid hbel
      clear hbel
      generalize l[j] = r at *
      go_upto_region 6 with (fail)
      first | (go_region_with (fail)) | fail
      all_goals
        go_wp2_with fail
        go_roundw
        case rel => exact ⟨j + 1, hlt, by go_num, HB.out.drew⟩
        case measure => simp [intOf]; omega
    · obtain rfl : j = l.length := by omega
      have HB := Lib.hid hbel
      clear hbel
      go_wp2_with fail
      go_ret
      exact ⟨rfl, HB.out⟩

/-- append(own, x...) where x is any slice of questions, nil or not. -/
theorem wpList_append_qs {w : World} {ops : Array Oper} {rest : List Oper} {o : Oper} {a : Act} {Q : Exit → Act → World → Prop} (hgd : o.guard = none) (s x : Operand)
    (ho : o.op = .call { callee := .builtin .append, args := #[s, x], argTypes := #[25, 25] })
    (base : Nat) (v : Value) (l0 : List Rc) (hs : a.eval s = v) (hown : w.ownsRow base 24 3 v l0.length (l0.flatMap qf)) (A : Option Addr) (cap : Nat) (l : List Rc) (hSl : Sl qf w A cap l) (hx : a.eval x = .slice A l.length cap)
    (h63 : l0.length + l.length ≤ 1000000) (hbase : base ≤ w.heap.size)
    (h : ∀ v' w', w'.ownsRow base 24 3 v' (l0 ++ l).length ((l0 ++ l).flatMap qf) → w.grownBy w' v.ownBlock → wpList Try.prog ops Q rest (a.put o.dst v') w') : wpList Try.prog ops Q (o :: rest) a w := by
  obtain ⟨i0, hi, hz0, hz1, hz2⟩ := el_of elQ
  cases A with
  | none =>
    obtain rfl := hSl.empty rfl
    have hz := hSl.nl rfl
    subst hz
    exact wpList_append_own_none hgd s x 25 ho base 24 i0 3 Try.underlying25 hi v l0.length (l0.flatMap qf) hs hown hx (h v w (by simpa using hown) ⟨rfl, rfl, rfl, Nat.le_refl _, fun _ _ _ => rfl⟩)
  | some ad =>
    refine wpList_append_own w hgd s x 25 ho base 24 i0 (qV Rc.zero) 3 24 Try.underlying25 hi hz0 hz1 hz2 rfl (by decide) v l0.length (l0.flatMap qf) hs hown ad l.length cap (l.flatMap qf) hx (flat_len qf_len l) hSl.src (qf_one l) (by unfold maxLen; omega) (by omega) hbase ?_
    intro v' w' h1 h2 _
    exact h v' w' (by rw [List.length_append, List.flatMap_append]; exact h1) h2
end Go.Proofs.Ytdgbmcjlnpfndaa
