/- The walk of RankChain. -/
import Derived.Test.YtbcgkjfhfegeaaaDoorRkb
namespace Go.Proofs.YtbcgkjfhfegeaaaDoor
open Go.RowKit
set_option linter.unusedVariables false

theorem bt_chain {a b c : Int} {ea eb now : Nat} (h1 : btN a ea b now = true) (h2 : btN b eb c now = true) (h : now < eb) : btN a ea c now = true := by
  unfold btN at *
  simp at *
  omega
theorem bt_later {a b : Int} {ea now th : Nat} (h1 : btN a ea b now = true) (h : now ≤ th) : btN a ea b th = true := by
  unfold btN at *
  simp at *
  omega
set_option maxHeartbeats 2000000 in
/-- Three entries in memory. -/
theorem three_blocks (w : World) (n n' n'' : ByteArray) (t c t' c' t'' c'' : Nat) (sl sl' sl'' : Value) (rc rc' rc'' rk rk' rk'' : Int) (ex ex' ex'' : Nat) :
    Eb (((w.alloc (.cells #[.string n, .int .u16 (t : Nat), .int .u16 (c : Nat), sl, .int .i64 rc, .int .i64 rk, .int .u64 (ex : Nat)] 30)).alloc (.cells #[.string n', .int .u16 (t' : Nat), .int .u16 (c' : Nat), sl', .int .i64 rc', .int .i64 rk', .int .u64 (ex' : Nat)] 30)).alloc (.cells #[.string n'', .int .u16 (t'' : Nat), .int .u16 (c'' : Nat), sl'', .int .i64 rc'', .int .i64 rk'', .int .u64 (ex'' : Nat)] 30)) w.heap.size n t c sl rc rk ex ∧ Eb (((w.alloc (.cells #[.string n, .int .u16 (t : Nat), .int .u16 (c : Nat), sl, .int .i64 rc, .int .i64 rk, .int .u64 (ex : Nat)] 30)).alloc (.cells #[.string n', .int .u16 (t' : Nat), .int .u16 (c' : Nat), sl', .int .i64 rc', .int .i64 rk', .int .u64 (ex' : Nat)] 30)).alloc (.cells #[.string n'', .int .u16 (t'' : Nat), .int .u16 (c'' : Nat), sl'', .int .i64 rc'', .int .i64 rk'', .int .u64 (ex'' : Nat)] 30)) (w.heap.size + 1) n' t' c' sl' rc' rk' ex' ∧ Eb (((w.alloc (.cells #[.string n, .int .u16 (t : Nat), .int .u16 (c : Nat), sl, .int .i64 rc, .int .i64 rk, .int .u64 (ex : Nat)] 30)).alloc (.cells #[.string n', .int .u16 (t' : Nat), .int .u16 (c' : Nat), sl', .int .i64 rc', .int .i64 rk', .int .u64 (ex' : Nat)] 30)).alloc (.cells #[.string n'', .int .u16 (t'' : Nat), .int .u16 (c'' : Nat), sl'', .int .i64 rc'', .int .i64 rk'', .int .u64 (ex'' : Nat)] 30)) (w.heap.size + 1 + 1) n'' t'' c'' sl'' rc'' rk'' ex'' ∧ Below w.heap.size w (((w.alloc (.cells #[.string n, .int .u16 (t : Nat), .int .u16 (c : Nat), sl, .int .i64 rc, .int .i64 rk, .int .u64 (ex : Nat)] 30)).alloc (.cells #[.string n', .int .u16 (t' : Nat), .int .u16 (c' : Nat), sl', .int .i64 rc', .int .i64 rk', .int .u64 (ex' : Nat)] 30)).alloc (.cells #[.string n'', .int .u16 (t'' : Nat), .int .u16 (c'' : Nat), sl'', .int .i64 rc'', .int .i64 rk'', .int .u64 (ex'' : Nat)] 30)) := by
  obtain ⟨h1, h2, h3⟩ := two_blocks w n n' t c t' c' sl sl' rc rc' rk rk' ex ex'
  generalize hw : (w.alloc (.cells #[.string n, .int .u16 (t : Nat), .int .u16 (c : Nat), sl, .int .i64 rc, .int .i64 rk, .int .u64 (ex : Nat)] 30)).alloc (.cells #[.string n', .int .u16 (t' : Nat), .int .u16 (c' : Nat), sl', .int .i64 rc', .int .i64 rk', .int .u64 (ex' : Nat)] 30) = w2 at h1 h2 h3 ⊢
  have hs : w2.heap.size = w.heap.size + 1 + 1 := by rw [← hw]; simp
  have h := Eb.new w2 n'' t'' c'' sl'' rc'' rk'' ex''
  rw [hs] at h
  exact ⟨h1.below h1.lt ((Below.refl _ _).alloc (Nat.le_refl _) _), h2.below h2.lt ((Below.refl _ _).alloc (Nat.le_refl _) _), h, h3.alloc h3.size _⟩

set_option maxRecDepth 100000 in
set_option maxHeartbeats 4000000 in
theorem chain_walk (n n' n'' : ByteArray) (t c t' c' t'' c'' : Nat) (sl sl' sl'' : Value) (rc rc' rc'' rk rk' rk'' : Int) (ex ex' ex'' now later : Nat) (hn : now < 18446744073709551616) (hl : later < 4294967296) (w : World) (hL : Lay w) :
    Calls Tryd.prog 6 #[entV n t c sl rc rk ex, entV n' t' c' sl' rc' rk' ex', entV n'' t'' c'' sl'' rc'' rk'' ex'', .int .u64 (now : Nat), .int .u32 (later : Nat)] w fun x w' => x = .returned (.bool true) ∧ Below w.heap.size w w' := by
  have HL := Lib.hid hL
  have HP := Lib.hid (lay_lt hL)
  clear hL
  have HT := Lib.hid (three_blocks w n n' n'' t c t' c' t'' c'' sl sl' sl'' rc rc' rc'' rk rk' rk'' ex ex' ex'')
  unfold entV
  go_enter Tryd.func6, Tryd.ntmps6
  go_wp2_with fail
  generalize hw0 : ((w.alloc (.cells #[.string n, .int .u16 (t : Nat), .int .u16 (c : Nat), sl, .int .i64 rc, .int .i64 rk, .int .u64 (ex : Nat)] 30)).alloc (.cells #[.string n', .int .u16 (t' : Nat), .int .u16 (c' : Nat), sl', .int .i64 rc', .int .i64 rk', .int .u64 (ex' : Nat)] 30)).alloc (.cells #[.string n'', .int .u16 (t'' : Nat), .int .u16 (c'' : Nat), sl'', .int .i64 rc'', .int .i64 rk'', .int .u64 (ex'' : Nat)] 30) = w0
  rw [hw0] at HT
  clear hw0
  have HL0 := Lib.hid (HL.out.below HP.out HT.out.2.2.2)
  refine (shown_any w0 HL0.out).mono ?_
  rintro _ w1 ⟨rfl, hb⟩
  have HA1 := Lib.hid (HT.out.1.below HT.out.1.lt hb)
  have HB1 := Lib.hid (HT.out.2.1.below HT.out.2.1.lt hb)
  have HC1 := Lib.hid (HT.out.2.2.1.below HT.out.2.2.1.lt hb)
  have HW1 := Lib.hid (HT.out.2.2.2.trans (hb.mono HT.out.2.2.2.size))
  clear hb HT HL0
  obtain ⟨_, _, _, _, _, _, _⟩ := HA1.out.cells
  obtain ⟨_, _, _, _, _, _, _⟩ := HB1.out.cells
  go_wp2_with fail
  refine (beats_any n n' t c t' c' sl sl' rc rc' rk rk' ex ex' now w1).mono ?_
  rintro _ w2 ⟨rfl, hb⟩
  have HA2 := Lib.hid (HA1.out.below HA1.out.lt hb)
  have HB2 := Lib.hid (HB1.out.below HB1.out.lt hb)
  have HC2 := Lib.hid (HC1.out.below HC1.out.lt hb)
  have HW2 := Lib.hid (HW1.out.trans (hb.mono HW1.out.size))
  clear hb HA1 HB1 HC1 HW1
  obtain ⟨_, _, _, _, _, _, _⟩ := HB2.out.cells
  obtain ⟨_, _, _, _, _, _, _⟩ := HC2.out.cells
  obtain ⟨x, hx⟩ : ∃ x, btN rk ex rk' now = x := ⟨_, rfl⟩
  rw [hx]
  have HX := Lib.hid hx
  clear hx
  go_wp2_with fail
  refine (beats_any n' n'' t' c' t'' c'' sl' sl'' rc' rc'' rk' rk'' ex' ex'' now w2).mono ?_
  rintro _ w3 ⟨rfl, hb⟩
  have HA3 := Lib.hid (HA2.out.below HA2.out.lt hb)
  have HB3 := Lib.hid (HB2.out.below HB2.out.lt hb)
  have HC3 := Lib.hid (HC2.out.below HC2.out.lt hb)
  have HW3 := Lib.hid (HW2.out.trans (hb.mono HW2.out.size))
  clear hb HA2 HB2 HC2 HW2
  obtain ⟨_, _, _, _, _, _, _⟩ := HA3.out.cells
  obtain ⟨_, _, _, _, _, _, _⟩ := HB3.out.cells
  obtain ⟨_, _, _, _, _, _, _⟩ := HC3.out.cells
  obtain ⟨y, hy⟩ : ∃ y, btN rk' ex' rk'' now = y := ⟨_, rfl⟩
  rw [hy]
  have HY := Lib.hid hy
  clear hy
  have hwl : IntKind.u64.wrap (later : Int) = (later : Int) := by
    simp [IntKind.wrap, IntKind.bits, IntKind.signed]
    omega
  by_cases ho : now + later < 18446744073709551616
  · obtain ⟨th, hth⟩ : ∃ th, now + later = th := ⟨_, rfl⟩
    have hw : IntKind.u64.wrap ((now : Int) + (later : Int)) = (th : Int) := by
      simp [IntKind.wrap, IntKind.bits, IntKind.signed]
      omega
    have d0 : ¬ th < now := by omega
    have HTH := Lib.hid (show now ≤ th by omega)
    clear ho hn hl hth
    cases x with
    | false =>
      go_wp2_with fail
      go_ret
      exact ⟨rfl, HW3.out⟩
    | true =>
      have HZ := Lib.hid (bt_later HX.out HTH.out)
      cases y with
      | false =>
        go_wp2_with fail
        refine (beats_any n n' t c t' c' sl sl' rc rc' rk rk' ex ex' th w3).mono ?_
        rintro _ w4 ⟨rfl, hb⟩
        have HW4 := Lib.hid (HW3.out.trans (hb.mono HW3.out.size))
        rw [HZ.out]
        clear hb
        go_wp2_with fail
        go_ret
        exact ⟨rfl, HW4.out⟩
      | true =>
        by_cases h2 : now < ex'
        · have d2 : decide (ex' ≤ now) = false := by simpa using h2
          have HC := Lib.hid (bt_chain HX.out HY.out h2)
          clear h2
          go_wp2_with fail
          refine (beats_any n n'' t c t'' c'' sl sl'' rc rc'' rk rk'' ex ex'' now w3).mono ?_
          rintro _ w4 ⟨rfl, hb⟩
          have HW4 := Lib.hid (HW3.out.trans (hb.mono HW3.out.size))
          have HA4 := Lib.hid (HA3.out.below HA3.out.lt hb)
          have HB4 := Lib.hid (HB3.out.below HB3.out.lt hb)
          obtain ⟨_, _, _, _, _, _, _⟩ := HA4.out.cells
          obtain ⟨_, _, _, _, _, _, _⟩ := HB4.out.cells
          rw [HC.out]
          clear hb
          go_wp2_with fail
          refine (beats_any n n' t c t' c' sl sl' rc rc' rk rk' ex ex' th w4).mono ?_
          rintro _ w5 ⟨rfl, hb⟩
          have HW5 := Lib.hid (HW4.out.trans (hb.mono HW4.out.size))
          rw [HZ.out]
          clear hb
          go_wp2_with fail
          go_ret
          exact ⟨rfl, HW5.out⟩
        · have d2 : decide (ex' ≤ now) = true := by simpa using h2
          clear h2
          go_wp2_with fail
          refine (beats_any n n' t c t' c' sl sl' rc rc' rk rk' ex ex' th w3).mono ?_
          rintro _ w4 ⟨rfl, hb⟩
          have HW4 := Lib.hid (HW3.out.trans (hb.mono HW3.out.size))
          rw [HZ.out]
          clear hb
          go_wp2_with fail
          go_ret
          exact ⟨rfl, HW4.out⟩
  · obtain ⟨s, hs⟩ : ∃ s : Nat, s = now + later - 18446744073709551616 := ⟨_, rfl⟩
    have hw : IntKind.u64.wrap ((now : Int) + (later : Int)) = (s : Int) := by
      simp [IntKind.wrap, IntKind.bits, IntKind.signed]
      omega
    have g : s < now := by omega
    clear hs ho
    go_wp2_with fail
    go_ret
    exact ⟨rfl, HW3.out⟩
end Go.Proofs.YtbcgkjfhfegeaaaDoor
