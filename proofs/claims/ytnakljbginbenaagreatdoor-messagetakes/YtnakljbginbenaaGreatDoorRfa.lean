/- The contracts of the document's answer for record data (derrickref04): size, texts, May. -/
import Derived.Test.YtnakljbginbenaaGreatDoorBrd
namespace Go.Proofs.YtnakljbginbenaaGreatDoor
open Go.RowKit
set_option linter.unusedVariables false

theorem szN_zero {s : ByteArray} (h : ∀ j, 1 ≤ j → j ≤ 255 → j ≤ s.size → mayB (s.extract 0 j) = false) : szN s = 0 := by
  rcases Nat.eq_zero_or_pos (szN s) with h0 | h0
  · exact h0
  · obtain ⟨a, b, c⟩ := szN_pos h0
    rw [h _ h0 b a] at c
    cases c
theorem sl_to (s : ByteArray) (n : Nat) (h : n ≤ s.size) (w : World) : (Instr.slice 9 (.string s) none (some (.int .i64 (n : Int))) none).run Tryz.prog w = .ok (.string (s.extract 0 n)) w := by
  have := run_slice_string_to_if (P := Tryz.prog) (w := w) 9 s .i64 (n : Int) Tryz.underlying9
  simpa [h] using this
theorem sl_from (s : ByteArray) (n : Nat) (h : n ≤ s.size) (w : World) : (Instr.slice 9 (.string s) (some (.int .i64 (n : Int))) none none).run Tryz.prog w = .ok (.string (s.extract n s.size)) w := by
  have := run_slice_string_from_if (P := Tryz.prog) (w := w) 9 s .i64 (n : Int) Tryz.underlying9
  simpa [h] using this

set_option maxRecDepth 100000 in
set_option maxHeartbeats 1000000 in
theorem rsize_any (s : ByteArray) (hs : s.size ≤ 4194304) (w : World) :
    Calls Tryz.prog 114 #[.string s] w fun e w' => e = .returned (.int .i64 (szN s : Nat)) ∧ Below w.heap.size w w' := by
  go_enter Tryz.func114, Tryz.ntmps114
  go_wp2_with fail
  go_loopw [3] (fun i wr => ∃ k : Nat, 1 ≤ k ∧ k ≤ 256 ∧ i = .int .i64 k ∧ (∀ j, 1 ≤ j → j < k → j ≤ s.size → mayB (s.extract 0 j) = false) ∧ Below w.heap.size w wr) (fun i _ => 256 - (intOf i).toNat)
  case atStart => exact ⟨1, Nat.le_refl _, by decide, rfl, (fun j h1 h2 => by omega), Below.refl _ _⟩
  case round =>
    obtain ⟨k, hk1, hk, rfl, hno, hbel⟩ := hrel
    have HN := Lib.hid hno
    clear hno
    by_cases hle : k ≤ s.size
    · by_cases h255 : k ≤ 255
      · have hsl := sl_to s k hle
        have hx : (s.extract 0 k).size ≤ 4194304 := by rw [ByteArray.size_extract]; omega
        have HX := Lib.hid hx
        have d1 : decide (k ≤ s.size) = true := by simpa using hle
        have d2 : decide (k ≤ 255) = true := by simpa using h255
        clear hx
        go_wp2_with fail
        refine (ref_may (s.extract 0 k) HX.out _).mono ?_
        rintro e w1 ⟨rfl, hb1⟩
        have HB := Lib.hid (bthen hbel hb1)
        clear hb1 hbel hsl
        cases hm : mayB (s.extract 0 k) with
        | true =>
          have HR := Lib.hid (szN_yes hle hm)
          clear hm
          go_wp2_with fail
          go_ret
          exact ⟨by rw [HR.out]; rfl, HB.out⟩
        | false =>
          have HM := Lib.hid hm
          clear hm
          go_wp2_with fail
          go_roundw
          case rel => exact ⟨k + 1, by omega, by omega, by go_num, (fun j h1 h2 h3 => by
            by_cases hjk : j < k
            · exact HN.out j h1 hjk h3
            · have : j = k := by omega
              rw [this]; exact HM.out), HB.out⟩
          case measure => simp [intOf]; omega
      · have HR := Lib.hid (szN_zero (s := s) (fun j h1 h2 h3 => HN.out j h1 (by omega) h3))
        have d1 : decide (k ≤ s.size) = true := by simpa using hle
        have d2 : decide (k ≤ 255) = false := by simpa using h255
        go_wp2_with fail
        go_ret
        exact ⟨by rw [HR.out]; rfl, hbel⟩
    · have HR := Lib.hid (szN_zero (s := s) (fun j h1 h2 h3 => HN.out j h1 (by omega) h3))
      have d1 : decide (k ≤ s.size) = false := by simpa using hle
      go_wp2_with fail
      go_ret
      exact ⟨by rw [HR.out]; rfl, hbel⟩

theorem txt_cons {x : ByteArray} (hne : 0 < x.size) : txtB x.data.toList = if 1 + x[0].toNat ≤ x.size then (if 1 + x[0].toNat = x.size then true else txtB (x.extract (1 + x[0].toNat) x.size).data.toList) else false := by
  have hl : x.data.toList = x[0] :: x.data.toList.tail := by
    cases h : x.data.toList with
    | nil => rw [← ba_len, h] at hne; simp at hne
    | cons c r =>
      have : x[0] = c := by
        have h1 : x[0] = x.data.toList[0]'(by rw [ba_len]; exact hne) := by rfl
        rw [h1]
        simp [h]
      rw [this]; rfl
  have hlen : x.data.toList.tail.length = x.size - 1 := by rw [List.length_tail, ba_len]
  have hd : (x.extract (1 + x[0].toNat) x.size).data.toList = x.data.toList.tail.drop x[0].toNat := by
    rw [extract_list, ← ba_len, List.take_length, ← List.drop_one, List.drop_drop]
  rw [hd, hl, txtB, List.tail_cons]
  generalize x.data.toList.tail = r at *
  by_cases h1 : 1 + x[0].toNat ≤ x.size
  · rw [if_pos (by omega), if_pos h1]
    by_cases h2 : 1 + x[0].toNat = x.size
    · rw [if_pos (by omega), if_pos h2]
    · rw [if_neg (by omega), if_neg h2]
  · rw [if_neg (by omega), if_neg h1]

set_option maxRecDepth 100000 in
set_option maxHeartbeats 1000000 in
theorem rtexts_any (s : ByteArray) (hs : s.size ≤ 4194304) (w : World) :
    Calls Tryz.prog 115 #[.string s] w fun e w' => e = .returned (.bool (txtB s.data.toList)) ∧ Below w.heap.size w w' := by
  by_cases h0 : s.size = 0
  · have hl : s.data.toList = [] := List.eq_nil_of_length_eq_zero (by rw [ba_len]; exact h0)
    have hst : s.toList = [] := by rw [ByteArray.toList_eq]; exact hl
    have HR := Lib.hid (show txtB s.data.toList = false by rw [hl, txtB])
    go_enter Tryz.func115, Tryz.ntmps115
    go_wp2_with fail
    go_ret
    exact ⟨by rw [HR.out]; rfl, Below.refl _ _⟩
  · have hne : s.toList.isEmpty = false := by rw [ByteArray.toList_eq]; cases h : s.data.toList with
      | nil => rw [← ba_len, h] at h0; exact absurd rfl h0
      | cons c r => rfl
    have hne2 : ¬ s.toList = [] := by intro h; rw [h] at hne; cases hne
    go_enter Tryz.func115, Tryz.ntmps115
    go_wp2_with fail
    go_loop [0] (fun t => ∃ x : ByteArray, t = .string x ∧ x.size ≤ s.size ∧ ((0 < x.size ∧ txtB s.data.toList = txtB x.data.toList) ∨ (x.size = 0 ∧ txtB s.data.toList = true))) (fun t => strLen t)
    case atStart => exact ⟨s, rfl, Nat.le_refl _, .inl ⟨by omega, rfl⟩⟩
    case round =>
      obtain ⟨x, rfl, hxs, hor⟩ := hrel
      clear hne hne2 h0
      rcases hor with ⟨hx0, hR⟩ | ⟨hx0, hR⟩
      · have hxne : x.toList.isEmpty = false := by rw [ByteArray.toList_eq]; cases h : x.data.toList with
          | nil => rw [← ba_len, h] at hx0; exact absurd hx0 (by simp)
          | cons c r => rfl
        have hxne2 : ¬ x.toList = [] := by intro h; rw [h] at hxne; cases hxne
        rw [txt_cons hx0] at hR
        have HR := Lib.hid hR
        clear hR
        obtain ⟨c, hc⟩ : ∃ c : Nat, x[0].toNat = c := ⟨_, rfl⟩
        have hc8 : c < 256 := by rw [← hc]; exact x[0].toNat_lt
        rw [hc] at HR
        by_cases h1 : 1 + c ≤ x.size
        · have hsl := sl_from x (1 + c) h1
          have d1 : decide (x.size < 1 + c) = false := by simp; omega
          have d2 : ¬ x.size < 1 + c := by omega
          go_wp2_with fail
          go_round
          case rel =>
            have hR := HR.out
            rw [if_pos h1] at hR
            have hz : (x.extract (1 + c) x.size).size = x.size - (1 + c) := by rw [ByteArray.size_extract]; omega
            refine ⟨_, rfl, by rw [hz]; omega, ?_⟩
            by_cases h2 : 1 + c = x.size
            · rw [if_pos h2] at hR
              exact .inr ⟨by rw [hz]; omega, hR⟩
            · rw [if_neg h2] at hR
              exact .inl ⟨by rw [hz]; omega, hR⟩
          case measure =>
            have hz : (x.extract (1 + c) x.size).size = x.size - (1 + c) := by rw [ByteArray.size_extract]; omega
            simp only [strLen, hz]
            omega
        · have d1 : decide (x.size < 1 + c) = true := by simp; omega
          have d2 : x.size < 1 + c := by omega
          have hR := HR.out
          rw [if_neg h1] at hR
          have HF := Lib.hid hR
          clear hR
          go_wp2_with fail
          go_ret
          exact ⟨by rw [HF.out]; rfl, Below.refl _ _⟩
      · have hl : x.data.toList = [] := List.eq_nil_of_length_eq_zero (by rw [ba_len]; exact hx0)
        have hst : x.toList = [] := by rw [ByteArray.toList_eq]; exact hl
        have HF := Lib.hid hR
        clear hR hl
        go_wp2_with fail
        go_ret
        exact ⟨by rw [HF.out]; rfl, Below.refl _ _⟩

set_option maxRecDepth 100000 in
set_option maxHeartbeats 4000000 in
theorem refmay_any (k : Nat) (d : ByteArray) (hd : d.size ≤ 4194304) (hk : k < 65536) (w : World) :
    Calls Tryz.prog 93 #[.int .u16 (k : Nat), .string d] w fun e w' => e = .returned (.bool (mayD k d)) ∧ Below w.heap.size w w' := by
  by_cases hbig : d.size ≤ 65535
  · have c1 : decide ((65535 : Int) < (d.size : Int)) = false := by simp; omega
    have c2 : ¬ 65535 < d.size := by omega
    have c3 : decide (d.size ≤ 65535) = true := by simpa using hbig
    rcases kinds k with hN | ⟨hN, h⟩
    · have HR := Lib.hid (show mayD k d = mayB d by
        have h1 : k ≠ 1 := by unfold isN at hN; simp at hN; omega
        have h28 : k ≠ 28 := by unfold isN at hN; simp at hN; omega
        unfold mayD
        rw [if_neg h1, if_neg h28, if_pos hN, c3]; rfl)
      have hk3 : k = 2 ∨ k = 5 ∨ k = 12 := by unfold isN at hN; simpa using hN
      clear hN
      rcases hk3 with rfl | rfl | rfl
      all_goals
        go_enter Tryz.func93, Tryz.ntmps93
        go_wp2_with fail
        refine (ref_may d hd _).mono ?_
        rintro e w1 ⟨rfl, hb1⟩
        generalize hB : mayB d = Bv at *
        go_wp2_with fail
        go_ret
        exact ⟨by rw [HR.out]; rfl, hb1⟩
    · rcases h with rfl | rfl | rfl | rfl | rfl | ⟨h15, h6, h16, h1, h28, hl⟩
      · have HR := Lib.hid (show mayD 15 d = (decide (2 < d.size) && mayB (d.extract 2 d.size)) by
          unfold mayD
          rw [if_neg (by decide), if_neg (by decide), if_neg (by decide), if_pos rfl, c3]; rfl)
        by_cases h2 : 2 < d.size
        · have hsl := sl_from d 2 (by omega)
          have hx : (d.extract 2 d.size).size ≤ 4194304 := by rw [ByteArray.size_extract]; omega
          have d1 : decide (2 < d.size) = true := by simpa using h2
          have HX := Lib.hid hx
          clear hx
          go_enter Tryz.func93, Tryz.ntmps93
          go_wp2_with fail
          refine (ref_may (d.extract 2 d.size) HX.out _).mono ?_
          rintro e w1 ⟨rfl, hb1⟩
          rw [d1] at HR
          generalize mayB (d.extract 2 d.size) = Bv at *
          go_wp2_with fail
          go_ret
          exact ⟨by rw [HR.out]; rfl, hb1⟩
        · have d1 : decide (2 < d.size) = false := by simpa using h2
          go_enter Tryz.func93, Tryz.ntmps93
          go_wp2_with fail
          go_ret
          exact ⟨by rw [HR.out, d1]; rfl, Below.refl _ _⟩
      · have HR := Lib.hid (show mayD 6 d = decide (0 < szN d ∧ 0 < szN (d.extract (szN d) d.size) ∧ d.size = szN d + szN (d.extract (szN d) d.size) + 20) by
          unfold mayD
          rw [if_neg (by decide), if_neg (by decide), if_neg (by decide), if_neg (by decide), if_pos rfl, c3]; rfl)
        have ha : szN d ≤ d.size := by
          rcases Nat.eq_zero_or_pos (szN d) with h0 | h0
          · omega
          · exact (szN_pos h0).1
        have hx : (d.extract (szN d) d.size).size = d.size - szN d := by rw [ByteArray.size_extract]; omega
        have hb : szN (d.extract (szN d) d.size) ≤ d.size := by
          rcases Nat.eq_zero_or_pos (szN (d.extract (szN d) d.size)) with h0 | h0
          · omega
          · have := (szN_pos h0).1; omega
        have h1 := fun w' => rsize_any d hd w'
        have h2 := fun w' => rsize_any (d.extract (szN d) d.size) (by omega) w'
        generalize szN (d.extract (szN d) d.size) = b at *
        generalize szN d = a at *
        have hsl := sl_from d a ha
        have H1 := Lib.hid h1
        have H2 := Lib.hid h2
        clear h1 h2
        by_cases p1 : 0 < a
        · by_cases p2 : 0 < b
          · by_cases p3 : d.size = a + b + 20
            · have HD := Lib.hid (show decide (0 < a ∧ 0 < b ∧ d.size = a + b + 20) = true by simp; omega)
              have e1 : decide (0 < a) = true := by simpa using p1
              have e2 : decide (0 < b) = true := by simpa using p2
              have e3 : ((d.size : Int) == (a : Int) + (b : Int) + 20) = true := by simp; omega
              clear p3
              go_enter Tryz.func93, Tryz.ntmps93
              go_wp2_with fail
              refine (H1.out _).mono ?_
              rintro e w1 ⟨rfl, hb1⟩
              go_wp2_with fail
              refine (H2.out _).mono ?_
              rintro e w2 ⟨rfl, hb2⟩
              go_wp2_with fail
              go_ret
              exact ⟨by rw [HR.out, HD.out]; rfl, bthen hb1 hb2⟩
            · have HD := Lib.hid (show decide (0 < a ∧ 0 < b ∧ d.size = a + b + 20) = false by simp; omega)
              have e1 : decide (0 < a) = true := by simpa using p1
              have e2 : decide (0 < b) = true := by simpa using p2
              have e3 : ((d.size : Int) == (a : Int) + (b : Int) + 20) = false := by simp; omega
              clear p3
              go_enter Tryz.func93, Tryz.ntmps93
              go_wp2_with fail
              refine (H1.out _).mono ?_
              rintro e w1 ⟨rfl, hb1⟩
              go_wp2_with fail
              refine (H2.out _).mono ?_
              rintro e w2 ⟨rfl, hb2⟩
              go_wp2_with fail
              go_ret
              exact ⟨by rw [HR.out, HD.out]; rfl, bthen hb1 hb2⟩
          · have HD := Lib.hid (show decide (0 < a ∧ 0 < b ∧ d.size = a + b + 20) = false by simp; omega)
            have e1 : decide (0 < a) = true := by simpa using p1
            have e2 : decide (0 < b) = false := by simpa using p2
            go_enter Tryz.func93, Tryz.ntmps93
            go_wp2_with fail
            refine (H1.out _).mono ?_
            rintro e w1 ⟨rfl, hb1⟩
            go_wp2_with fail
            refine (H2.out _).mono ?_
            rintro e w2 ⟨rfl, hb2⟩
            go_wp2_with fail
            go_ret
            exact ⟨by rw [HR.out, HD.out]; rfl, bthen hb1 hb2⟩
        · have HD := Lib.hid (show decide (0 < a ∧ 0 < b ∧ d.size = a + b + 20) = false by simp; omega)
          have e1 : decide (0 < a) = false := by simpa using p1
          go_enter Tryz.func93, Tryz.ntmps93
          go_wp2_with fail
          refine (H1.out _).mono ?_
          rintro e w1 ⟨rfl, hb1⟩
          go_wp2_with fail
          refine (H2.out _).mono ?_
          rintro e w2 ⟨rfl, hb2⟩
          go_wp2_with fail
          go_ret
          exact ⟨by rw [HR.out, HD.out]; rfl, bthen hb1 hb2⟩
      · have HR := Lib.hid (show mayD 16 d = txtB d.data.toList by rw [mayD_16, c3]; rfl)
        go_enter Tryz.func93, Tryz.ntmps93
        go_wp2_with fail
        refine (rtexts_any d hd _).mono ?_
        rintro e w1 ⟨rfl, hb1⟩
        generalize txtB d.data.toList = Bv at *
        go_wp2_with fail
        go_ret
        exact ⟨by rw [HR.out]; rfl, hb1⟩
      · have HR := Lib.hid (show mayD 1 d = decide (d.size = 4) by rw [mayD_1, c3]; rfl)
        by_cases hn : d.size = 4
        · have b1 : ((d.size : Int) == 4) = true := by simp; omega
          have HD := Lib.hid (show decide (d.size = 4) = true by simpa using hn)
          clear hn
          go_enter Tryz.func93, Tryz.ntmps93
          go_wp2_with fail
          go_ret
          exact ⟨by rw [HR.out, HD.out]; rfl, Below.refl _ _⟩
        · have b1 : ((d.size : Int) == 4) = false := by simp; omega
          have HD := Lib.hid (show decide (d.size = 4) = false by simpa using hn)
          clear hn
          go_enter Tryz.func93, Tryz.ntmps93
          go_wp2_with fail
          go_ret
          exact ⟨by rw [HR.out, HD.out]; rfl, Below.refl _ _⟩
      · have HR := Lib.hid (show mayD 28 d = decide (d.size = 16) by rw [mayD_28, c3]; rfl)
        by_cases hn : d.size = 16
        · have b1 : ((d.size : Int) == 16) = true := by simp; omega
          have HD := Lib.hid (show decide (d.size = 16) = true by simpa using hn)
          clear hn
          go_enter Tryz.func93, Tryz.ntmps93
          go_wp2_with fail
          go_ret
          exact ⟨by rw [HR.out, HD.out]; rfl, Below.refl _ _⟩
        · have b1 : ((d.size : Int) == 16) = false := by simp; omega
          have HD := Lib.hid (show decide (d.size = 16) = false by simpa using hn)
          clear hn
          go_enter Tryz.func93, Tryz.ntmps93
          go_wp2_with fail
          go_ret
          exact ⟨by rw [HR.out, HD.out]; rfl, Below.refl _ _⟩
      · have HR := Lib.hid (show mayD k d = true by
          unfold mayD
          rw [if_neg h1, if_neg h28, if_neg (by rw [hN]; decide), if_neg h15, if_neg h6, if_neg h16, c3]; rfl)
        have hN' : ¬ (k = 2 ∨ k = 5 ∨ k = 12) := by unfold isN at hN; simpa using hN
        have b1 : ((k : Int) == 1) = false := by simp; omega
        have b2 : ((k : Int) == 28) = false := by simp; omega
        have b3 : ((k : Int) == 2) = false := by simp; omega
        have b4 : ((k : Int) == 5) = false := by simp; omega
        have b5 : ((k : Int) == 12) = false := by simp; omega
        have b6 : ((k : Int) == 15) = false := by simp; omega
        have b7 : ((k : Int) == 6) = false := by simp; omega
        have b8 : ((k : Int) == 16) = false := by simp; omega
        clear h15 h6 h16 h1 h28 hl hN hN'
        go_enter Tryz.func93, Tryz.ntmps93
        go_wp2_with fail
        go_ret
        exact ⟨by rw [HR.out]; rfl, Below.refl _ _⟩
  · have c1 : decide ((65535 : Int) < (d.size : Int)) = true := by simp; omega
    have c2 : 65535 < d.size := by omega
    have HR := Lib.hid (show mayD k d = false by unfold mayD; rw [show decide (d.size ≤ 65535) = false by simpa using hbig]; rfl)
    go_enter Tryz.func93, Tryz.ntmps93
    go_wp2_with fail
    go_ret
    exact ⟨by rw [HR.out]; rfl, Below.refl _ _⟩
end Go.Proofs.YtnakljbginbenaaGreatDoor
