/- The contracts of the document's packs and of derrickref04.Put (texts of their own, joined). -/
import Derived.Test.YtlphbeaaeeohjaaDoorWrn
import Derived.Deep.OwnRows
import Derived.Deep.QuietTactic
import Derived.BigQuiet
import Derived.Test.YtlphbeaaeeohjaaDoorRmn

namespace Go.Proofs.YtlphbeaaeeohjaaDoor
open Go.RowKit
set_option linter.unusedVariables false

theorem Plc.mono {B B' : Nat} {v : Value} {L : Kn} {w : World} (h : Plc B v L w) (hB : B' ≤ B) : Plc B' v L w := by
  refine ⟨h.1, ?_⟩
  rcases h.2 with hn | ⟨g, cap, cur, rfl, hb, rest⟩
  · exact .inl hn
  · exact .inr ⟨g, cap, cur, rfl, Nat.le_trans hB hb, rest⟩
theorem rname_any (B : Nat) (x n : ByteArray) (v : Value) (L : Kn) (w : World) (hP : Plc B v L w) (hK : KnOk x.data.toList L) (hx : x.size ≤ 1000000) (hn : n.size ≤ 1048576) (hB : B ≤ w.heap.size) :
    Calls Tryd.prog 47 #[.agg #[.string x, v], .string n] w fun e w' => ∃ A' m' cap', e = .returned (.tuple #[.agg #[.string ⟨(stp x.data.toList L n).1.toArray⟩, .slice A' m' cap'], .int .i64 (stE n)]) ∧ Plc B (.slice A' m' cap') (stp x.data.toList L n).2 w' ∧ Below w.heap.size w w' := by
  cases hm : mayB n with
  | true =>
    have e1 : stE n = 0 := by simp [stE, hm]
    have e2 : stp x.data.toList L n = put x.data.toList L (labs n) := by simp [stp, hm]
    rw [e2, e1]
    refine (rname_yes B x n v L w hP hK hx hm).mono ?_
    rintro e w' ⟨v', rfl, h1, h2⟩
    obtain ⟨A', cap', rfl⟩ := h1.form
    exact ⟨A', _, cap', rfl, h1.mono hB, h2⟩
  | false =>
    have e1 : stE n = 1 := by simp [stE, hm]
    have e2 : stp x.data.toList L n = (x.data.toList, L) := by simp [stp, hm]
    rw [e2, e1]
    obtain ⟨A, cap, rfl⟩ := hP.form
    refine (rname_no x n _ A _ cap rfl w hn hm).mono ?_
    rintro e w' ⟨rfl, h1⟩
    exact ⟨A, _, cap, rfl, hP.below h1, h1⟩

/-- A pack and the document's, side by side. -/
structure Two (B b bx : Nat) (S : List UInt8) (L : Kn) (s : ByteArray) (v : Value) (w0 w : World) : Prop where
  st : St B b S L w
  box : w.heap[bx]? = some (.cells #[.string s, v] 49 (0, 0))
  plc : Plc B v L w
  bel : Below B w0 w
theorem Two.below {B b bx : Nat} {S : List UInt8} {L : Kn} {s : ByteArray} {v : Value} {w0 w w' : World} (h : Two B b bx S L s v w0 w) (hB : B ≤ w.heap.size) (hb : Below w.heap.size w w') : Two B b bx S L s v w0 w' :=
  ⟨h.st.below hb, (hb.block _ (heap_lt h.box)).trans h.box, h.plc.below hb, h.bel.trans (hb.mono hB)⟩
/-- 'x = ..': the document's pack is stored. -/
theorem Two.set {B b bx : Nat} {S : List UInt8} {L : Kn} {s y : ByteArray} {v u : Value} {w0 w : World} (hst : St B b S L w) (hbox : w.heap[bx]? = some (.cells #[.string s, v] 49 (0, 0))) (hplc : Plc B u L w) (hbel : Below B w0 w) (hB : B ≤ bx) :
    Two B b bx S L y u w0 ((w.setCell ⟨bx, 0, none⟩ (.string y)).setCell ⟨bx, 1, none⟩ u) := by
  have s1 := blk_set hbox 0 (.string y)
  have s2 := blk_set s1 1 u
  have g1 := grown_set w ⟨bx, 0, none⟩ (.string y)
  have g2 := grown_set (w.setCell ⟨bx, 0, none⟩ (.string y)) ⟨bx, 1, none⟩ u
  exact ⟨(hst.kept g1 (fun g e => by cases e; exact ⟨_, _, _, by decide, by decide, hbox⟩)).kept g2 (fun g e => by cases e; exact ⟨_, _, _, by decide, by decide, s1⟩), s2, (hplc.other hbox (by decide) g1).other s1 (by decide) g2, (hbel.setCell (p := ⟨bx, 0, none⟩) hB _).setCell (p := ⟨bx, 1, none⟩) hB _⟩
/-- The program's pack has turned. -/
theorem Two.turn {B b bx : Nat} {S S2 : List UInt8} {L L2 : Kn} {s : ByteArray} {v : Value} {w0 w w' : World} (h : Two B b bx S L s v w0 w) (hst : St B b S2 L2 w') (hb : Below B w w') (hk : Kp w w') :
    w'.heap[bx]? = some (.cells #[.string s, v] 49 (0, 0)) ∧ Plc B v L w' ∧ Below B w0 w' := ⟨hk _ _ _ _ (by decide) (by decide) h.box, h.plc.kp hk, h.bel.trans hb⟩

/-- What stands behind 'next, bad := derrickref03.Name(..)'. -/
def Nx (B b bx : Nat) (S2 : List UInt8) (L2 : Kn) (bx0 : Obj) (y2 : ByteArray) (w0 : World) (t : Value) (wx : World) : Prop :=
  ∃ (y : Nat) (A' : Option Addr) (m' c' : Nat), t = .pointer (some ⟨y, 0, none⟩) ∧ wx.heap[y]? = some (.cells #[.string y2, .slice A' m' c'] 49 (0, 0)) ∧ wx.heap[bx]? = some bx0 ∧ St B b S2 L2 wx ∧ Plc B (.slice A' m' c') L2 wx ∧ Below B w0 wx
theorem nxA {B b bx : Nat} {S2 : List UInt8} {L2 : Kn} {bx0 : Obj} {y2 : ByteArray} {w0 w6 w7 : World} {A' : Option Addr} {m' c' : Nat} (hst : St B b S2 L2 w6) (hbx : w6.heap[bx]? = some bx0) (hbel : Below B w0 w6) (hb : Below w6.heap.size w6 w7) (hP : Plc B (.slice A' m' c') L2 w7) (hB : B ≤ w6.heap.size) :
    Nx B b bx S2 L2 bx0 y2 w0 (.pointer (some ⟨w7.heap.size, 0, none⟩)) (w7.alloc (.cells #[.string y2, .slice A' m' c'] 49)) := by
  have ha : Below w7.heap.size w7 (w7.alloc (.cells #[.string y2, .slice A' m' c'] 49)) := (Below.refl _ w7).alloc (Nat.le_refl _) _
  have hba := bthen hb ha
  exact ⟨w7.heap.size, A', m', c', rfl, heap_alloc_new w7 _, (hba.block _ (heap_lt hbx)).trans hbx, hst.below hba, hP.below ha, hbel.trans (hba.mono hB)⟩
theorem nxB {B b bx : Nat} {S2 : List UInt8} {L2 : Kn} {bx0 : Obj} {y2 : ByteArray} {w0 w6 w7 : World} {A' : Option Addr} {m' c' : Nat} (hst : St B b S2 L2 w6) (hbx : w6.heap[bx]? = some bx0) (hbel : Below B w0 w6) (hb : Below w6.heap.size w6 w7) (hP : Plc B (.slice A' m' c') L2 w7) (hB : B ≤ w6.heap.size)
    (hz : w7.heap[w6.heap.size]? = some (.cells #[.string ⟨#[]⟩, .slice none 0 0] 49 (0, 0))) :
    Nx B b bx S2 L2 bx0 y2 w0 (.pointer (some ⟨w6.heap.size, 0, none⟩)) ((w7.setCell ⟨w6.heap.size, 0, none⟩ (.string y2)).setCell ⟨w6.heap.size, 1, none⟩ (.slice A' m' c')) := by
  have s1 := blk_set hz 0 (.string y2)
  have s2 := blk_set s1 1 (.slice A' m' c')
  have g1 := grown_set w7 ⟨w6.heap.size, 0, none⟩ (.string y2)
  have g2 := grown_set (w7.setCell ⟨w6.heap.size, 0, none⟩ (.string y2)) ⟨w6.heap.size, 1, none⟩ (.slice A' m' c')
  have hba : Below w6.heap.size w6 ((w7.setCell ⟨w6.heap.size, 0, none⟩ (.string y2)).setCell ⟨w6.heap.size, 1, none⟩ (.slice A' m' c')) := (hb.setCell (p := ⟨w6.heap.size, 0, none⟩) (Nat.le_refl _) _).setCell (p := ⟨w6.heap.size, 1, none⟩) (Nat.le_refl _) _
  exact ⟨w6.heap.size, A', m', c', rfl, s2, (hba.block _ (heap_lt hbx)).trans hbx, hst.below hba, (hP.other hz (by decide) g1).other s1 (by decide) g2, hbel.trans (hba.mono hB)⟩
theorem len_q2 (B b : Nat) (S : List UInt8) (L : Kn) (w : World) (m : Nat) (h : IsP B b S L w) :
    Calls Tryd.prog 27 #[.pointer (some ⟨b, 0, none⟩)] (w.drewN m) fun e w' => e = .returned (.int .i64 (S.length : Nat)) ∧ ∃ m', w' = w.drewN m' :=
  (len_any B b S L (w.drewN m) h).mono fun _ _ ⟨he, hw⟩ => ⟨he, m, hw.symm⟩
theorem out_q2 (B b : Nat) (S : List UInt8) (L : Kn) (w : World) (m : Nat) (h : IsP B b S L w) :
    Calls Tryd.prog 26 #[.pointer (some ⟨b, 0, none⟩)] (w.drewN m) fun e w' => e = .returned (.string ⟨S.toArray⟩) ∧ ∃ m', w' = w.drewN m' :=
  (out_any B b S L (w.drewN m) h).mono fun _ _ ⟨he, hw⟩ => ⟨he, m, hw.symm⟩
end Go.Proofs.YtlphbeaaeeohjaaDoor

namespace Go.Proofs.YtlphbeaaeeohjaaDoor
open Go.RowKit
set_option linter.unusedVariables false

theorem szN_zero {s : ByteArray} (h : ∀ j, 1 ≤ j → j ≤ 255 → j ≤ s.size → mayB (s.extract 0 j) = false) : szN s = 0 := by
  rcases Nat.eq_zero_or_pos (szN s) with h0 | h0
  · exact h0
  · obtain ⟨a, b, c⟩ := szN_pos h0
    rw [h _ h0 b a] at c
    cases c
theorem sl_to (s : ByteArray) (n : Nat) (h : n ≤ s.size) (w : World) : (Instr.slice 9 (.string s) none (some (.int .i64 (n : Int))) none).run Tryd.prog w = .ok (.string (s.extract 0 n)) w := by
  have := run_slice_string_to_if (P := Tryd.prog) (w := w) 9 s .i64 (n : Int) Tryd.underlying9
  simpa [h] using this
theorem sl_from (s : ByteArray) (n : Nat) (h : n ≤ s.size) (w : World) : (Instr.slice 9 (.string s) (some (.int .i64 (n : Int))) none none).run Tryd.prog w = .ok (.string (s.extract n s.size)) w := by
  have := run_slice_string_from_if (P := Tryd.prog) (w := w) 9 s .i64 (n : Int) Tryd.underlying9
  simpa [h] using this

set_option maxRecDepth 100000 in
set_option maxHeartbeats 1000000 in
theorem rsize_any (s : ByteArray) (hs : s.size ≤ 1048576) (w : World) :
    Calls Tryd.prog 70 #[.string s] w fun e w' => e = .returned (.int .i64 (szN s : Nat)) ∧ Below w.heap.size w w' := by
  go_enter Tryd.func70, Tryd.ntmps70
  go_wp2_with fail
  go_loopw [3] (fun i wr => ∃ k : Nat, 1 ≤ k ∧ k ≤ 256 ∧ i = .int .i64 k ∧ (∀ j, 1 ≤ j → j < k → j ≤ s.size → mayB (s.extract 0 j) = false) ∧ Below w.heap.size w wr) (fun i _ => 256 - (intOf i).toNat)
  case atStart => exact ⟨1, Nat.le_refl _, by decide, rfl, (fun j h1 h2 => by omega), Below.refl _ _⟩
  case round =>
    obtain ⟨k, hk1, hk, rfl, hno, hbel⟩ := hrel
    have HN := Lib.hid hno
    clear hno
    by_cases hle : k ≤ s.size
    · by_cases h255 : k ≤ 255
      · have hsl := sl_to s k hle
        have hx : (s.extract 0 k).size ≤ 1048576 := by rw [ByteArray.size_extract]; omega
        have HX := Lib.hid hx
        have d1 : decide (k ≤ s.size) = true := by simpa using hle
        have d2 : decide (k ≤ 255) = true := by simpa using h255
        clear hx
        go_wp2_with fail
        refine (ref_may (s.extract 0 k) HX.out _).mono ?_
        rintro e w1 ⟨rfl, hb1⟩
        have HB := Lib.hid (bthen hbel hb1)
        clear hb1 hbel hsl
        cases hm : mayB (s.extract 0 k) with
        | true =>
          have HR := Lib.hid (szN_yes hle hm)
          clear hm
          go_wp2_with fail
          go_ret
          exact ⟨by rw [HR.out]; rfl, HB.out⟩
        | false =>
          have HM := Lib.hid hm
          clear hm
          go_wp2_with fail
          go_roundw
          case rel => exact ⟨k + 1, by omega, by omega, by go_num, (fun j h1 h2 h3 => by
            by_cases hjk : j < k
            · exact HN.out j h1 hjk h3
            · have : j = k := by omega
              rw [this]; exact HM.out), HB.out⟩
          case measure => simp [intOf]; omega
      · have HR := Lib.hid (szN_zero (s := s) (fun j h1 h2 h3 => HN.out j h1 (by omega) h3))
        have d1 : decide (k ≤ s.size) = true := by simpa using hle
        have d2 : decide (k ≤ 255) = false := by simpa using h255
        go_wp2_with fail
        go_ret
        exact ⟨by rw [HR.out]; rfl, hbel⟩
    · have HR := Lib.hid (szN_zero (s := s) (fun j h1 h2 h3 => HN.out j h1 (by omega) h3))
      have d1 : decide (k ≤ s.size) = false := by simpa using hle
      go_wp2_with fail
      go_ret
      exact ⟨by rw [HR.out]; rfl, hbel⟩

theorem txt_cons {x : ByteArray} (hne : 0 < x.size) : txtB x.data.toList = if 1 + x[0].toNat ≤ x.size then (if 1 + x[0].toNat = x.size then true else txtB (x.extract (1 + x[0].toNat) x.size).data.toList) else false := by
  have hl : x.data.toList = x[0] :: x.data.toList.tail := by
    cases h : x.data.toList with
    | nil => rw [← ba_len, h] at hne; simp at hne
    | cons c r =>
      have : x[0] = c := by
        have h1 : x[0] = x.data.toList[0]'(by rw [ba_len]; exact hne) := by rfl
        rw [h1]
        simp [h]
      rw [this]; rfl
  have hlen : x.data.toList.tail.length = x.size - 1 := by rw [List.length_tail, ba_len]
  have hd : (x.extract (1 + x[0].toNat) x.size).data.toList = x.data.toList.tail.drop x[0].toNat := by
    rw [extract_list, ← ba_len, List.take_length, ← List.drop_one, List.drop_drop]
  rw [hd, hl, txtB, List.tail_cons]
  generalize x.data.toList.tail = r at *
  by_cases h1 : 1 + x[0].toNat ≤ x.size
  · rw [if_pos (by omega), if_pos h1]
    by_cases h2 : 1 + x[0].toNat = x.size
    · rw [if_pos (by omega), if_pos h2]
    · rw [if_neg (by omega), if_neg h2]
  · rw [if_neg (by omega), if_neg h1]

set_option maxRecDepth 100000 in
set_option maxHeartbeats 1000000 in
theorem rtexts_any (s : ByteArray) (hs : s.size ≤ 1048576) (w : World) :
    Calls Tryd.prog 71 #[.string s] w fun e w' => e = .returned (.bool (txtB s.data.toList)) ∧ Below w.heap.size w w' := by
  by_cases h0 : s.size = 0
  · have hl : s.data.toList = [] := List.eq_nil_of_length_eq_zero (by rw [ba_len]; exact h0)
    have hst : s.toList = [] := by rw [ByteArray.toList_eq]; exact hl
    have HR := Lib.hid (show txtB s.data.toList = false by rw [hl, txtB])
    go_enter Tryd.func71, Tryd.ntmps71
    go_wp2_with fail
    go_ret
    exact ⟨by rw [HR.out]; rfl, Below.refl _ _⟩
  · have hne : s.toList.isEmpty = false := by rw [ByteArray.toList_eq]; cases h : s.data.toList with
      | nil => rw [← ba_len, h] at h0; exact absurd rfl h0
      | cons c r => rfl
    have hne2 : ¬ s.toList = [] := by intro h; rw [h] at hne; cases hne
    go_enter Tryd.func71, Tryd.ntmps71
    go_wp2_with fail
    go_loop [0] (fun t => ∃ x : ByteArray, t = .string x ∧ x.size ≤ s.size ∧ ((0 < x.size ∧ txtB s.data.toList = txtB x.data.toList) ∨ (x.size = 0 ∧ txtB s.data.toList = true))) (fun t => strLen t)
    case atStart => exact ⟨s, rfl, Nat.le_refl _, .inl ⟨by omega, rfl⟩⟩
    case round =>
      obtain ⟨x, rfl, hxs, hor⟩ := hrel
      clear hne hne2 h0
      rcases hor with ⟨hx0, hR⟩ | ⟨hx0, hR⟩
      · have hxne : x.toList.isEmpty = false := by rw [ByteArray.toList_eq]; cases h : x.data.toList with
          | nil => rw [← ba_len, h] at hx0; exact absurd hx0 (by simp)
          | cons c r => rfl
        have hxne2 : ¬ x.toList = [] := by intro h; rw [h] at hxne; cases hxne
        rw [txt_cons hx0] at hR
        have HR := Lib.hid hR
        clear hR
        obtain ⟨c, hc⟩ : ∃ c : Nat, x[0].toNat = c := ⟨_, rfl⟩
        have hc8 : c < 256 := by rw [← hc]; exact x[0].toNat_lt
        rw [hc] at HR
        by_cases h1 : 1 + c ≤ x.size
        · have hsl := sl_from x (1 + c) h1
          have d1 : decide (x.size < 1 + c) = false := by simp; omega
          have d2 : ¬ x.size < 1 + c := by omega
          go_wp2_with fail
          go_round
          case rel =>
            have hR := HR.out
            rw [if_pos h1] at hR
            have hz : (x.extract (1 + c) x.size).size = x.size - (1 + c) := by rw [ByteArray.size_extract]; omega
            refine ⟨_, rfl, by rw [hz]; omega, ?_⟩
            by_cases h2 : 1 + c = x.size
            · rw [if_pos h2] at hR
              exact .inr ⟨by rw [hz]; omega, hR⟩
            · rw [if_neg h2] at hR
              exact .inl ⟨by rw [hz]; omega, hR⟩
          case measure =>
            have hz : (x.extract (1 + c) x.size).size = x.size - (1 + c) := by rw [ByteArray.size_extract]; omega
            simp only [strLen, hz]
            omega
        · have d1 : decide (x.size < 1 + c) = true := by simp; omega
          have d2 : x.size < 1 + c := by omega
          have hR := HR.out
          rw [if_neg h1] at hR
          have HF := Lib.hid hR
          clear hR
          go_wp2_with fail
          go_ret
          exact ⟨by rw [HF.out]; rfl, Below.refl _ _⟩
      · have hl : x.data.toList = [] := List.eq_nil_of_length_eq_zero (by rw [ba_len]; exact hx0)
        have hst : x.toList = [] := by rw [ByteArray.toList_eq]; exact hl
        have HF := Lib.hid hR
        clear hR hl
        go_wp2_with fail
        go_ret
        exact ⟨by rw [HF.out]; rfl, Below.refl _ _⟩

set_option maxRecDepth 100000 in
set_option maxHeartbeats 4000000 in
theorem refmay_any (k : Nat) (d : ByteArray) (hd : d.size ≤ 1048576) (hk : k < 65536) (w : World) :
    Calls Tryd.prog 43 #[.int .u16 (k : Nat), .string d] w fun e w' => e = .returned (.bool (mayD k d)) ∧ Below w.heap.size w w' := by
  by_cases hbig : d.size ≤ 65535
  · have c1 : decide ((65535 : Int) < (d.size : Int)) = false := by simp; omega
    have c2 : ¬ 65535 < d.size := by omega
    have c3 : decide (d.size ≤ 65535) = true := by simpa using hbig
    rcases kinds k with hN | ⟨hN, h⟩
    · have HR := Lib.hid (show mayD k d = mayB d by
        have h1 : k ≠ 1 := by unfold isN at hN; simp at hN; omega
        have h28 : k ≠ 28 := by unfold isN at hN; simp at hN; omega
        unfold mayD
        rw [if_neg h1, if_neg h28, if_pos hN, c3]; rfl)
      have hk3 : k = 2 ∨ k = 5 ∨ k = 12 := by unfold isN at hN; simpa using hN
      clear hN
      rcases hk3 with rfl | rfl | rfl
      all_goals
        go_enter Tryd.func43, Tryd.ntmps43
        go_wp2_with fail
        refine (ref_may d hd _).mono ?_
        rintro e w1 ⟨rfl, hb1⟩
        generalize hB : mayB d = Bv at *
        go_wp2_with fail
        go_ret
        exact ⟨by rw [HR.out]; rfl, hb1⟩
    · rcases h with rfl | rfl | rfl | rfl | rfl | ⟨h15, h6, h16, h1, h28, hl⟩
      · have HR := Lib.hid (show mayD 15 d = (decide (2 < d.size) && mayB (d.extract 2 d.size)) by
          unfold mayD
          rw [if_neg (by decide), if_neg (by decide), if_neg (by decide), if_pos rfl, c3]; rfl)
        by_cases h2 : 2 < d.size
        · have hsl := sl_from d 2 (by omega)
          have hx : (d.extract 2 d.size).size ≤ 1048576 := by rw [ByteArray.size_extract]; omega
          have d1 : decide (2 < d.size) = true := by simpa using h2
          have HX := Lib.hid hx
          clear hx
          go_enter Tryd.func43, Tryd.ntmps43
          go_wp2_with fail
          refine (ref_may (d.extract 2 d.size) HX.out _).mono ?_
          rintro e w1 ⟨rfl, hb1⟩
          rw [d1] at HR
          generalize mayB (d.extract 2 d.size) = Bv at *
          go_wp2_with fail
          go_ret
          exact ⟨by rw [HR.out]; rfl, hb1⟩
        · have d1 : decide (2 < d.size) = false := by simpa using h2
          go_enter Tryd.func43, Tryd.ntmps43
          go_wp2_with fail
          go_ret
          exact ⟨by rw [HR.out, d1]; rfl, Below.refl _ _⟩
      · have HR := Lib.hid (show mayD 6 d = decide (0 < szN d ∧ 0 < szN (d.extract (szN d) d.size) ∧ d.size = szN d + szN (d.extract (szN d) d.size) + 20) by
          unfold mayD
          rw [if_neg (by decide), if_neg (by decide), if_neg (by decide), if_neg (by decide), if_pos rfl, c3]; rfl)
        have ha : szN d ≤ d.size := by
          rcases Nat.eq_zero_or_pos (szN d) with h0 | h0
          · omega
          · exact (szN_pos h0).1
        have hx : (d.extract (szN d) d.size).size = d.size - szN d := by rw [ByteArray.size_extract]; omega
        have hb : szN (d.extract (szN d) d.size) ≤ d.size := by
          rcases Nat.eq_zero_or_pos (szN (d.extract (szN d) d.size)) with h0 | h0
          · omega
          · have := (szN_pos h0).1; omega
        have h1 := fun w' => rsize_any d hd w'
        have h2 := fun w' => rsize_any (d.extract (szN d) d.size) (by omega) w'
        generalize szN (d.extract (szN d) d.size) = b at *
        generalize szN d = a at *
        have hsl := sl_from d a ha
        have H1 := Lib.hid h1
        have H2 := Lib.hid h2
        clear h1 h2
        by_cases p1 : 0 < a
        · by_cases p2 : 0 < b
          · by_cases p3 : d.size = a + b + 20
            · have HD := Lib.hid (show decide (0 < a ∧ 0 < b ∧ d.size = a + b + 20) = true by simp; omega)
              have e1 : decide (0 < a) = true := by simpa using p1
              have e2 : decide (0 < b) = true := by simpa using p2
              have e3 : ((d.size : Int) == (a : Int) + (b : Int) + 20) = true := by simp; omega
              clear p3
              go_enter Tryd.func43, Tryd.ntmps43
              go_wp2_with fail
              refine (H1.out _).mono ?_
              rintro e w1 ⟨rfl, hb1⟩
              go_wp2_with fail
              refine (H2.out _).mono ?_
              rintro e w2 ⟨rfl, hb2⟩
              go_wp2_with fail
              go_ret
              exact ⟨by rw [HR.out, HD.out]; rfl, bthen hb1 hb2⟩
            · have HD := Lib.hid (show decide (0 < a ∧ 0 < b ∧ d.size = a + b + 20) = false by simp; omega)
              have e1 : decide (0 < a) = true := by simpa using p1
              have e2 : decide (0 < b) = true := by simpa using p2
              have e3 : ((d.size : Int) == (a : Int) + (b : Int) + 20) = false := by simp; omega
              clear p3
              go_enter Tryd.func43, Tryd.ntmps43
              go_wp2_with fail
              refine (H1.out _).mono ?_
              rintro e w1 ⟨rfl, hb1⟩
              go_wp2_with fail
              refine (H2.out _).mono ?_
              rintro e w2 ⟨rfl, hb2⟩
              go_wp2_with fail
              go_ret
              exact ⟨by rw [HR.out, HD.out]; rfl, bthen hb1 hb2⟩
          · have HD := Lib.hid (show decide (0 < a ∧ 0 < b ∧ d.size = a + b + 20) = false by simp; omega)
            have e1 : decide (0 < a) = true := by simpa using p1
            have e2 : decide (0 < b) = false := by simpa using p2
            go_enter Tryd.func43, Tryd.ntmps43
            go_wp2_with fail
            refine (H1.out _).mono ?_
            rintro e w1 ⟨rfl, hb1⟩
            go_wp2_with fail
            refine (H2.out _).mono ?_
            rintro e w2 ⟨rfl, hb2⟩
            go_wp2_with fail
            go_ret
            exact ⟨by rw [HR.out, HD.out]; rfl, bthen hb1 hb2⟩
        · have HD := Lib.hid (show decide (0 < a ∧ 0 < b ∧ d.size = a + b + 20) = false by simp; omega)
          have e1 : decide (0 < a) = false := by simpa using p1
          go_enter Tryd.func43, Tryd.ntmps43
          go_wp2_with fail
          refine (H1.out _).mono ?_
          rintro e w1 ⟨rfl, hb1⟩
          go_wp2_with fail
          refine (H2.out _).mono ?_
          rintro e w2 ⟨rfl, hb2⟩
          go_wp2_with fail
          go_ret
          exact ⟨by rw [HR.out, HD.out]; rfl, bthen hb1 hb2⟩
      · have HR := Lib.hid (show mayD 16 d = txtB d.data.toList by rw [mayD_16, c3]; rfl)
        go_enter Tryd.func43, Tryd.ntmps43
        go_wp2_with fail
        refine (rtexts_any d hd _).mono ?_
        rintro e w1 ⟨rfl, hb1⟩
        generalize txtB d.data.toList = Bv at *
        go_wp2_with fail
        go_ret
        exact ⟨by rw [HR.out]; rfl, hb1⟩
      · have HR := Lib.hid (show mayD 1 d = decide (d.size = 4) by rw [mayD_1, c3]; rfl)
        by_cases hn : d.size = 4
        · have b1 : ((d.size : Int) == 4) = true := by simp; omega
          have HD := Lib.hid (show decide (d.size = 4) = true by simpa using hn)
          clear hn
          go_enter Tryd.func43, Tryd.ntmps43
          go_wp2_with fail
          go_ret
          exact ⟨by rw [HR.out, HD.out]; rfl, Below.refl _ _⟩
        · have b1 : ((d.size : Int) == 4) = false := by simp; omega
          have HD := Lib.hid (show decide (d.size = 4) = false by simpa using hn)
          clear hn
          go_enter Tryd.func43, Tryd.ntmps43
          go_wp2_with fail
          go_ret
          exact ⟨by rw [HR.out, HD.out]; rfl, Below.refl _ _⟩
      · have HR := Lib.hid (show mayD 28 d = decide (d.size = 16) by rw [mayD_28, c3]; rfl)
        by_cases hn : d.size = 16
        · have b1 : ((d.size : Int) == 16) = true := by simp; omega
          have HD := Lib.hid (show decide (d.size = 16) = true by simpa using hn)
          clear hn
          go_enter Tryd.func43, Tryd.ntmps43
          go_wp2_with fail
          go_ret
          exact ⟨by rw [HR.out, HD.out]; rfl, Below.refl _ _⟩
        · have b1 : ((d.size : Int) == 16) = false := by simp; omega
          have HD := Lib.hid (show decide (d.size = 16) = false by simpa using hn)
          clear hn
          go_enter Tryd.func43, Tryd.ntmps43
          go_wp2_with fail
          go_ret
          exact ⟨by rw [HR.out, HD.out]; rfl, Below.refl _ _⟩
      · have HR := Lib.hid (show mayD k d = true by
          unfold mayD
          rw [if_neg h1, if_neg h28, if_neg (by rw [hN]; decide), if_neg h15, if_neg h6, if_neg h16, c3]; rfl)
        have hN' : ¬ (k = 2 ∨ k = 5 ∨ k = 12) := by unfold isN at hN; simpa using hN
        have b1 : ((k : Int) == 1) = false := by simp; omega
        have b2 : ((k : Int) == 28) = false := by simp; omega
        have b3 : ((k : Int) == 2) = false := by simp; omega
        have b4 : ((k : Int) == 5) = false := by simp; omega
        have b5 : ((k : Int) == 12) = false := by simp; omega
        have b6 : ((k : Int) == 15) = false := by simp; omega
        have b7 : ((k : Int) == 6) = false := by simp; omega
        have b8 : ((k : Int) == 16) = false := by simp; omega
        clear h15 h6 h16 h1 h28 hl hN hN'
        go_enter Tryd.func43, Tryd.ntmps43
        go_wp2_with fail
        go_ret
        exact ⟨by rw [HR.out]; rfl, Below.refl _ _⟩
  · have c1 : decide ((65535 : Int) < (d.size : Int)) = true := by simp; omega
    have c2 : 65535 < d.size := by omega
    have HR := Lib.hid (show mayD k d = false by unfold mayD; rw [show decide (d.size ≤ 65535) = false by simpa using hbig]; rfl)
    go_enter Tryd.func43, Tryd.ntmps43
    go_wp2_with fail
    go_ret
    exact ⟨by rw [HR.out]; rfl, Below.refl _ _⟩
end Go.Proofs.YtlphbeaaeeohjaaDoor

namespace Go.Proofs.YtlphbeaaeeohjaaDoor
open Go.RowKit
set_option linter.unusedVariables false

/-- The argument's box, and the result's. -/
structure Bx (w : World) (x : ByteArray) (v : Value) (wx : World) : Prop where
  box : wx.heap[w.heap.size]? = some (.cells #[.string x, v] 49 (0, 0))
  res : wx.heap[w.heap.size + 1]? = some (.cells #[.string ⟨#[]⟩, .slice none 0 0] 49 (0, 0))
  bel : Below w.heap.size w wx
theorem Bx.below {w wx wy : World} {x : ByteArray} {v : Value} (h : Bx w x v wx) (hb : Below wx.heap.size wx wy) : Bx w x v wy :=
  ⟨(hb.block _ (heap_lt h.box)).trans h.box, (hb.block _ (heap_lt h.res)).trans h.res, h.bel.trans (hb.mono h.bel.size)⟩
theorem Bx.new (w : World) (x : ByteArray) (v : Value) : Bx w x v ((w.alloc (.cells #[.string x, v] 49)).alloc (.cells #[.string ⟨#[]⟩, .slice none 0 0] 49)) := by
  have h1 : (w.alloc (.cells #[.string x, v] 49)).heap[w.heap.size]? = some (.cells #[.string x, v] 49 (0, 0)) := heap_alloc_new w _
  have hb1 : Below w.heap.size w (w.alloc (.cells #[.string x, v] 49)) := (Below.refl _ w).alloc (Nat.le_refl _) _
  have hb2 : Below (w.alloc (.cells #[.string x, v] 49)).heap.size (w.alloc (.cells #[.string x, v] 49)) ((w.alloc (.cells #[.string x, v] 49)).alloc (.cells #[.string ⟨#[]⟩, .slice none 0 0] 49)) := (Below.refl _ _).alloc (Nat.le_refl _) _
  refine ⟨(hb2.block _ (heap_lt h1)).trans h1, ?_, hb1.trans (hb2.mono hb1.size)⟩
  exact heap_alloc2_new w _ _
theorem Bx.big {w wx : World} {x : ByteArray} {v : Value} (h : Bx w x v wx) : w.heap.size + 2 ≤ wx.heap.size := by have := heap_lt h.res; omega
/-- What is returned. -/
theorem Bx.done {B : Nat} {w w3 : World} {x y : ByteArray} {v0 v : Value} {L : Kn} (h : Bx w x v0 w3) (hP : Plc B v L w3) :
    ((w3.setCell ⟨w.heap.size + 1, 0, none⟩ (.string y)).setCell ⟨w.heap.size + 1, 1, none⟩ v).heap[w.heap.size + 1]? = some (.cells #[.string y, v] 49 (0, 0)) ∧
      Plc B v L ((w3.setCell ⟨w.heap.size + 1, 0, none⟩ (.string y)).setCell ⟨w.heap.size + 1, 1, none⟩ v) ∧ Below w.heap.size w ((w3.setCell ⟨w.heap.size + 1, 0, none⟩ (.string y)).setCell ⟨w.heap.size + 1, 1, none⟩ v) := by
  have s1 := blk_set h.res 0 (.string y)
  have s2 := blk_set s1 1 v
  have g1 := grown_set w3 ⟨w.heap.size + 1, 0, none⟩ (.string y)
  have g2 := grown_set (w3.setCell ⟨w.heap.size + 1, 0, none⟩ (.string y)) ⟨w.heap.size + 1, 1, none⟩ v
  exact ⟨s2, (hP.other h.res (by decide) g1).other s1 (by decide) g2, (h.bel.setCell (p := ⟨w.heap.size + 1, 0, none⟩) (show w.heap.size ≤ w.heap.size + 1 by omega) _).setCell (p := ⟨w.heap.size + 1, 1, none⟩) (show w.heap.size ≤ w.heap.size + 1 by omega) _⟩
/-- A pack that a call handed back, in a box of its own. -/
def Ny (B : Nat) (w : World) (x : ByteArray) (v : Value) (y2 : ByteArray) (L2 : Kn) (t : Value) (wx : World) : Prop :=
  ∃ (y : Nat) (A' : Option Addr) (m' c' : Nat), t = .pointer (some ⟨y, 0, none⟩) ∧ wx.heap[y]? = some (.cells #[.string y2, .slice A' m' c'] 49 (0, 0)) ∧ Bx w x v wx ∧ Plc B (.slice A' m' c') L2 wx
theorem nyA {B : Nat} {w w7 : World} {x y2 : ByteArray} {v : Value} {L2 : Kn} {A' : Option Addr} {m' c' : Nat} (hx : Bx w x v w7) (hP : Plc B (.slice A' m' c') L2 w7) :
    Ny B w x v y2 L2 (.pointer (some ⟨w7.heap.size, 0, none⟩)) (w7.alloc (.cells #[.string y2, .slice A' m' c'] 49)) := by
  have ha : Below w7.heap.size w7 (w7.alloc (.cells #[.string y2, .slice A' m' c'] 49)) := (Below.refl _ w7).alloc (Nat.le_refl _) _
  exact ⟨w7.heap.size, A', m', c', rfl, heap_alloc_new w7 _, hx.below ha, hP.below ha⟩
theorem nyB {B : Nat} {w w7 : World} {x y2 : ByteArray} {v : Value} {L2 : Kn} {A' : Option Addr} {m' c' y : Nat} (hx : Bx w x v w7) (hP : Plc B (.slice A' m' c') L2 w7) (hy : w.heap.size + 2 ≤ y)
    (hz : w7.heap[y]? = some (.cells #[.string ⟨#[]⟩, .slice none 0 0] 49 (0, 0))) :
    Ny B w x v y2 L2 (.pointer (some ⟨y, 0, none⟩)) ((w7.setCell ⟨y, 0, none⟩ (.string y2)).setCell ⟨y, 1, none⟩ (.slice A' m' c')) := by
  have s1 := blk_set hz 0 (.string y2)
  have s2 := blk_set s1 1 (.slice A' m' c')
  have g1 := grown_set w7 ⟨y, 0, none⟩ (.string y2)
  have g2 := grown_set (w7.setCell ⟨y, 0, none⟩ (.string y2)) ⟨y, 1, none⟩ (.slice A' m' c')
  have hkeep : ∀ k, k < w.heap.size + 2 → ((w7.setCell ⟨y, 0, none⟩ (.string y2)).setCell ⟨y, 1, none⟩ (.slice A' m' c')).heap[k]? = w7.heap[k]? := fun k hk => by
    have hl := hx.big
    rw [g2.block k (by rw [World.size_setCell]; omega) (fun e => by have := Option.some.inj e; simp only at this; omega), g1.block k (by omega) (fun e => by have := Option.some.inj e; simp only at this; omega)]
  refine ⟨y, A', m', c', rfl, s2, ⟨(hkeep _ (by omega)).trans hx.box, (hkeep _ (by omega)).trans hx.res, ?_⟩, (hP.other hz (by decide) g1).other s1 (by decide) g2⟩
  exact (hx.bel.setCell (p := ⟨y, 0, none⟩) (show w.heap.size ≤ y by omega) _).setCell (p := ⟨y, 1, none⟩) (show w.heap.size ≤ y by omega) _
/-- What Put of the document makes of a pack. -/
def rp (S : List UInt8) (L : Kn) (k : Nat) (d : ByteArray) : List UInt8 × Kn := if mayD k d = true then putD S L k d else (S, L)
def rpE (k : Nat) (d : ByteArray) : Int := if mayD k d = true then 0 else 1
def RpPost (B : Nat) (x : ByteArray) (L : Kn) (k : Nat) (d : ByteArray) (w : World) (e : Ending) (w' : World) : Prop :=
  ∃ A' m' cap', e = .returned (.tuple #[.agg #[.string ⟨(rp x.data.toList L k d).1.toArray⟩, .slice A' m' cap'], .int .i64 (rpE k d)]) ∧ Plc B (.slice A' m' cap') (rp x.data.toList L k d).2 w' ∧ Below w.heap.size w w'

set_option maxRecDepth 100000 in
set_option maxHeartbeats 1000000 in
theorem refput_no (B : Nat) (x d : ByteArray) (v : Value) (L : Kn) (k : Nat) (w : World) (hP : Plc B v L w) (hd : d.size ≤ 1048576) (hk : k < 65536) (hm : mayD k d = false) :
    Calls Tryd.prog 55 #[.agg #[.string x, v], .int .u16 (k : Nat), .string d] w fun e w' => RpPost B x L k d w e w' := by
  obtain ⟨A, cap, rfl⟩ := hP.form
  have HR := Lib.hid (show rp x.data.toList L k d = (x.data.toList, L) ∧ rpE k d = 1 by unfold rp rpE; rw [hm]; exact ⟨rfl, rfl⟩)
  have HM := Lib.hid hm
  have HP := Lib.hid hP
  have HB := Lib.hid (Bx.new w x (.slice A L.length cap))
  clear hP hm
  go_enter Tryd.func55, Tryd.ntmps55
  go_wp2_with fail
  refine (refmay_any k d hd hk _).mono ?_
  rintro e w1 ⟨rfl, hb1⟩
  rw [HM.out]
  have hB1 := HB.out.below hb1
  have c0 := blk_cell hB1.box 0
  have c1 := blk_cell hB1.box 1
  have z0 := blk_cell hB1.res 0
  have z1 := blk_cell hB1.res 1
  have f0 := blk_frozen hB1.res 0
  have f1 := blk_frozen hB1.res 1
  have HP1 := Lib.hid ((HP.out.below (HB.out.bel)).below hb1)
  have HB1 := Lib.hid hB1
  clear hB1 hb1
  go_wp2_with fail
  obtain ⟨t1, t2, t3⟩ := Bx.done (y := x) HB1.out HP1.out
  refine ret_pack2 rfl rfl rfl rfl t1 ⟨A, L.length, cap, ?_, ?_, t3⟩
  · rw [HR.out.1, HR.out.2, ba_mk]; rfl
  · rw [HR.out.1]; exact t2
end Go.Proofs.YtlphbeaaeeohjaaDoor

namespace Go.Proofs.YtlphbeaaeeohjaaDoor
open Go.RowKit
set_option linter.unusedVariables false

theorem Bx.al {w wx : World} {x : ByteArray} {v : Value} (h : Bx w x v wx) (o : Obj) : Bx w x v (wx.alloc o) := h.below ((Below.refl _ wx).alloc (Nat.le_refl _) o)
theorem Plc.al {B : Nat} {v : Value} {L : Kn} {w : World} (h : Plc B v L w) (o : Obj) : Plc B v L (w.alloc o) := h.below ((Below.refl _ w).alloc (Nat.le_refl _) o)

set_option maxRecDepth 100000 in
set_option maxHeartbeats 1000000 in
theorem refput_N (B : Nat) (x d : ByteArray) (v : Value) (L : Kn) (k : Nat) (w : World) (hP : Plc B v L w) (hK : KnOk x.data.toList L) (hx : x.size ≤ 1000000) (hB : B ≤ w.heap.size) (hd : d.size ≤ 1048576) (hN : k = 2 ∨ k = 5 ∨ k = 12) (hm : mayD k d = true) :
    Calls Tryd.prog 55 #[.agg #[.string x, v], .int .u16 (k : Nat), .string d] w fun e w' => RpPost B x L k d w e w' := by
  obtain ⟨A, cap, rfl⟩ := hP.form
  have hNk : isN k = true := by unfold isN; simpa using hN
  have hmb : mayB d = true := by
    have h := hm
    unfold mayD at h
    rw [Bool.and_eq_true, if_neg (by omega), if_neg (by omega), if_pos hNk] at h
    exact h.2
  have hrp : rp x.data.toList L k d = stp x.data.toList L d := by unfold rp putD stp; rw [if_pos hm, if_pos hNk, if_pos hmb]
  have HR := Lib.hid (And.intro hrp (show rpE k d = 0 by unfold rpE; rw [if_pos hm]))
  have HM := Lib.hid (And.intro hm (show k < 65536 by omega))
  have HP := Lib.hid hP
  have HBx := Lib.hid (Bx.new w x (.slice A L.length cap))
  have HK := Lib.hid hK
  clear hP hm hmb hrp hNk hK
  rcases hN with hk | hk | hk
  all_goals
    subst hk
    go_enter Tryd.func55, Tryd.ntmps55
    go_wp2_with fail
    refine (refmay_any _ d hd HM.out.2 _).mono ?_
    rintro e w1 ⟨rfl, hb1⟩
    rw [HM.out.1]
    have hB1 := HBx.out.below hb1
    have c0 := blk_cell hB1.box 0
    have c1 := blk_cell hB1.box 1
    have HP1 := Lib.hid ((HP.out.below (HBx.out.bel)).below hb1)
    have HB1 := Lib.hid hB1
    have HS1 := Lib.hid (show B ≤ w1.heap.size by have := hB1.bel.size; omega)
    clear hB1 hb1
    go_wp2_with fail
    refine (rname_any B x d _ L _ HP1.out HK.out hx hd HS1.out).mono ?_
    rintro e w2 ⟨A', m', cap', rfl, hP2, hb2⟩
    have hB2 := HB1.out.below hb2
    have z0 := fun o => blk_cell (hB2.al o).res 0
    have z1 := fun o => blk_cell (hB2.al o).res 1
    have f0 := fun o => blk_frozen (hB2.al o).res 0
    have f1 := fun o => blk_frozen (hB2.al o).res 1
    have HB2 := Lib.hid hB2
    have HP2 := Lib.hid hP2
    clear hB2 hP2 hb2 c0 c1
    obtain ⟨Y, hY⟩ : ∃ Y : ByteArray, (⟨(stp x.data.toList L d).1.toArray⟩ : ByteArray) = Y := ⟨_, rfl⟩
    rw [hY]
    have HY := Lib.hid hY
    clear hY
    generalize stE d = E0
    go_wp2_with fail
    obtain ⟨t1, t2, t3⟩ := Bx.done (y := Y) (HB2.out.al (.cells #[.string Y, .slice A' m' cap'] 49)) (HP2.out.al _)
    refine ret_pack2 rfl rfl rfl rfl t1 ⟨A', m', cap', ?_, ?_, t3⟩
    · rw [HR.out.1, HY.out, HR.out.2]; rfl
    · rw [HR.out.1]; exact t2

set_option maxRecDepth 100000 in
set_option maxHeartbeats 1000000 in
theorem refput_O (B : Nat) (x d : ByteArray) (v : Value) (L : Kn) (k : Nat) (w : World) (hP : Plc B v L w) (hx : x.size ≤ 1000000) (hd : d.size ≤ 1048576) (hk : k < 65536) (hN : ¬ (k = 2 ∨ k = 5 ∨ k = 12)) (h15 : k ≠ 15) (h6 : k ≠ 6) (hm : mayD k d = true) :
    Calls Tryd.prog 55 #[.agg #[.string x, v], .int .u16 (k : Nat), .string d] w fun e w' => RpPost B x L k d w e w' := by
  obtain ⟨A, cap, rfl⟩ := hP.form
  have hNk : ¬ isN k = true := by unfold isN; simpa using hN
  have hrp : rp x.data.toList L k d = (x.data.toList ++ d.data.toList, L) := by unfold rp putD; rw [if_pos hm, if_neg hNk, if_neg h15, if_neg h6]
  have HR := Lib.hid (And.intro hrp (show rpE k d = 0 by unfold rpE; rw [if_pos hm]))
  have HM := Lib.hid hm
  have HP := Lib.hid hP
  have HBx := Lib.hid (Bx.new w x (.slice A L.length cap))
  have b3 : ((k : Int) == 2) = false := by simp; omega
  have b4 : ((k : Int) == 5) = false := by simp; omega
  have b5 : ((k : Int) == 12) = false := by simp; omega
  have b6 : ((k : Int) == 15) = false := by simp; omega
  have b7 : ((k : Int) == 6) = false := by simp; omega
  clear hP hm hrp hNk hN h15 h6
  go_enter Tryd.func55, Tryd.ntmps55
  go_wp2_with fail
  refine (refmay_any _ d hd hk _).mono ?_
  rintro e w1 ⟨rfl, hb1⟩
  rw [HM.out]
  have hB1 := HBx.out.below hb1
  have c0 := blk_cell hB1.box 0
  have c1 := blk_cell hB1.box 1
  have HP1 := Lib.hid ((HP.out.below (HBx.out.bel)).below hb1)
  have HB1 := Lib.hid hB1
  clear hB1 hb1
  go_wp2_with fail
  refine (radd_any x d _ A L.length cap rfl (by omega) _).mono ?_
  rintro e w2 ⟨rfl, hb2⟩
  have hB2 := HB1.out.below hb2
  have z0 := blk_cell hB2.res 0
  have z1 := blk_cell hB2.res 1
  have f0 := blk_frozen hB2.res 0
  have f1 := blk_frozen hB2.res 1
  have HB2 := Lib.hid hB2
  have HP2 := Lib.hid (HP1.out.below hb2)
  clear hB2 hb2 c0 c1
  go_wp2_with fail
  obtain ⟨t1, t2, t3⟩ := Bx.done (y := x ++ d) HB2.out HP2.out
  refine ret_pack2 rfl rfl rfl rfl t1 ⟨A, L.length, cap, ?_, ?_, t3⟩
  · rw [HR.out.1, HR.out.2]
    have : (⟨(x.data.toList ++ d.data.toList).toArray⟩ : ByteArray) = x ++ d := by apply ba_ext; simp
    rw [this]; rfl
  · rw [HR.out.1]; exact t2
end Go.Proofs.YtlphbeaaeeohjaaDoor

namespace Go.Proofs.YtlphbeaaeeohjaaDoor
open Go.RowKit
set_option linter.unusedVariables false

theorem KnOk.more {S : List UInt8} {L : Kn} (h : KnOk S L) (X : List UInt8) : KnOk (S ++ X) L := ⟨h.1, by have := h.2; rw [List.length_append]; omega⟩

set_option maxRecDepth 100000 in
set_option maxHeartbeats 8000000 in
theorem refput_M (B : Nat) (x d : ByteArray) (v : Value) (L : Kn) (w : World) (hP : Plc B v L w) (hK : KnOk x.data.toList L) (hx : x.size ≤ 900000) (hB : B ≤ w.heap.size) (hd : d.size ≤ 1000) (hm : mayD 15 d = true) :
    Calls Tryd.prog 55 #[.agg #[.string x, v], .int .u16 15, .string d] w fun e w' => RpPost B x L 15 d w e w' := by
  obtain ⟨A, cap, rfl⟩ := hP.form
  have h15 : 2 < d.size ∧ mayB (d.extract 2 d.size) = true := by
    have h := hm
    unfold mayD at h
    rw [Bool.and_eq_true, if_neg (by decide), if_neg (by decide), if_neg (by decide), if_pos rfl, Bool.and_eq_true, decide_eq_true_iff, decide_eq_true_iff] at h
    exact h.2
  have hrp : rp x.data.toList L 15 d = stp (x ++ d.extract 0 2).data.toList L (d.extract 2 d.size) := by
    unfold rp putD stp
    rw [if_pos hm, if_neg (by decide), if_pos rfl, if_pos h15.2]
    rw [← ext_list]
    simp
  have HR := Lib.hid (And.intro hrp (show rpE 15 d = 0 by unfold rpE; rw [if_pos hm]))
  have HM := Lib.hid hm
  have HP := Lib.hid hP
  have HBx := Lib.hid (Bx.new w x (.slice A L.length cap))
  have hk2 : KnOk (x ++ d.extract 0 2).data.toList L := by
    have := hK.more (d.extract 0 2).data.toList
    simpa using this
  have hz2 : (d.extract 0 2).size = 2 := by rw [ByteArray.size_extract]; omega
  have hzn : (d.extract 2 d.size).size ≤ 1000 := by rw [ByteArray.size_extract]; omega
  have HK := Lib.hid (And.intro hk2 (And.intro hz2 hzn))
  have q1 : (2 : Int) ≤ (d.size : Int) := by omega
  have q2 : 2 ≤ d.size := by omega
  clear hP hm hrp hK hk2 hz2 hzn h15
  go_enter Tryd.func55, Tryd.ntmps55
  go_wp2_with fail
  refine (refmay_any 15 d (by omega) (by decide) _).mono ?_
  rintro e w1 ⟨rfl, hb1⟩
  rw [HM.out]
  have hB1 := HBx.out.below hb1
  have hP1 := (HP.out.below (HBx.out.bel)).below hb1
  have hs1 : B ≤ w1.heap.size := by have := hB1.bel.size; omega
  have c0 := blk_cell hB1.box 0
  have c1 := blk_cell hB1.box 1
  have d0 := fun o => blk_cell (hB1.al o).box 0
  have d1 := fun o => blk_cell (hB1.al o).box 1
  have hadd : ∀ W, Below w1.heap.size w1 W → Calls Tryd.prog 48 #[.agg #[.string x, .slice A L.length cap], .string (d.extract 0 2)] W fun e w' => e = .returned (.agg #[.string (x ++ d.extract 0 2), .slice A L.length cap]) ∧ Below W.heap.size W w' ∧ Below w1.heap.size w1 w' := fun W hW =>
    (radd_any x (d.extract 0 2) _ A L.length cap rfl (by have := HK.out.2.1; omega) W).mono fun e w' h => ⟨h.1, h.2, hW.trans (h.2.mono hW.size)⟩
  have hname : ∀ W, Below w1.heap.size w1 W → Calls Tryd.prog 47 #[.agg #[.string (x ++ d.extract 0 2), .slice A L.length cap], .string (d.extract 2 d.size)] W fun e w' => ∃ A' m' c', e = .returned (.tuple #[.agg #[.string ⟨(rp x.data.toList L 15 d).1.toArray⟩, .slice A' m' c'], .int .i64 (stE (d.extract 2 d.size))]) ∧ Plc B (.slice A' m' c') (rp x.data.toList L 15 d).2 w' ∧ Below W.heap.size W w' ∧ Below w1.heap.size w1 w' := fun W hW => by
    have h := rname_any B (x ++ d.extract 0 2) (d.extract 2 d.size) _ L W (hP1.below hW) HK.out.1 (by rw [ByteArray.size_append]; have := HK.out.2.1; omega) (by have := HK.out.2.2; omega) (by have := hW.size; omega)
    rw [← HR.out.1] at h
    exact h.mono fun e w' ⟨A', m', c', h1, h2, h3⟩ => ⟨A', m', c', h1, h2, h3, hW.trans (h3.mono hW.size)⟩
  have hal : ∀ o, Below w1.heap.size w1 (w1.alloc o) := fun o => (Below.refl _ w1).alloc (Nat.le_refl _) o
  have HBd := Lib.hid (And.intro (show Below w1.heap.size w1 w1.drew from (Below.refl _ w1).drew) (show ∀ o, Below w1.heap.size w1 (w1.alloc o).drew from fun o => (hal o).drew))
  obtain ⟨RP, hRP⟩ : ∃ RP, rp x.data.toList L 15 d = RP := ⟨_, rfl⟩
  rw [hRP] at hname
  have HRP := Lib.hid hRP
  clear hRP
  generalize stE (d.extract 2 d.size) = E0 at *
  have HAdd := Lib.hid hadd
  have HName := Lib.hid hname
  have HB1 := Lib.hid hB1
  clear hadd hname hB1 hP1 hb1 hal
  go_upto_region 10 with (fail)
  go_cut [10, 11] (fun t q wx => q = .int .i64 E0 ∧ Ny B w x (.slice A L.length cap) ⟨RP.1.toArray⟩ RP.2 t wx)
  case first =>
    generalize (⟨RP.1.toArray⟩ : ByteArray) = Y at *
    generalize RP.2 = L2 at *
    go_region_with (first
      | (go_at_call 48; refine (HAdd.out _ HBd.out.1).mono ?_; rintro e w7 ⟨rfl, hb7, hb7'⟩; have HB7 := Lib.hid hb7'; clear hb7 hb7')
      | (go_at_call 48; refine (HAdd.out _ (HBd.out.2 _)).mono ?_; rintro e w7 ⟨rfl, hb7, hb7'⟩; have HZ7 := Lib.hid ((hb7.block w1.heap.size (by simp)).trans (heap_alloc_new w1 _)); have HB7 := Lib.hid hb7'; clear hb7 hb7')
      | (go_at_call 47; refine (HName.out _ HB7.out).mono ?_; rintro e w8 ⟨A', m', c', rfl, hP8, hb8, hb8'⟩; have HZ8 := Lib.hid ((hb8.block w1.heap.size (heap_lt HZ7.out)).trans HZ7.out); have z0 := blk_cell HZ8.out 0; have z1 := blk_cell HZ8.out 1; have f0 := blk_frozen HZ8.out 0; have f1 := blk_frozen HZ8.out 1; have HB8 := Lib.hid hb8'; have HP8 := Lib.hid hP8; clear hP8 hb8 hb8')
      | (go_at_call 47; refine (HName.out _ HB7.out).mono ?_; rintro e w8 ⟨A', m', c', rfl, hP8, hb8, hb8'⟩; have HB8 := Lib.hid hb8'; have HP8 := Lib.hid hP8; clear hP8 hb8 hb8')
      | (go_at_call 47; refine (HName.out _ (HB7.out.alloc HB7.out.size _)).mono ?_; rintro e w8 ⟨A', m', c', rfl, hP8, hb8, hb8'⟩; have HY8 := Lib.hid ((hb8.block w7.heap.size (by simp)).trans (heap_alloc_new w7 _)); have z0 := blk_cell HY8.out 0; have z1 := blk_cell HY8.out 1; have f0 := blk_frozen HY8.out 0; have f1 := blk_frozen HY8.out 1; have HB8 := Lib.hid hb8'; have HP8 := Lib.hid hP8; clear hP8 hb8 hb8'))
    all_goals
      go_wp2_with fail
      go_meet
      case rel =>
        first
        | exact ⟨rfl, nyA (HB1.out.below HB8.out) HP8.out⟩
        | exact ⟨rfl, nyB (HB1.out.below HB8.out) HP8.out HB1.out.big HZ8.out⟩
        | exact ⟨rfl, nyB (HB1.out.below HB8.out) HP8.out (Nat.le_trans HB1.out.big HB7.out.size) HY8.out⟩
  case rest =>
    obtain ⟨rfl, y, A', m', c', rfl, hy, hBx, hpl⟩ := hcut
    have e0 := blk_cell hy 0
    have e1 := blk_cell hy 1
    have z0 := blk_cell hBx.res 0
    have z1 := blk_cell hBx.res 1
    have f0 := blk_frozen hBx.res 0
    have f1 := blk_frozen hBx.res 1
    have HB9 := Lib.hid hBx
    have HP9 := Lib.hid hpl
    clear hBx hpl hy c0 c1 d0 d1 HAdd HName HBd HB1
    obtain ⟨Y, hY⟩ : ∃ Y : ByteArray, (⟨RP.1.toArray⟩ : ByteArray) = Y := ⟨_, rfl⟩
    rw [hY] at e0
    have HY := Lib.hid hY
    clear hY
    go_wp2_with fail
    obtain ⟨t1, t2, t3⟩ := Bx.done (y := Y) HB9.out HP9.out
    refine ret_pack2 rfl rfl rfl rfl t1 ⟨A', m', c', ?_, ?_, t3⟩
    · rw [HRP.out, HY.out, HR.out.2]; rfl
    · rw [HRP.out]; exact t2
end Go.Proofs.YtlphbeaaeeohjaaDoor

namespace Go.Proofs.YtlphbeaaeeohjaaDoor
open Go.RowKit
set_option linter.unusedVariables false

theorem mk_list (l : List UInt8) : (⟨l.toArray⟩ : ByteArray).data.toList = l := rfl
/-- What Put of SOA data does, step by step. -/
structure Soa (x d : ByteArray) (L : Kn) (a b : Nat) (S1 S2 : List UInt8 × Kn) : Prop where
  sa : szN d = a
  sb : szN (d.extract a d.size) = b
  le : a ≤ d.size ∧ a + b ≤ d.size ∧ d.size ≤ a + b + 20
  n1 : (d.extract 0 a).size ≤ 255
  n2 : (d.extract a (a + b)).size ≤ 255
  s1 : stp x.data.toList L (d.extract 0 a) = S1
  s2 : stp S1.1 S1.2 (d.extract a (a + b)) = S2
  k1 : KnOk S1.1 S1.2
  l1 : S1.1.length ≤ x.size + 255
  l2 : S2.1.length ≤ x.size + 510
  eq : rp x.data.toList L 6 d = (S2.1 ++ (d.extract (a + b) d.size).data.toList, S2.2)
theorem soa_parts {x d : ByteArray} {L : Kn} (hK : KnOk x.data.toList L) (hG : Good x.data.toList L) (hm : mayD 6 d = true) : ∃ a b S1 S2, Soa x d L a b S1 S2 := by
  have h6 : 0 < szN d ∧ 0 < szN (d.extract (szN d) d.size) ∧ d.size = szN d + szN (d.extract (szN d) d.size) + 20 := by
    have h := hm
    unfold mayD at h
    rw [Bool.and_eq_true, if_neg (by decide), if_neg (by decide), if_neg (by decide), if_neg (by decide), if_pos rfl] at h
    have h := h.2
    unfold soaB at h
    rw [decide_eq_true_iff] at h
    exact h
  obtain ⟨ha, hb, hsum⟩ := h6
  obtain ⟨a1, a2, a3⟩ := szN_pos ha
  obtain ⟨b1, b2, b3⟩ := szN_pos hb
  have hN2 : d.extract (szN d) (szN d + szN (d.extract (szN d) d.size)) = (d.extract (szN d) d.size).extract 0 (szN (d.extract (szN d) d.size)) := by
    apply ba_ext
    rw [ext_list, extract_list, extract_list, ← ba_len d, List.take_length, List.drop_take]
    congr 1
    rw [ba_len]
    omega
  obtain ⟨g1, hG1⟩ := stepped hG (d.extract 0 (szN d))
  have hK1 := knOk_stp hK (d.extract 0 (szN d))
  obtain ⟨X1, p1, p2, _, p5⟩ := g1.app
  obtain ⟨g2, hG2⟩ := stepped hG1 (d.extract (szN d) (szN d + szN (d.extract (szN d) d.size)))
  obtain ⟨X2, p3, p4, _, p6⟩ := g2.app
  have l1 : (stp x.data.toList L (d.extract 0 (szN d))).1.length ≤ x.size + 255 := by rw [p1, List.length_append, ba_len]; omega
  refine ⟨szN d, szN (d.extract (szN d) d.size), _, _, rfl, rfl, ⟨a1, by omega, by omega⟩, ?_, ?_, rfl, rfl, hK1, l1, ?_, ?_⟩
  · rw [ByteArray.size_extract]; omega
  · rw [ByteArray.size_extract]; omega
  · rw [p3, List.length_append]; omega
  · unfold rp
    rw [if_pos hm]
    unfold putD
    rw [if_neg (by decide), if_neg (by decide), if_pos rfl]
    simp only
    rw [← hN2]
    rw [← hN2] at b3
    have hs1 : put x.data.toList L (labs (d.extract 0 (szN d))) = stp x.data.toList L (d.extract 0 (szN d)) := by unfold stp; rw [if_pos a3]
    rw [hs1]
    have hs2 : ∀ S K, put S K (labs (d.extract (szN d) (szN d + szN (d.extract (szN d) d.size)))) = stp S K (d.extract (szN d) (szN d + szN (d.extract (szN d) d.size))) := fun S K => by unfold stp; rw [if_pos b3]
    rw [hs2, extract_list d (szN d + szN (d.extract (szN d) d.size)) d.size, ← ba_len d, List.take_length]
end Go.Proofs.YtlphbeaaeeohjaaDoor

namespace Go.Proofs.YtlphbeaaeeohjaaDoor
open Go.RowKit
set_option linter.unusedVariables false

set_option maxRecDepth 100000 in
set_option maxHeartbeats 1000000 in
theorem refput_S (B : Nat) (x d : ByteArray) (v : Value) (L : Kn) (w : World) (hP : Plc B v L w) (hK : KnOk x.data.toList L) (hx : x.size ≤ 900000) (hB : B ≤ w.heap.size) (hd : d.size ≤ 1000) (hm : mayD 6 d = true) (a b : Nat) (S1 S2 : List UInt8 × Kn) (hS : Soa x d L a b S1 S2) :
    Calls Tryd.prog 55 #[.agg #[.string x, v], .int .u16 6, .string d] w fun e w' => RpPost B x L 6 d w e w' := by
  obtain ⟨A, cap, rfl⟩ := hP.form
  have HE := Lib.hid (show rpE 6 d = 0 by unfold rpE; rw [if_pos hm])
  have HM := Lib.hid hm
  have HP := Lib.hid hP
  have HK := Lib.hid hK
  have HS := Lib.hid hS
  have HBx := Lib.hid (Bx.new w x (.slice A L.length cap))
  have hz1 := fun w' => rsize_any d (by omega) w'
  have hz2 := fun w' => rsize_any (d.extract (szN d) d.size) (by rw [ByteArray.size_extract]; omega) w'
  rw [hS.sa] at hz2
  rw [hS.sb] at hz2
  rw [hS.sa] at hz1
  have HZ1 := Lib.hid hz1
  have HZ2 := Lib.hid hz2
  obtain ⟨q1, q2, q3⟩ := hS.le
  have sl1 := sl_from d a q1
  clear hz1 hz2 hm hP hS hK
  go_enter Tryd.func55, Tryd.ntmps55
  go_wp2_with fail
  refine (refmay_any 6 d (by omega) (by decide) _).mono ?_
  rintro e w1 ⟨rfl, hb1⟩
  rw [HM.out]
  have HB1 := Lib.hid (HBx.out.below hb1)
  have HP1 := Lib.hid ((HP.out.below (HBx.out.bel)).below hb1)
  clear hb1
  go_wp2_with fail
  refine (HZ1.out _).mono ?_
  rintro e w2 ⟨rfl, hb2⟩
  have HB2 := Lib.hid (HB1.out.below hb2)
  have HP2 := Lib.hid (HP1.out.below hb2)
  clear hb2
  go_wp2_with fail
  refine (HZ2.out _).mono ?_
  rintro e w3 ⟨rfl, hb3⟩
  have HB3 := Lib.hid (HB2.out.below hb3)
  have HP3 := Lib.hid (HP2.out.below hb3)
  clear hb3 sl1 HB1 HP1 HB2 HP2 HZ1 HZ2 HM HP HBx
  have hn2 := HS.out.n2
  have hs2 := HS.out.s2
  have hq := HS.out.eq
  obtain ⟨c, hc⟩ : ∃ c, a + b = c := ⟨_, rfl⟩
  rw [hc] at hn2 hs2 hq q2 q3
  have hac : a ≤ c := by omega
  have H2 := Lib.hid (And.intro hn2 (And.intro hs2 hq))
  clear hn2 hs2 hq
  go_upto_region 15 with (fail)
  rw [show (a : Int) + (b : Int) = ((c : Nat) : Int) by omega]
  clear hc
  have hB3 := HB3.out
  have hP3 := HP3.out
  have hsB : B ≤ w3.heap.size := by have := hB3.bel.size; omega
  have c0 := blk_cell hB3.box 0
  have c1 := blk_cell hB3.box 1
  have d0 := fun o => blk_cell (hB3.al o).box 0
  have d1 := fun o => blk_cell (hB3.al o).box 1
  have hname : ∀ W, Below w3.heap.size w3 W → Calls Tryd.prog 47 #[.agg #[.string x, .slice A L.length cap], .string (d.extract 0 a)] W fun e w' => ∃ A' m' c', e = .returned (.tuple #[.agg #[.string ⟨S1.1.toArray⟩, .slice A' m' c'], .int .i64 (stE (d.extract 0 a))]) ∧ Plc B (.slice A' m' c') S1.2 w' ∧ Below W.heap.size W w' ∧ Below w3.heap.size w3 w' := fun W hW => by
    have h := rname_any B x (d.extract 0 a) _ L W (hP3.below hW) HK.out (by omega) (by have := HS.out.n1; omega) (by have := hW.size; omega)
    rw [HS.out.s1] at h
    exact h.mono fun e w' ⟨A', m', c', h1, h2, h3⟩ => ⟨A', m', c', h1, h2, h3, hW.trans (h3.mono hW.size)⟩
  have hal : ∀ o, Below w3.heap.size w3 (w3.alloc o) := fun o => (Below.refl _ w3).alloc (Nat.le_refl _) o
  have HBd := Lib.hid (And.intro (show Below w3.heap.size w3 w3.drew from (Below.refl _ w3).drew) (show ∀ o, Below w3.heap.size w3 (w3.alloc o).drew from fun o => (hal o).drew))
  generalize stE (d.extract 0 a) = E1 at *
  have HName := Lib.hid hname
  clear hname hB3 hP3 hal
  go_cut [14, 15] (fun t q wx => q = .int .i64 E1 ∧ Ny B w x (.slice A L.length cap) ⟨S1.1.toArray⟩ S1.2 t wx)
  case first =>
    clear H2 HS HE HK
    go_region_with (first
      | (go_at_call 47; refine (HName.out _ HBd.out.1).mono ?_; rintro e w8 ⟨A', m', c', rfl, hP8, hb8, hb8'⟩; have HB8 := Lib.hid hb8'; have HP8 := Lib.hid hP8; clear hP8 hb8 hb8')
      | (go_at_call 47; refine (HName.out _ (HBd.out.2 _)).mono ?_; rintro e w8 ⟨A', m', c', rfl, hP8, hb8, hb8'⟩; have HY8 := Lib.hid ((hb8.block w3.heap.size (by simp)).trans (heap_alloc_new w3 _)); have z0 := blk_cell HY8.out 0; have z1 := blk_cell HY8.out 1; have f0 := blk_frozen HY8.out 0; have f1 := blk_frozen HY8.out 1; have HB8 := Lib.hid hb8'; have HP8 := Lib.hid hP8; clear hP8 hb8 hb8'))
    all_goals
      go_wp2_with fail
      go_meet
      case rel =>
        first
        | exact ⟨rfl, nyA (HB3.out.below HB8.out) HP8.out⟩
        | exact ⟨rfl, nyB (HB3.out.below HB8.out) HP8.out HB3.out.big HY8.out⟩
  case rest =>
    obtain ⟨rfl, y, A1, m1, p1, rfl, hy, hBx, hpl⟩ := hcut
    have hs4 : B ≤ wc.heap.size := by have := hBx.bel.size; omega
    have e0 := blk_cell hy 0
    have e1 := blk_cell hy 1
    have hya : ∀ o, (wc.alloc o).heap[y]? = some (.cells #[.string ⟨S1.1.toArray⟩, .slice A1 m1 p1] 49 (0, 0)) := fun o => (((Below.refl _ wc).alloc (Nat.le_refl _) o).block y (heap_lt hy)).trans hy
    have k0 := fun o => blk_cell (hya o) 0
    have k1 := fun o => blk_cell (hya o) 1
    have hz1 : (⟨S1.1.toArray⟩ : ByteArray).size ≤ 900255 := by rw [mk_size]; have := HS.out.l1; omega
    have hname : ∀ W, Below wc.heap.size wc W → Calls Tryd.prog 47 #[.agg #[.string ⟨S1.1.toArray⟩, .slice A1 m1 p1], .string (d.extract a c)] W fun e w' => ∃ A' m' c', e = .returned (.tuple #[.agg #[.string ⟨S2.1.toArray⟩, .slice A' m' c'], .int .i64 (stE (d.extract a c))]) ∧ Plc B (.slice A' m' c') S2.2 w' ∧ Below W.heap.size W w' ∧ Below wc.heap.size wc w' := fun W hW => by
      have h := rname_any B ⟨S1.1.toArray⟩ (d.extract a c) _ S1.2 W (hpl.below hW) HS.out.k1 (by omega) (by have := H2.out.1; omega) (by have := hW.size; omega)
      rw [mk_list, H2.out.2.1] at h
      exact h.mono fun e w' ⟨A', m', c', h1, h2, h3⟩ => ⟨A', m', c', h1, h2, h3, hW.trans (h3.mono hW.size)⟩
    have hal : ∀ o, Below wc.heap.size wc (wc.alloc o) := fun o => (Below.refl _ wc).alloc (Nat.le_refl _) o
    have HBd2 := Lib.hid (And.intro (show Below wc.heap.size wc wc.drew from (Below.refl _ wc).drew) (show ∀ o, Below wc.heap.size wc (wc.alloc o).drew from fun o => (hal o).drew))
    have HName2 := Lib.hid hname
    have HBc := Lib.hid hBx
    clear hname hBx hpl hy hya hal c0 c1 d0 d1 HName HBd HB3 HP3 HK
    have HSl2 := Lib.hid (HS.out.l2)
    clear HS hz1
    generalize (⟨S1.1.toArray⟩ : ByteArray) = Y1 at *
    generalize stE (d.extract a c) = E2 at *
    obtain ⟨w5, hw5⟩ : ∃ w5, wc = w5 := ⟨_, rfl⟩
    subst hw5
    go_upto_region 16 with (fail)
    go_cut [16, 17] (fun t q wx => q = .int .i64 E2 ∧ Ny B w x (.slice A L.length cap) ⟨S2.1.toArray⟩ S2.2 t wx)
    case first =>
      clear H2 HE HSl2
      go_region_with (first
        | (go_at_call 47; refine (HName2.out _ HBd2.out.1).mono ?_; rintro e w8 ⟨A', m', c', rfl, hP8, hb8, hb8'⟩; have HB8 := Lib.hid hb8'; have HP8 := Lib.hid hP8; clear hP8 hb8 hb8')
        | (go_at_call 47; refine (HName2.out _ (HBd2.out.2 _)).mono ?_; rintro e w8 ⟨A', m', c', rfl, hP8, hb8, hb8'⟩; have HY8 := Lib.hid ((hb8.block wc.heap.size (by simp)).trans (heap_alloc_new wc _)); have z0 := blk_cell HY8.out 0; have z1 := blk_cell HY8.out 1; have f0 := blk_frozen HY8.out 0; have f1 := blk_frozen HY8.out 1; have HB8 := Lib.hid hb8'; have HP8 := Lib.hid hP8; clear hP8 hb8 hb8'))
      all_goals
        go_wp2_with fail
        go_meet
        case rel =>
          first
          | exact ⟨rfl, nyA (HBc.out.below HB8.out) HP8.out⟩
          | exact ⟨rfl, nyB (HBc.out.below HB8.out) HP8.out HBc.out.big HY8.out⟩
    case rest =>
      obtain ⟨rfl, y2, A2, m2, p2, rfl, hy2, hBx2, hpl2⟩ := hcut
      clear e0 e1 k0 k1 HName2 HBd2 HBc
      have e0 := blk_cell hy2 0
      have e1 := blk_cell hy2 1
      have hz2 : (⟨S2.1.toArray⟩ : ByteArray).size ≤ 900510 := by rw [mk_size]; have := HSl2.out; omega
      have hzT : (d.extract c d.size).size ≤ 1000 := by rw [ByteArray.size_extract]; omega
      have hrY : (⟨S2.1.toArray⟩ : ByteArray) ++ d.extract c d.size = ⟨(rp x.data.toList L 6 d).1.toArray⟩ := by rw [H2.out.2.2]; apply ba_ext; simp
      have hrL : S2.2 = (rp x.data.toList L 6 d).2 := by rw [H2.out.2.2]
      have HRY := Lib.hid (And.intro hrY hrL)
      have HBc2 := Lib.hid hBx2
      have HPc2 := Lib.hid hpl2
      have q4 : (c : Int) ≤ (d.size : Int) := by omega
      clear hrY hrL hy2 hBx2 hpl2 H2 HSl2
      generalize (⟨S2.1.toArray⟩ : ByteArray) = Y2 at *
      go_wp2_with fail
      go_region_with (go_at_call 48; refine (radd_any Y2 (d.extract c d.size) _ A2 m2 p2 rfl (by omega) _).mono ?_; rintro e w9 ⟨rfl, hb9⟩; have HBe9 := Lib.hid (show Below wc.heap.size wc w9 from ⟨hb9.os, hb9.tape, hb9.output, hb9.size, hb9.block⟩); have HB9 := Lib.hid (HBc2.out.below HBe9.out); have z0 := blk_cell HB9.out.res 0; have z1 := blk_cell HB9.out.res 1; have f0 := blk_frozen HB9.out.res 0; have f1 := blk_frozen HB9.out.res 1; clear hb9)
      all_goals
        go_wp2_with fail
        obtain ⟨t1, t2, t3⟩ := Bx.done (y := Y2 ++ d.extract c d.size) HB9.out (HPc2.out.below HBe9.out)
        refine ret_pack2 rfl rfl rfl rfl t1 ⟨A2, m2, p2, ?_, ?_, t3⟩
        · rw [← HRY.out.1, HE.out]; rfl
        · rw [← HRY.out.2]; exact t2

set_option maxHeartbeats 1000000 in
theorem refput_any (B : Nat) (x d : ByteArray) (v : Value) (L : Kn) (k : Nat) (w : World) (hP : Plc B v L w) (hK : KnOk x.data.toList L) (hG : Good x.data.toList L) (hx : x.size ≤ 900000) (hB : B ≤ w.heap.size) (hd : d.size ≤ 1000) (hk : k < 65536) :
    Calls Tryd.prog 55 #[.agg #[.string x, v], .int .u16 (k : Nat), .string d] w fun e w' => RpPost B x L k d w e w' := by
  cases hm : mayD k d with
  | false => exact refput_no B x d v L k w hP (by omega) hk hm
  | true =>
    by_cases hN : k = 2 ∨ k = 5 ∨ k = 12
    · exact refput_N B x d v L k w hP hK (by omega) hB (by omega) hN hm
    · by_cases h15 : k = 15
      · subst h15; exact refput_M B x d v L w hP hK hx hB hd hm
      · by_cases h6 : k = 6
        · subst h6
          obtain ⟨a, b, S1, S2, hS⟩ := soa_parts hK hG hm
          exact refput_S B x d v L w hP hK hx hB hd hm a b S1 S2 hS
        · exact refput_O B x d v L k w hP (by omega) (by omega) hk hN h15 h6 hm
end Go.Proofs.YtlphbeaaeeohjaaDoor
