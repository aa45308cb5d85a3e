/- The contracts of name.unescape and name.read: the byte of a label that is written at the front of a text form. -/
import Derived.Test.YtceafomifpkiaaaDoorShelg
import Derived.Test.YtceafomifpkiaaaDoorNmx
namespace Go.Proofs.YtceafomifpkiaaaDoor
open Go.RowKit
set_option linter.unusedVariables false

/-- Three digits' number, if it is less than 256. -/
def num3 (l : List UInt8) : Option Nat := match Lib.parseUintB 8 l with | .ok u => some u | _ => none
/-- The byte that the front of a text stands for, and in how many bytes. -/
def unesc (l : List UInt8) : UInt8 × Nat :=
  if (l.getD 0 0).toNat ≠ 92 then (l.getD 0 0, 1)
  else if 2 ≤ l.length ∧ ((l.getD 1 0).toNat = 46 ∨ (l.getD 1 0).toNat = 92) then (l.getD 1 0, 2)
  else if l.length < 4 then (0, 0)
  else match num3 ((l.drop 1).take 3) with | some u => (UInt8.ofNat u, 4) | none => (0, 0)
theorem at_getD (s : ByteArray) (k : Nat) (h : k < s.size) : s[k] = s.data.toList.getD k 0 := by
  have : s[k] = s.data.toList[k]'(by rw [ba_len]; exact h) := rfl
  rw [this, List.getD_eq_getElem?_getD, List.getElem?_eq_getElem (by rw [ba_len]; exact h)]
  rfl

/-- The package-level variables that the parser of numbers reads are as they were laid. -/
structure Glob (w : World) : Prop where
  tab : Tab w
  bad : ∃ tp p, w.var? Tryd.prog "strconv.ErrSyntax" = some #[.iface tp p]
  far : ∃ tp p, w.var? Tryd.prog "strconv.ErrRange" = some #[.iface tp p]
theorem Glob.below {w w' : World} (h : Glob w) (hb : Below w.heap.size w w') : Glob w' := by
  obtain ⟨h1, ⟨tp, p, h2⟩, ⟨tq, q, h3⟩⟩ := h
  exact ⟨h1.below hb, ⟨tp, p, var_below h2 hb⟩, ⟨tq, q, var_below h3 hb⟩⟩

/-- What strconv.ParseUint returns for a byte in decimal digits. -/
def PuPost (l : List UInt8) (w : World) (e : Ending) (w' : World) : Prop :=
  (∃ u, num3 l = some u ∧ e = .returned (.tuple #[.int .u64 (u : Nat), .nilIface]) ∧ Below w.heap.size w w') ∨
  (∃ v t p, num3 l = none ∧ e = .returned (.tuple #[.int .u64 v, .iface t p]) ∧ Below w.heap.size w w')
theorem below_bytesWorld (w : World) (s : ByteArray) : Below w.heap.size w (Lib.bytesWorld w 5 s) := by
  unfold Lib.bytesWorld World.freeze
  rw [if_neg (by decide)]
  refine ⟨rfl, rfl, rfl, ?_, fun j hj => ?_⟩
  · show w.heap.size ≤ ((w.drew.alloc _).heap.modify _ _).size
    rw [Array.size_modify]
    show w.heap.size ≤ (w.heap.push _).size
    simp
  · show ((w.drew.alloc _).heap.modify _ _)[j]? = _
    rw [Array.getElem?_modify, if_neg (by show ¬ w.heap.size = j; omega)]
    show (w.heap.push _)[j]? = _
    rw [Array.getElem?_push, if_neg (by omega)]
theorem parse_any (s : ByteArray) (hs : s.size ≤ 140737488355328) (w : World) (hg : Glob w) :
    Calls Tryd.prog 62 #[.string s, .int .i64 10, .int .i64 8] w (PuPost s.data.toList w) := by
  rcases h : Lib.parseUintB 8 s.data.toList with u | _ | _
  · refine (Tryd.strconv_ParseUint_10_at8_ok s (by omega) u h w).mono ?_
    rintro e w' ⟨he, hw⟩
    refine .inl ⟨u, by simp [num3, h], he, ?_⟩
    rcases hw with rfl | rfl
    · exact Below.refl _ _
    · exact below_bytesWorld w s
  · obtain ⟨tp, p, hv⟩ := hg.bad
    refine (Tryd.strconv_ParseUint_10_at8_bad_var s (by omega) (h.trans rfl) tp p w hv).mono ?_
    rintro e w' ⟨N, he, _, _, hb⟩
    exact .inr ⟨_, _, _, by simp [num3, h], he, hb⟩
  · obtain ⟨tp, p, hv⟩ := hg.far
    refine (Tryd.strconv_ParseUint_10_at8_range_var s (by omega) h tp p w hv).mono ?_
    rintro e w' ⟨N, he, _, _, hb⟩
    exact .inr ⟨_, _, _, by simp [num3, h], he, hb⟩

theorem parseM_le (l : List UInt8) : ∀ (acc u : Nat), acc ≤ 255 → Lib.parseUintM 255 acc l = .ok u → u ≤ 255 := by
  induction l with
  | nil => intro acc u ha h; simp only [Lib.parseUintM] at h; cases h; exact ha
  | cons c l ih =>
    intro acc u ha h
    simp only [Lib.parseUintM] at h
    split at h
    · split at h
      · cases h
      · split at h
        · cases h
        · exact ih _ u (by omega) h
    · cases h
theorem num3_lt {l : List UInt8} {u : Nat} (h : num3 l = some u) : u < 256 := by
  unfold num3 at h
  split at h
  · rename_i v hv
    cases h
    unfold Lib.parseUintB at hv
    split at hv
    · cases hv
    · have := parseM_le l 0 u (by omega) hv
      omega
  · cases h

set_option maxRecDepth 100000 in
set_option maxHeartbeats 1000000 in
theorem unescape_any (s : ByteArray) (hs : s.size ≤ 140737488355328) (h0 : 0 < s.size) (w : World) (hg : Glob w) :
    Calls Tryd.prog 55 #[.string s] w fun e w' => e = .returned (.tuple #[.int .u8 ((unesc s.data.toList).1.toNat : Nat), .int .i64 ((unesc s.data.toList).2 : Nat)]) ∧ Below w.heap.size w w' := by
  have e0 := at_getD s 0 h0
  have h8 : s[0].toNat ≤ 255 := by have := s[0].toNat_lt; omega
  by_cases c0 : s[0].toNat = 92
  · have b0 : ((s[0].toNat : Int) != 92) = false := by simp; omega
    by_cases c1 : 2 ≤ s.size
    · have e1 := at_getD s 1 c1
      have h81 : s[1].toNat ≤ 255 := by have := s[1].toNat_lt; omega
      by_cases c2 : s[1].toNat = 46 ∨ s[1].toNat = 92
      · have hu : unesc s.data.toList = (s[1], 2) := by
          unfold unesc
          rw [← e0, ← e1, ba_len, if_neg (by omega), if_pos ⟨c1, c2⟩]
        rw [hu]
        clear hu e0 e1 c0
        by_cases c3 : s[1].toNat = 46
        · have b1 : ((s[1].toNat : Int) == 46) = true := by simp; omega
          clear c2 c3
          go_enter Tryd.func55, Tryd.ntmps55
          go_wp2_with fail
          go_ret2
          exact ⟨rfl, Below.refl _ _⟩
        · have b1 : ((s[1].toNat : Int) == 46) = false := by simp; omega
          have b2 : ((s[1].toNat : Int) == 92) = true := by simp; omega
          clear c2 c3
          go_enter Tryd.func55, Tryd.ntmps55
          go_wp2_with fail
          go_ret2
          exact ⟨rfl, Below.refl _ _⟩
      · have b1 : ((s[1].toNat : Int) == 46) = false := by simp; omega
        have b2 : ((s[1].toNat : Int) == 92) = false := by simp; omega
        by_cases c4 : s.size < 4
        · have hu : unesc s.data.toList = (0, 0) := by
            unfold unesc
            rw [← e0, ← e1, ba_len, if_neg (by omega), if_neg (by omega), if_pos c4]
          rw [hu]
          clear hu e0 e1 c0 c2
          go_enter Tryd.func55, Tryd.ntmps55
          go_wp2_with fail
          go_ret2
          exact ⟨rfl, Below.refl _ _⟩
        · have hu : unesc s.data.toList = match num3 ((s.data.toList.drop 1).take 3) with | some u => (UInt8.ofNat u, 4) | none => (0, 0) := by
            unfold unesc
            rw [← e0, ← e1, ba_len, if_neg (by omega), if_neg (by omega), if_neg c4]
          have hx : (s.extract 1 4).data.toList = (s.data.toList.drop 1).take 3 := by
            rw [extract_list, List.drop_take]
          rw [← hx] at hu
          have HU := Lib.hid hu
          have hsl := fun w => slice_at s 1 4 1 4 rfl rfl (by omega) (by omega) w
          have hxs : (s.extract 1 4).size ≤ 140737488355328 := by rw [ByteArray.size_extract]; omega
          clear hu e0 e1 c0 c2 hx
          go_enter Tryd.func55, Tryd.ntmps55
          go_wp2_with fail
          refine (parse_any _ hxs _ hg).mono ?_
          rintro e w1 (⟨u, h3, rfl, hb1⟩ | ⟨v, t, p, h3, rfl, hb1⟩)
          · have h256 := num3_lt h3
            have H3 := Lib.hid h3
            have hto : (UInt8.ofNat u).toNat = u := by rw [UInt8.toNat_ofNat']; omega
            have HT := Lib.hid hto
            clear h3 hto
            go_wp2_with fail
            go_ret2
            refine ⟨?_, hb1⟩
            rw [HU.out, H3.out]
            simp only [HT.out]
            rfl
          · have H3 := Lib.hid h3
            clear h3
            go_wp2_with fail
            go_ret2
            exact ⟨by rw [HU.out, H3.out]; rfl, hb1⟩
    · have hu : unesc s.data.toList = (0, 0) := by
        unfold unesc
        rw [← e0, ba_len, if_neg (by omega), if_neg (by omega), if_pos (by omega)]
      rw [hu]
      clear hu e0 c0
      go_enter Tryd.func55, Tryd.ntmps55
      go_wp2_with fail
      go_ret2
      exact ⟨rfl, Below.refl _ _⟩
  · have hu : unesc s.data.toList = (s[0], 1) := by
      unfold unesc
      rw [← e0, if_pos c0]
    rw [hu]
    have b0 : ((s[0].toNat : Int) != 92) = true := by simp; omega
    clear hu e0
    go_enter Tryd.func55, Tryd.ntmps55
    go_wp2_with fail
    go_ret2
    exact ⟨rfl, Below.refl _ _⟩
end Go.Proofs.YtceafomifpkiaaaDoor
