/- The walk of derricklaw04.RdataOther: of a type that isn't named any bytes may be, and are put, and taken, as they are. -/
import Derived.Test.YtccmppnindkgfaaDoorRsh
import Derived.Test.YtccmppnindkgfaaDoorLwn
namespace Go.Proofs.YtccmppnindkgfaaDoor
open Go.RowKit
set_option linter.unusedVariables false

/-- A type that isn't named. -/
structure Unnamed (k : Nat) : Prop where
  n1 : k ≠ 1
  n2 : k ≠ 28
  n3 : k ≠ 2
  n4 : k ≠ 5
  n5 : k ≠ 12
  n6 : k ≠ 15
  n7 : k ≠ 6
  n8 : k ≠ 16
theorem named_or (k : Nat) : Unnamed k ∨ k = 1 ∨ k = 28 ∨ k = 2 ∨ k = 5 ∨ k = 12 ∨ k = 15 ∨ k = 6 ∨ k = 16 := by
  by_cases h : Unnamed k
  · exact .inl h
  · right
    by_cases h1 : k = 1 ∨ k = 28 ∨ k = 2 ∨ k = 5 ∨ k = 12 ∨ k = 15 ∨ k = 6 ∨ k = 16
    · exact h1
    · exfalso
      exact h ⟨by omega, by omega, by omega, by omega, by omega, by omega, by omega, by omega⟩
theorem Unnamed.notN {k : Nat} (h : Unnamed k) : isN k = false := by
  obtain ⟨h1, h2, h3, h4, h5, h6, h7, h8⟩ := h
  unfold isN
  simp
  omega
theorem Unnamed.may {k : Nat} (h : Unnamed k) {d : ByteArray} (hd : d.size ≤ 65535) : mayD k d = true := by
  unfold mayD
  rw [if_neg h.n1, if_neg h.n2, if_neg (by rw [h.notN]; decide), if_neg h.n6, if_neg h.n7, if_neg h.n8]
  simpa using hd
theorem Unnamed.put {k : Nat} (h : Unnamed k) {d : ByteArray} (hd : d.size ≤ 65535) : (ptS [] [] k d).1 = d.data.toList ∧ ptE k d = 0 := by
  rw [put_eq, if_pos (h.may hd)]
  unfold putD ptE
  rw [if_neg (by rw [h.notN]; decide), if_neg h.n6, if_neg h.n7, may_eq, h.may hd]
  exact ⟨by simp, rfl⟩
theorem Unnamed.take {k : Nat} (h : Unnamed k) {d : ByteArray} (hd : d.size ≤ 65535) : tdS d 0 d.size k = d ∧ tdE d 0 d.size k = 0 := by
  have ht : tdO d 0 d.size k = some d.data.toList := by
    have h1 := take_eq (s := d) (p := 0) (m := d.size) k (by omega) hd
    unfold tdO
    rw [if_pos (Oc.okB_yes ⟨by omega, by omega, by omega⟩)]
    have e : ((0 : Int) + (d.size : Int)).toNat = 0 + d.size := by omega
    rw [e]
    refine h1.trans ?_
    rw [takeD_oth h.notN h.n6 h.n7]
    have hx : (d.data.toList.drop 0).take d.size = d.data.toList := by rw [List.drop_zero, ← ba_len, List.take_length]
    rw [hx, ba_mk, if_pos (h.may hd)]
  obtain ⟨h1, h2⟩ := td_some ht
  rw [ba_mk] at h1
  exact ⟨h1, h2⟩
theorem Unnamed.tgt {k : Nat} (h : Unnamed k) {d : ByteArray} : tgB k d = false ∧ tgS k d = ⟨#[]⟩ := by
  have ht : tgtD k d = none := by
    unfold tgtD
    rw [if_neg (c := isN k = true) (by rw [h.notN]; decide), if_neg h.n6]
    split <;> rfl
  rw [(tgt_eq k d).1, (tgt_eq k d).2, ht]
  exact ⟨rfl, rfl⟩

set_option maxRecDepth 100000 in
set_option maxHeartbeats 4000000 in
theorem other_walk (k : Nat) (d : ByteArray) (hk : k < 65536) (hd : d.size ≤ 140737488355328) (w : World) (hL : Lay w) :
    Calls Tryd.prog 7 #[.int .u16 (k : Nat), .string d] w fun e w' => e = .returned (.bool true) ∧ Below w.heap.size w w' := by
  have HL := Lib.hid hL
  have H0 := Lib.hid (lay_lt hL)
  clear hL
  go_enter Tryd.func7, Tryd.ntmps7
  go_wp2_with fail
  refine (rshown_any _ HL.out).mono ?_
  rintro e w1 ⟨rfl, hb1⟩
  have HB1 := Lib.hid hb1
  have HL1 := Lib.hid (HL.out.below H0.out hb1)
  clear hb1
  rcases named_or k with hU | rfl | rfl | rfl | rfl | rfl | rfl | rfl | rfl
  · have b1 : ((k : Int) == 1) = false := by simp; exact fun h => hU.n1 (by omega)
    have b2 : ((k : Int) == 28) = false := by simp; exact fun h => hU.n2 (by omega)
    have b3 : ((k : Int) == 2) = false := by simp; exact fun h => hU.n3 (by omega)
    have b4 : ((k : Int) == 5) = false := by simp; exact fun h => hU.n4 (by omega)
    have b5 : ((k : Int) == 12) = false := by simp; exact fun h => hU.n5 (by omega)
    have b6 : ((k : Int) == 15) = false := by simp; exact fun h => hU.n6 (by omega)
    have b7 : ((k : Int) == 6) = false := by simp; exact fun h => hU.n7 (by omega)
    have b8 : ((k : Int) == 16) = false := by simp; exact fun h => hU.n8 (by omega)
    have HU := Lib.hid hU
    clear hU
    by_cases hsz : d.size ≤ 1000
    · have c1 : decide ((1000 : Int) < (d.size : Int)) = false := by simp; omega
      have c2 : ¬ 1000 < d.size := by omega
      go_wp2_with fail
      refine (new_any _).mono ?_
      rintro e w2 ⟨rfl, hP2, hb2⟩
      have HB2 := Lib.hid (bthen HB1.out hb2)
      have HL2 := Lib.hid (HL.out.below H0.out HB2.out)
      have HS2 := Lib.hid (And.intro (St.new hP2) hb2.size)
      clear b1 b2 b3 b4 b5 b6 b7 b8 c1 c2 hP2 hb2
      go_wp2_with fail
      refine (rput_any _ _ [] [] k d (by omega) (by simp) hk _ HL2.out HS2.out.1 HS2.out.2).mono ?_
      rintro e w3 ⟨rfl, hs3, hb3, _⟩
      obtain ⟨hp1, hp2⟩ := HU.out.put (d := d) (by omega)
      rw [hp2]
      have h3 := hs3.is
      rw [hp1] at h3
      have HB3 := Lib.hid (HB2.out.trans (hb3.mono HB1.out.size))
      have HP3 := Lib.hid h3
      have HL3 := Lib.hid (HL.out.below H0.out HB3.out)
      clear hp1 hp2 hs3 h3 hb3 HL2 HS2
      go_wp2_with fail
      refine (rtake_any d 0 d.size k (by omega) (by unfold maxLen; omega) hk _ HL3.out).mono ?_
      rintro e w4 ⟨rfl, hb4⟩
      obtain ⟨ht1, ht2⟩ := HU.out.take (d := d) (by omega)
      rw [ht1, ht2]
      have HP4 := Lib.hid (HP3.out.below hb4)
      have HB4 := Lib.hid (bthen HB3.out hb4)
      have HL4 := Lib.hid (HL.out.below H0.out HB4.out)
      clear ht1 ht2 hb4 HP3 HL3 HB3
      go_wp2_with fail
      refine (rtarget_any k d (by omega) hk _ HL4.out).mono ?_
      rintro e w5 ⟨rfl, hb5⟩
      rw [HU.out.tgt.1, HU.out.tgt.2]
      have HP5 := Lib.hid (HP4.out.below hb5)
      have HB5 := Lib.hid (bthen HB4.out hb5)
      have HL5 := Lib.hid (HL.out.below H0.out HB5.out)
      clear hb5 HP4 HL4 HB4
      go_wp2_with fail
      refine (rmay_any k d (by omega) hk _ HL5.out).mono ?_
      rintro e w6 ⟨rfl, hb6⟩
      rw [may_eq, HU.out.may (by omega)]
      have HP6 := Lib.hid (HP5.out.below hb6)
      have HB6 := Lib.hid (bthen HB5.out hb6)
      clear hb6 HP5 HL5 HB5
      go_wp2_with fail
      refine (out_any _ _ _ _ _ HP6.out).mono ?_
      rintro e w7 ⟨rfl, rfl⟩
      rw [ba_mk]
      have hself := self_is d
      go_wp2_with fail
      go_ret
      exact ⟨rfl, HB6.out⟩
    · have c1 : decide ((1000 : Int) < (d.size : Int)) = true := by simp; omega
      have c2 : 1000 < d.size := by omega
      go_wp2_with fail
      go_ret
      exact ⟨rfl, HB1.out⟩
  all_goals
    by_cases hsz : d.size ≤ 1000
    · have c1 : decide ((1000 : Int) < (d.size : Int)) = false := by simp; omega
      have c2 : ¬ 1000 < d.size := by omega
      go_wp2_with fail
      go_ret
      exact ⟨rfl, HB1.out⟩
    · have c1 : decide ((1000 : Int) < (d.size : Int)) = true := by simp; omega
      have c2 : 1000 < d.size := by omega
      go_wp2_with fail
      go_ret
      exact ⟨rfl, HB1.out⟩
end Go.Proofs.YtccmppnindkgfaaDoor
