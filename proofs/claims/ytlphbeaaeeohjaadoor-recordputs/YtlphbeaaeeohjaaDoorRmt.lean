/- The contracts of rdata.May, rdata.Take and rdata.Target. -/
import Derived.Test.YtlphbeaaeeohjaaDoorRjn
namespace Go.Proofs.YtlphbeaaeeohjaaDoor
open Go.RowKit
set_option linter.unusedVariables false

set_option maxHeartbeats 1000000 in
theorem rmay_any (k : Nat) (d : ByteArray) (hd : d.size ≤ 1073741824) (hk : k < 65536) (w : World) (hL : Lay w) :
    Calls Tryd.prog 41 #[.int .u16 (k : Nat), .string d] w fun en w' => en = .returned (.bool (pcs k d).isSome) ∧ Below w.heap.size w w' := by
  have HL := Lib.hid hL
  clear hL
  go_enter Tryd.func41, Tryd.ntmps41
  go_wp2_with fail
  refine (pieces_any k d hd hk _ HL.out).mono ?_
  rintro en w1 ⟨⟨v, rfl, _, _⟩, hb1⟩
  obtain ⟨R, hR⟩ : ∃ R, (pcs k d).isSome = R := ⟨_, rfl⟩
  rw [hR]
  have HR := Lib.hid hR
  clear hR
  go_wp2_with fail
  go_ret
  exact ⟨by rw [HR.out]; rfl, hb1⟩

/-- rdata.Take. -/
def tdO (s : ByteArray) (p m : Int) (k : Nat) : Option (List UInt8) := if Oc.okB s p m = true then (spl s p.toNat (p + m).toNat k).map cat else none
def tdS (s : ByteArray) (p m : Int) (k : Nat) : ByteArray := match tdO s p m k with | some l => ⟨l.toArray⟩ | none => ⟨#[]⟩
def tdE (s : ByteArray) (p m : Int) (k : Nat) : Int := match tdO s p m k with | some _ => 0 | none => 2
theorem td_some {s : ByteArray} {p m : Int} {k : Nat} {l : List UInt8} (h : tdO s p m k = some l) : tdS s p m k = ⟨l.toArray⟩ ∧ tdE s p m k = 0 := by unfold tdS tdE; rw [h]; exact ⟨rfl, rfl⟩
theorem td_none {s : ByteArray} {p m : Int} {k : Nat} (h : tdO s p m k = none) : tdS s p m k = ⟨#[]⟩ ∧ tdE s p m k = 2 := by unfold tdS tdE; rw [h]; exact ⟨rfl, rfl⟩

set_option maxRecDepth 100000 in
set_option maxHeartbeats 1000000 in
theorem rtake_any (s : ByteArray) (p m : Int) (k : Nat) (hs : s.size ≤ 1073741824) (hp : p ≤ maxLen) (hk : k < 65536) (w : World) (hL : Lay w) :
    Calls Tryd.prog 58 #[.string s, .int .i64 p, .int .i64 m, .int .u16 (k : Nat)] w fun en w' => en = .returned (.tuple #[.string (tdS s p m k), .int .i64 (tdE s p m k)]) ∧ Below w.heap.size w w' := by
  have HL := Lib.hid hL
  have hs' : s.size ≤ maxLen := by unfold maxLen; omega
  have HS := Lib.hid (And.intro hs' hp)
  clear hL hs' hp
  go_enter Tryd.func58, Tryd.ntmps58
  go_wp2_with fail
  refine (Oc.some_any s p m _ HS.out.1 HS.out.2).mono ?_
  rintro en w1 ⟨rfl, rfl⟩
  by_cases hok : Oc.okS s p m
  · have e1 : Oc.se s p m = 0 := by unfold Oc.se; rw [if_pos hok]
    have e2 : Oc.so s p m = ((p + m).toNat : Nat) := by unfold Oc.so; rw [if_pos hok]; unfold Oc.okS at hok; omega
    obtain ⟨P, rfl⟩ : ∃ P : Nat, p = P := ⟨p.toNat, by unfold Oc.okS at hok; omega⟩
    have ht : tdO s P m k = (spl s P ((P : Int) + m).toNat k).map cat := by unfold tdO; rw [if_pos (Oc.okB_yes hok)]; rfl
    have HT := Lib.hid ht
    have hpe : P ≤ s.size ∧ ((P : Int) + m).toNat ≤ s.size := by unfold Oc.okS at hok; omega
    have HPe := Lib.hid hpe
    rw [e1, e2]
    obtain ⟨E, hE⟩ : ∃ E, ((P : Int) + m).toNat = E := ⟨_, rfl⟩
    rw [hE] at HT HPe ⊢
    generalize Oc.sx s P m = X
    clear e1 e2 ht hpe hok hE
    go_wp2_with fail
    refine (split_any s P E k (by omega) HPe.out.1 HPe.out.2 hk _ HL.out).mono ?_
    rintro en w2 ⟨⟨v, rfl, hv⟩, hb2⟩
    cases hsp : spl s P E k with
    | none =>
      have hr := td_none (HT.out.trans (by rw [hsp]; rfl))
      have HR := Lib.hid hr
      clear hr hsp hv
      go_wp2_with fail
      go_ret2
      exact ⟨by rw [HR.out.1, HR.out.2]; rfl, hb2⟩
    | some l =>
      have hP := hv l hsp
      obtain ⟨A, cap, rfl⟩ := hP.form
      obtain ⟨hl, hc⟩ := spl_size hsp
      have hr := td_some (HT.out.trans (by rw [hsp]; rfl))
      have HR := Lib.hid hr
      have HP := Lib.hid hP
      have HSz := Lib.hid (And.intro (show l.length ≤ 1099511627776 by omega) (show (cat l).length ≤ 1099511627776 by omega))
      clear hsp hv hP hl hc hr
      go_wp2_with fail
      refine (join_any A cap l HSz.out.1 HSz.out.2 _ HP.out.parts).mono ?_
      rintro en w3 ⟨rfl, hb3⟩
      have HB := Lib.hid (bthen hb2 hb3)
      obtain ⟨R, hR⟩ : ∃ R, (⟨(cat l).toArray⟩ : ByteArray) = R := ⟨_, rfl⟩
      rw [hR]
      have HRR := Lib.hid hR
      clear hR hb2 hb3
      go_wp2_with fail
      go_ret2
      exact ⟨by rw [HR.out.1, HR.out.2, HRR.out]; rfl, HB.out⟩
  · have e1 : Oc.se s p m = 2 := by unfold Oc.se; rw [if_neg hok]
    have hr := td_none (s := s) (p := p) (m := m) (k := k) (by unfold tdO; rw [if_neg (by rw [Oc.okB_no hok]; decide)])
    have HR := Lib.hid hr
    rw [e1]
    generalize Oc.sx s p m = X
    generalize Oc.so s p m = Y
    clear e1 hr hok
    go_wp2_with fail
    go_ret2
    exact ⟨by rw [HR.out.1, HR.out.2]; rfl, Below.refl _ _⟩

/-- How many names there are, and the last one. -/
def nmC (l : List (ByteArray × Bool)) : Nat := (l.filter (·.2)).length
def nmL (l : List (ByteArray × Bool)) : ByteArray := match (l.filter (·.2)).getLast? with | some x => x.1 | none => ⟨#[]⟩
theorem nm_yes {l : List (ByteArray × Bool)} {j : Nat} (hj : j < l.length) (h : l[j].2 = true) : nmC (l.take (j + 1)) = nmC (l.take j) + 1 ∧ nmL (l.take (j + 1)) = l[j].1 := by
  have e : (l.take (j + 1)).filter (·.2) = (l.take j).filter (·.2) ++ [l[j]] := by rw [List.take_succ_eq_append_getElem hj, List.filter_append]; simp [h]
  unfold nmC nmL
  rw [e]
  simp
theorem nm_no {l : List (ByteArray × Bool)} {j : Nat} (hj : j < l.length) (h : l[j].2 = false) : nmC (l.take (j + 1)) = nmC (l.take j) ∧ nmL (l.take (j + 1)) = nmL (l.take j) := by
  have e : (l.take (j + 1)).filter (·.2) = (l.take j).filter (·.2) := by rw [List.take_succ_eq_append_getElem hj, List.filter_append]; simp [h]
  unfold nmC nmL
  rw [e]
  exact ⟨rfl, rfl⟩
/-- rdata.Target. -/
def tgL (k : Nat) (d : ByteArray) : List (ByteArray × Bool) := match pcs k d with | some l => l | none => []
def tgB (k : Nat) (d : ByteArray) : Bool := decide (nmC (tgL k d) = 1)
def tgS (k : Nat) (d : ByteArray) : ByteArray := if nmC (tgL k d) = 1 then nmL (tgL k d) else ⟨#[]⟩
theorem pcs_size {k : Nat} {d : ByteArray} {l : List (ByteArray × Bool)} (h : pcs k d = some l) : l.length = 3 ∧ cat l = d.data.toList := by
  unfold pcs at h
  split at h
  · rename_i l' hs
    split at h
    · rename_i hc
      cases h
      exact ⟨(spl_size hs).1, hc⟩
    · cases h
  · cases h

end Go.Proofs.YtlphbeaaeeohjaaDoor
