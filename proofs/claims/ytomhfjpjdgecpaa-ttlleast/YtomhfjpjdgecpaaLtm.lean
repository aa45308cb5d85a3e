/- The walk of TtlLeast. -/
import Derived.Test.YtomhfjpjdgecpaaLtl
import Derived.Deep.RegionHeld
namespace Go.Proofs.Ytomhfjpjdgecpaa
open Go.RowKit
set_option linter.unusedVariables false

theorem lst_append (a b : List Nat) (ha : a ≠ []) (hb : b ≠ []) : lst (a ++ b) = min (lst a) (lst b) := by
  have key : ∀ (l : List Nat) (x y : Nat), l.foldl min (min x y) = min x (l.foldl min y) := by
    intro l
    induction l with
    | nil => intro x y; rfl
    | cons c l ih =>
      intro x y
      rw [List.foldl_cons, List.foldl_cons, Nat.min_assoc]
      exact ih x (min y c)
  cases a with
  | nil => exact absurd rfl ha
  | cons x a =>
    cases b with
    | nil => exact absurd rfl hb
    | cons y b =>
      show (a ++ y :: b).foldl min x = min (a.foldl min x) (b.foldl min y)
      rw [List.foldl_append, List.foldl_cons]
      exact key b _ _
theorem lst_le (a : List Nat) (h : 0 < a.length) : lst a ≤ a[0] := by
  cases a with
  | nil => simp at h
  | cons x a =>
    show a.foldl min x ≤ x
    have : ∀ (l : List Nat) (y : Nat), l.foldl min y ≤ y := by
      intro l
      induction l with
      | nil => intro y; exact Nat.le_refl _
      | cons c l ih => intro y; exact Nat.le_trans (ih _) (Nat.min_le_left _ _)
    exact this a x
theorem lst_facts (l k : List Rc) (hl : l.length ≠ 0) (hk : k.length ≠ 0) : lst ((l ++ k).map (·.t)) = min (lst (l.map (·.t))) (lst (k.map (·.t))) ∧ lst ((l ++ k).map (·.t)) ≤ (l[0]'(by omega)).t := by
  have h1 : lst ((l ++ k).map (·.t)) = min (lst (l.map (·.t))) (lst (k.map (·.t))) := by
    rw [List.map_append]
    exact lst_append _ _ (fun h => hl (by rw [← List.length_map (·.t), h]; rfl)) (fun h => hk (by rw [← List.length_map (·.t), h]; rfl))
  refine ⟨h1, ?_⟩
  have h2 := lst_le (l.map (·.t)) (by simp; omega)
  rw [List.getElem_map] at h2
  omega

theorem bl_next {w3 wc wd : World} (h : Below w3.heap.size w3 wc) (hb : Below wc.heap.size wc wd) : Below w3.heap.size w3 wd := h.trans (hb.mono h.size)

set_option maxRecDepth 100000 in
set_option maxHeartbeats 2000000 in
theorem leastl_walk (A : Option Addr) (cap : Nat) (l : List Rc) (A2 : Option Addr) (cap2 : Nat) (k : List Rc) (hl : l.length ≤ 9223372036854775807) (hk : k.length ≤ 9223372036854775807) (w : World) (hI : Sl rf w A cap l) (hJ : Sl rf w A2 cap2 k) :
    Calls Try.prog 8 #[.slice A l.length cap, .slice A2 k.length cap2] w fun e w' => e = .returned (.bool true) ∧ Below w.heap.size w w' := by
  have HI := Lib.hid hI
  have HJ := Lib.hid hJ
  clear hI hJ
  by_cases hs : l.length = 0 ∨ (l.length ≠ 0 ∧ k.length = 0) ∨ (l.length ≠ 0 ∧ k.length ≠ 0 ∧ 200 < l.length) ∨ (l.length ≠ 0 ∧ k.length ≠ 0 ∧ ¬ 200 < l.length ∧ 200 < k.length)
  · have HN := Lib.hid (fun w => least_any none 0 [] (by simp) w (Sl.nil _ _))
    have HE := Lib.hid (show lst (([] : List Rc).map (·.t)) = 0 from rfl)
    rw [HE.out] at HN
    have hs' : (((l.length : Int) == 0) = true) ∨ (((l.length : Int) == 0) = false ∧ ((k.length : Int) == 0) = true) ∨ (((l.length : Int) == 0) = false ∧ ((k.length : Int) == 0) = false ∧ decide ((l.length : Int) > 200) = true) ∨ (((l.length : Int) == 0) = false ∧ ((k.length : Int) == 0) = false ∧ decide ((l.length : Int) > 200) = false ∧ decide ((k.length : Int) > 200) = true) := by
      simp only [beq_eq_false_iff_ne, beq_iff_eq, decide_eq_true_eq, decide_eq_false_iff_not]
      omega
    clear hs
    rcases hs' with q1 | ⟨q1, q2⟩ | ⟨q1, q2, q3⟩ | ⟨q1, q2, q3, q4⟩
    all_goals
      go_enter Try.func8, Try.ntmps8
      go_wp2_with fail
      refine (shown_any _).mono ?_
      rintro _ w1 ⟨rfl, hb⟩
      have HB1 := Lib.hid hb
      clear hb
      go_wp2_with fail
      refine (HN.out _).mono ?_
      rintro _ w2 ⟨rfl, hb⟩
      have HB2 := Lib.hid (HB1.out.trans (hb.mono HB1.out.size))
      clear hb HB1
      go_wp2_with fail
      go_ret
      exact ⟨rfl, HB2.out⟩
  · have hs2 : l.length ≠ 0 ∧ k.length ≠ 0 ∧ l.length ≤ 200 ∧ k.length ≤ 200 := by omega
    obtain ⟨n1, n2, n3, n4⟩ := hs2
    have q1 : ((l.length : Int) == 0) = false := beq_eq_false_iff_ne.2 (by omega)
    have q2 : ((k.length : Int) == 0) = false := beq_eq_false_iff_ne.2 (by omega)
    have q3 : decide ((l.length : Int) > 200) = false := by simp; omega
    have q4 : decide ((k.length : Int) > 200) = false := by simp; omega
    clear hs
    go_enter Try.func8, Try.ntmps8
    go_wp2_with fail
    refine (shown_any _).mono ?_
    rintro _ w1 ⟨rfl, hb1⟩
    have HI1 := Lib.hid (HI.out.below' (hb1.alloc hb1.size (Obj.cells #[] 40)))
    have hb2 := hb1.alloc hb1.size (Obj.cells #[] 40)
    have ho2 := World.ownsRow_made (base := w.heap.size) (e := 40) (size := 5) w1 #[] 0 hb1.size (Nat.zero_le _) (by simp)
    have HB2 := Lib.hid hb2
    have HO2 := Lib.hid ho2
    clear hb1 hb2 ho2
    go_wp2_with (at_builtin; refine wpList_append_sl rfl _ _ rfl w.heap.size _ [] rfl HO2.out A cap l HI1.out rfl ?q1 ?q2 ?_)
    case q1 => simp; omega
    case q2 => exact HB2.out.size
    intro v2 w2 ho hg
    have hb3 := HB2.out.grown hg HB2.out.size (fun k hk => (HO2.out.lt k hk).1)
    have ho3 : w2.ownsRow w.heap.size 40 5 v2 l.length (l.flatMap rf) := by simpa using ho
    have HO3 := Lib.hid ho3
    have HB3 := Lib.hid hb3
    have HJ3 := Lib.hid (HJ.out.below' hb3)
    clear hb3 ho ho3 hg HO2 HB2 HI1
    obtain ⟨Av, cv, rfl⟩ := ownR_form HO3.out
    go_wp2_with (at_builtin; refine wpList_append_sl rfl _ _ rfl w.heap.size _ l rfl HO3.out A2 cap2 k HJ3.out rfl ?q3 ?q4 ?_)
    case q3 => omega
    case q4 => exact HB3.out.size
    intro v3 w3 ho hg
    have hb4 := HB3.out.grown hg HB3.out.size (fun k hk => (HO3.out.lt k hk).1)
    have ho4 : w3.ownsRow w.heap.size 40 5 v3 (l ++ k).length ((l ++ k).flatMap rf) := by simpa using ho
    obtain ⟨Aw, cw, hv, hSw⟩ := Sl.own rf_len (l := l ++ k) ho4
    have hm : (l ++ k).length ≤ 400 := by rw [List.length_append]; omega
    obtain ⟨m, hmm⟩ : ∃ m, (l ++ k).length = m := ⟨_, rfl⟩
    rw [hmm] at hv hm
    subst hv
    obtain ⟨b, off, rfl, hb, c0, c1, c2, c3, c4⟩ := (HI.out.below' hb4).rec5 0 (by omega)
    obtain ⟨F1, F2⟩ := lst_facts l k n1 n2
    have HA := Lib.hid (fun wc (h : Below w3.heap.size w3 wc) => least_any' Aw cw (l ++ k) m hmm (by omega) wc (hSw.below' h))
    have HL := Lib.hid (fun wc (h : Below w3.heap.size w3 wc) => least_any (some ⟨b, off, none⟩) cap l (by omega) wc ((HI.out.below' hb4).below' h))
    have HK := Lib.hid (fun wc (h : Below w3.heap.size w3 wc) => least_any A2 cap2 k (by omega) wc ((HJ.out.below' hb4).below' h))
    have hc3 : w3.cell? ⟨b, off + 3, none⟩ = some (.int .u32 ((l[0]'(by omega)).t : Nat)) := by simpa using c3
    rw [F1] at HA F2
    have HB4 := Lib.hid hb4
    have HHb := Lib.hid hb
    clear c0 c1 c2 c3 c4 F1 ho ho4 hmm hg HO3 HB3 hSw hb4 hb HJ3
    generalize (l[0]'(by omega)).t = t at *
    generalize lst (l.map (·.t)) = x at *
    generalize lst (k.map (·.t)) = y at *
    have F3 : decide (((min x y : Nat) : Int) ≤ (t : Int)) = true := by simp; omega
    have F4 : ((min x y : Nat) : Int) == min (x : Int) (y : Int) := by simp; omega
    generalize min x y = z at *
    have F5 : ((z : Int) == min (x : Int) (y : Int)) = true := F4
    clear F4
    go_upto_region 5 with (fail)
    go_region_held (fun w' => w'.cell? ⟨b, off + 3, none⟩ = some (.int .u32 (t : Nat)))
      (first | exact hc3 | exact (Below.cell (p := ⟨b, off + 3, none⟩) (by assumption) HHb.out).trans hc3)
      (first
      | (go_at_call 18; refine (HA.out _ (by first | exact (Below.refl _ _).drew | assumption)).mono ?_; rintro _ wd ⟨rfl, hb⟩; have hbd := bl_next (by first | exact (Below.refl _ _).drew | assumption) hb; clear hb)
      | (go_at_call 18; refine (HL.out _ (by first | exact (Below.refl _ _).drew | assumption)).mono ?_; rintro _ wd ⟨rfl, hb⟩; have hbd := bl_next (by first | exact (Below.refl _ _).drew | assumption) hb; clear hb)
      | (go_at_call 18; refine (HK.out _ (by first | exact (Below.refl _ _).drew | assumption)).mono ?_; rintro _ wd ⟨rfl, hb⟩; have hbd := bl_next (by first | exact (Below.refl _ _).drew | assumption) hb; clear hb))
    all_goals
      go_wp2_with fail
      go_ret
      exact ⟨rfl, HB4.out.trans ((show Below w3.heap.size w3 _ by assumption).mono HB4.out.size)⟩
end Go.Proofs.Ytomhfjpjdgecpaa
