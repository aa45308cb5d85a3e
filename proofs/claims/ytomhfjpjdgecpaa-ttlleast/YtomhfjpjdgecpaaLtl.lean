/- The walk of TtlLists. -/
import Derived.Test.YtomhfjpjdgecpaaTtb
namespace Go.Proofs.Ytomhfjpjdgecpaa
open Go.RowKit
set_option linter.unusedVariables false

/-- append(own, x...) where x is any slice of records, nil or not. -/
theorem wpList_append_sl {w : World} {ops : Array Oper} {rest : List Oper} {o : Oper} {a : Act} {Q : Exit → Act → World → Prop} (hgd : o.guard = none) (s x : Operand)
    (ho : o.op = .call { callee := .builtin .append, args := #[s, x], argTypes := #[30, 30] })
    (base : Nat) (v : Value) (l0 : List Rc) (hs : a.eval s = v) (hown : w.ownsRow base 40 5 v l0.length (l0.flatMap rf)) (A : Option Addr) (cap : Nat) (l : List Rc) (hSl : Sl rf w A cap l) (hx : a.eval x = .slice A l.length cap)
    (h63 : l0.length + l.length ≤ 1000000) (hbase : base ≤ w.heap.size)
    (h : ∀ v' w', w'.ownsRow base 40 5 v' (l0 ++ l).length ((l0 ++ l).flatMap rf) → w.grownBy w' v.ownBlock → wpList Try.prog ops Q rest (a.put o.dst v') w') : wpList Try.prog ops Q (o :: rest) a w := by
  obtain ⟨i0, hi, hz0, hz1, hz2⟩ := el_of elR
  cases A with
  | none =>
    obtain rfl := hSl.empty rfl
    have hz := hSl.nl rfl
    subst hz
    exact wpList_append_own_none hgd s x 30 ho base 40 i0 5 Try.underlying30 hi v l0.length (l0.flatMap rf) hs hown hx (h v w (by simpa using hown) ⟨rfl, rfl, rfl, Nat.le_refl _, fun _ _ _ => rfl⟩)
  | some ad =>
    refine wpList_append_own w hgd s x 30 ho base 40 i0 zR 5 40 Try.underlying30 hi hz0 hz1 hz2 rfl (by decide) v l0.length (l0.flatMap rf) hs hown ad l.length cap (l.flatMap rf) hx (flat_len rf_len l) hSl.src (rf_one l) (by unfold maxLen; omega) (by omega) hbase ?_
    intro v' w' h1 h2 _
    exact h v' w' (by rw [List.length_append, List.flatMap_append]; exact h1) h2
theorem rrs_yes' (A : Option Addr) (cap : Nat) (A2 : Option Addr) (cap2 : Nat) (l : List Rc) (m : Nat) (hm : l.length = m) (hl : m ≤ 9223372036854775807) (w : World) (hI : Sl rf w A cap l) (hJ : Sl rf w A2 cap2 l) :
    Calls Try.prog 20 #[.slice A m cap, .slice A2 m cap2] w fun e w' => e = .returned (.bool true) ∧ Below w.heap.size w w' := by
  subst hm
  exact rrs_yes A cap A2 cap2 l hl w hI hJ
theorem foldl_min_same (n : Nat) : ∀ l : List Nat, (∀ x ∈ l, x = n) → l.foldl min n = n
  | [], _ => rfl
  | a :: l, h => by
    rw [List.foldl_cons, h a (by simp), Nat.min_self]
    exact foldl_min_same n l (fun x hx => h x (by simp [hx]))
theorem lst_wt (n : Nat) (l : List Rc) (h : l.length ≠ 0) : lst ((l.map (wt n)).map (·.t)) = n := by
  cases l with
  | nil => simp at h
  | cons a l =>
    show (((l.map (wt n)).map (·.t))).foldl min (wt n a).t = n
    exact foldl_min_same n _ (fun x hx => by simp at hx; obtain ⟨r, _, rfl⟩ := hx; rfl)
theorem least_any' (A : Option Addr) (cap : Nat) (l : List Rc) (m : Nat) (hm : l.length = m) (hs : m ≤ 20000) (w : World) (hI : Sl rf w A cap l) :
    Calls Try.prog 18 #[.slice A m cap] w fun e w' => e = .returned (.int .u32 (lst (l.map (·.t)) : Nat)) ∧ Below w.heap.size w w' := by
  subst hm
  exact least_any A cap l hs w hI

set_option maxRecDepth 100000 in
set_option maxHeartbeats 2000000 in
theorem lists_walk (A : Option Addr) (cap : Nat) (l : List Rc) (n : Nat) (hl : l.length ≤ 9223372036854775807) (hn : n < 4294967296) (w : World) (hI : Sl rf w A cap l) :
    Calls Try.prog 4 #[.slice A l.length cap, .int .u32 (n : Nat)] w fun e w' => e = .returned (.bool true) ∧ Below w.heap.size w w' := by
  have HI := Lib.hid hI
  clear hI
  by_cases hs : 200 < l.length
  · have g : decide ((l.length : Int) > 200) = true := by simp; omega
    clear hs
    go_enter Try.func4, Try.ntmps4
    go_wp2_with fail
    refine (shown_any _).mono ?_
    rintro _ w1 ⟨rfl, hb⟩
    have HB1 := Lib.hid hb
    clear hb
    go_wp2_with fail
    go_ret
    exact ⟨rfl, HB1.out⟩
  · have g : decide ((l.length : Int) > 200) = false := by simp; omega
    go_enter Try.func4, Try.ntmps4
    go_wp2_with fail
    refine (shown_any _).mono ?_
    rintro _ w1 ⟨rfl, hb1⟩
    have HI1 := Lib.hid (HI.out.below' (hb1.alloc hb1.size (Obj.cells #[] 40)))
    have hb2 := hb1.alloc hb1.size (Obj.cells #[] 40)
    have ho2 := World.ownsRow_made (base := w.heap.size) (e := 40) (size := 5) w1 #[] 0 hb1.size (Nat.zero_le _) (by simp)
    have HB2 := Lib.hid hb2
    have HO2 := Lib.hid ho2
    clear hb1 hb2 ho2
    go_wp2_with (at_builtin; refine wpList_append_sl rfl _ _ rfl w.heap.size _ [] rfl HO2.out A cap l HI1.out rfl ?q1 ?q2 ?_)
    case q1 => simp; omega
    case q2 => exact HB2.out.size
    intro v2 w2 ho hg
    have hb3 := HB2.out.grown hg HB2.out.size (fun k hk => (HO2.out.lt k hk).1)
    obtain ⟨Aw, cw, rfl, hSw⟩ := Sl.own rf_len (l := l) (by simpa using ho)
    have HB3 := Lib.hid hb3
    have HSw := Lib.hid hSw
    have HI2 := Lib.hid (HI.out.below' hb3)
    have HW := Lib.hid (with_any A cap l n (by omega) w2 (HI.out.below' hb3))
    clear hb3 hSw ho hg HO2 HB2 HI1
    go_wp2_with fail
    refine HW.out.mono ?_
    rintro _ w3 ⟨Ax, cx, rfl, hSx, hb⟩
    have HSx := Lib.hid hSx
    have hb3 := HB3.out.trans (hb.mono HB3.out.size)
    have HB4 := Lib.hid hb3
    have HSw3 := Lib.hid (HSw.out.below' hb)
    have HL := Lib.hid (least_any A cap l (by omega) w3 (HI.out.below' hb3))
    clear hSx hb hb3 HW HB3 HSw HI2
    go_wp2_with fail
    refine HL.out.mono ?_
    rintro _ w4 ⟨rfl, hb⟩
    have hb4 := HB4.out.trans (hb.mono HB4.out.size)
    have HB5 := Lib.hid hb4
    have HSw4 := Lib.hid (HSw3.out.below' hb)
    have HSx4 := Lib.hid (HSx.out.below' hb)
    have HL := Lib.hid (fleast_any A cap l (by omega) w4 (HI.out.below' hb4))
    clear hb hb4 HB4 HSw3 HSx
    generalize lst (l.map (·.t)) = x at *
    go_wp2_with fail
    refine HL.out.mono ?_
    rintro _ w5 ⟨rfl, hb⟩
    have hb5 := HB5.out.trans (hb.mono HB5.out.size)
    have HB6 := Lib.hid hb5
    have HSw5 := Lib.hid (HSw4.out.below' hb)
    have HSx5 := Lib.hid (HSx4.out.below' hb)
    have HL := Lib.hid (fwith_any A cap l n (by omega) w5 (HI.out.below' hb5))
    clear hb hb5 HB5 HSw4 HSx4
    go_wp2_with fail
    refine HL.out.mono ?_
    rintro _ w6 ⟨Ay, cy, rfl, hSy, hb⟩
    have hb6 := HB6.out.trans (hb.mono HB6.out.size)
    have HB7 := Lib.hid hb6
    have HSw6 := Lib.hid (HSw5.out.below' hb)
    have HSx6 := Lib.hid (HSx5.out.below' hb)
    have HL := Lib.hid (rrs_yes' Ax cx Ay cy (l.map (wt n)) l.length (by simp) (by omega) w6 (HSx5.out.below' hb) hSy)
    clear hb hb6 HB6 HSw5 HSx5 hSy
    go_wp2_with fail
    refine HL.out.mono ?_
    rintro _ w7 ⟨rfl, hb⟩
    have hb7 := HB7.out.trans (hb.mono HB7.out.size)
    have HB8 := Lib.hid hb7
    have HSx7 := Lib.hid (HSx6.out.below' hb)
    have HL := Lib.hid (rrs_yes A cap Aw cw l (by omega) w7 (HI.out.below' hb7) (HSw6.out.below' hb))
    clear hb hb7 HB7 HSw6 HSx6
    go_wp2_with fail
    refine HL.out.mono ?_
    rintro _ w8 ⟨rfl, hb⟩
    have hb8 := HB8.out.trans (hb.mono HB8.out.size)
    have HB9 := Lib.hid hb8
    have HL := Lib.hid (least_any' Ax cx (l.map (wt n)) l.length (by simp) (by omega) w8 (HSx7.out.below' hb))
    clear hb hb8 HB8 HSx7
    by_cases h0 : l.length = 0
    · have d0 : ((l.length : Int) == 0) = true := by rw [h0]; rfl
      clear h0
      go_wp2_with fail
      go_ret
      exact ⟨rfl, HB9.out⟩
    · have d0 : ((l.length : Int) == 0) = false := beq_eq_false_iff_ne.2 (by omega)
      rw [lst_wt n l h0] at HL
      clear h0
      go_wp2_with fail
      refine HL.out.mono ?_
      rintro _ w9 ⟨rfl, hb⟩
      have HB10 := Lib.hid (HB9.out.trans (hb.mono HB9.out.size))
      clear hb HB9
      go_wp2_with fail
      go_ret
      exact ⟨rfl, HB10.out⟩
end Go.Proofs.Ytomhfjpjdgecpaa
