/- The contracts of derrickref12.at and Keys. -/
import Derived.Test.YtjjanogfcfapcaaVdd
import Derived.Laws.StructEq
namespace Go.Proofs.Ytjjanogfcfapcaa.D
open Go.RowKit
set_option linter.unusedVariables false

theorem bel_dn {n : Nat} {a b : World} (h : Below n a b) (k : Nat) : Below n a (b.drewN k) := ⟨h.os, h.tape, h.output, h.size, h.block⟩
theorem list_inj {a b : ByteArray} : a.toList = b.toList ↔ a = b := by
  constructor
  · intro h
    rw [ByteArray.toList_eq, ByteArray.toList_eq] at h
    obtain ⟨⟨x⟩⟩ := a
    obtain ⟨⟨y⟩⟩ := b
    simp only at h
    rw [h]
  · rintro rfl; rfl
theorem eq_qu (a b : Qu) (w : World) : (binOp .eql 35 (.agg #[.string a.n, .int .u16 (a.k : Nat), .int .u16 (a.c : Nat)]) (.agg #[.string b.n, .int .u16 (b.k : Nat), .int .u16 (b.c : Nat)])).run Try.prog w = .ok (.bool (decide (a = b))) w := by
  have hS : Try.prog.underlying 35 = some (.struct (Try.prog.fieldsOf 35)) := by kernel_rfl
  have hp : Try.prog.stoodInHeld 35 = false := by kernel_rfl
  rw [run_eql_struct, show (10000 : Nat) = 9999 + 1 from rfl, run_equalIn_agg w 9999 35 _ _ hS hp]
  simp only [Program.fieldsOf, Try.underlying35]
  go_simp
  obtain ⟨an, ak, ac⟩ := a
  obtain ⟨bn, bk, bc⟩ := b
  by_cases h1 : an = bn <;> by_cases h2 : ak = bk <;> by_cases h3 : ac = bc <;> simp [h1, h2, h3, list_inj] <;> omega
def atI (o : Option Nat) : Int := match o with | some k => k | none => -1
theorem slot_at {c : List (Ce Ev)} {q : Qu} {k : Nat} (hk : k < c.length) (hu : us c k = true) (hq : (c.getD k Z0).x.e.q = q) (hall : ∀ j, j < k → us c j = true → (c.getD j Z0).x.e.q ≠ q) : slotOf (pc c) q = some k := by
  unfold slotOf
  rw [List.findIdx?_eq_some_iff_getElem]
  have at_ : ∀ j (hj : j < (pc c).length), (pc c)[j] = (c.getD j Z0).map Ev.e := fun j hj => by rw [← pc_getD]; simp [hj]
  refine ⟨by rw [pc_len]; exact hk, ?_, fun j hj => ?_⟩
  · rw [at_]
    simp only [Ce.map, Bool.and_eq_true]
    exact ⟨hu, decide_eq_true hq⟩
  · rw [at_]
    simp only [Ce.map, Bool.and_eq_true]
    exact fun h => hall j hj h.1 (of_decide_eq_true h.2)
theorem slot_no {c : List (Ce Ev)} {q : Qu} (hall : ∀ j, j < c.length → us c j = true → (c.getD j Z0).x.e.q ≠ q) : slotOf (pc c) q = none := by
  rw [slot_none]
  intro k hk hu
  rw [pc_len] at hk
  rw [us_pc] at hu
  unfold qAt
  rw [pc_getD]
  exact hall k hk hu
/-- The cells of an entry's question. -/
theorem q_at {w : World} {g k : Nat} {x : Ev} (h : w.rangeAt g k (evL x)) : w.cell? ⟨g, k, none⟩ = some (.string x.e.q.n) ∧ w.cell? ⟨g, k + 1, none⟩ = some (.int .u16 (x.e.q.k : Nat)) ∧ w.cell? ⟨g, k + 2, none⟩ = some (.int .u16 (x.e.q.c : Nat)) := ⟨h 0 _ rfl, h 1 _ rfl, h 2 _ rfl⟩

set_option maxRecDepth 100000 in
set_option maxHeartbeats 2000000 in
theorem at_any (B : Nat) (q : Qu) (d : Dv) (M : Ms Ev) (hok : M.Ok) (w : World) (h : Dw B w d M.c) : Calls Try.prog 45 #[dV d M, .agg #[.string q.n, .int .u16 (q.k : Nat), .int .u16 (q.c : Nat)]] w fun e w' => e = .returned (.int .i64 (atI (slotOf (pc M.c) q))) ∧ Below w.heap.size w w' := by
  have hb0 := (Below.refl w.heap.size w).alloc (Nat.le_refl _) (Obj.cells #[.slice (some ⟨d.gx, 0, none⟩) M.c.length d.cx, .slice (some ⟨d.gu, 0, none⟩) M.c.length d.cu, .slice (some ⟨d.gt, 0, none⟩) M.c.length d.ct, .int .i64 (M.h : Nat)] 29)
  have hx0 := Blk.new w 29 #[.slice (some ⟨d.gx, 0, none⟩) M.c.length d.cx, .slice (some ⟨d.gu, 0, none⟩) M.c.length d.cu, .slice (some ⟨d.gt, 0, none⟩) M.c.length d.ct, .int .i64 (M.h : Nat)]
  have es : (w.alloc (Obj.cells #[.slice (some ⟨d.gx, 0, none⟩) M.c.length d.cx, .slice (some ⟨d.gu, 0, none⟩) M.c.length d.cu, .slice (some ⟨d.gt, 0, none⟩) M.c.length d.ct, .int .i64 (M.h : Nat)] 29)).heap.size = w.heap.size + 1 := by simp
  have hb1 := hb0.alloc hb0.size (Obj.cells #[.string q.n, .int .u16 (q.k : Nat), .int .u16 (q.c : Nat)] 35)
  have hx1 := hx0.eq (Below.heap_alloc _ (Obj.cells #[.string q.n, .int .u16 (q.k : Nat), .int .u16 (q.c : Nat)] 35) w.heap.size (by rw [es]; omega))
  have hq1 := Blk.new (w.alloc (Obj.cells #[.slice (some ⟨d.gx, 0, none⟩) M.c.length d.cx, .slice (some ⟨d.gu, 0, none⟩) M.c.length d.cu, .slice (some ⟨d.gt, 0, none⟩) M.c.length d.ct, .int .i64 (M.h : Nat)] 29)) 35 #[.string q.n, .int .u16 (q.k : Nat), .int .u16 (q.c : Nat)]
  rw [es] at hq1
  have HD := Lib.hid (h.below hb1)
  have HB := Lib.hid hb1
  have HX := Lib.hid hx1
  have HQ := Lib.hid hq1
  have h64 := hok.n64
  rw [dV_eq]
  clear hb0 hx0 es hb1 hx1 hq1 h hok
  go_enter Try.func45, Try.ntmps45
  go_upto_region 1 with (fail)
  generalize (w.alloc (Obj.cells #[.slice (some ⟨d.gx, 0, none⟩) M.c.length d.cx, .slice (some ⟨d.gu, 0, none⟩) M.c.length d.cu, .slice (some ⟨d.gt, 0, none⟩) M.c.length d.ct, .int .i64 (M.h : Nat)] 29)).alloc (Obj.cells #[.string q.n, .int .u16 (q.k : Nat), .int .u16 (q.c : Nat)] 35) = w1 at *
  go_wp2_with fail
  go_loopw [5] (fun v wr => ∃ j : Nat, j ≤ M.c.length ∧ v = .int .i64 j ∧ Below w1.heap.size w1 wr ∧ ∀ p, p < j → us M.c p = true → (M.c.getD p Z0).x.e.q ≠ q) (fun v _ => M.c.length - (intOf v).toNat)
  case atStart => exact ⟨0, Nat.zero_le _, rfl, Below.refl _ _, fun p hp => absurd hp (by omega)⟩
  case round =>
    obtain ⟨j, hj, rfl, hbel, hall⟩ := hrel
    have hX := HX.out.eq (hbel.block _ HX.out.lt)
    have hQ := HQ.out.eq (hbel.block _ HQ.out.lt)
    have hD := HD.out.below hbel
    have b0 := hX.cell 0
    have b1 := hX.cell 1
    have q0 := hQ.cell 0
    have q1 := hQ.cell 1
    have q2 := hQ.cell 2
    simp only [List.getElem?_toArray, List.getElem?_cons_zero, List.getElem?_cons_succ] at b0 b1 q0 q1 q2
    have HBW := Lib.hid hbel
    by_cases hlt : j < M.c.length
    · have d1 : decide ((j : Int) < M.c.length) = true := by simp; omega
      have e1 := hD.e1 hlt
      have s0 : (0 : Int) ≤ (j : Nat) := by omega
      have s1 : (j : Int) < (M.c.length : Nat) := by omega
      obtain ⟨r0, r1, r2⟩ := q_at (hD.e0 hlt)
      have HA := Lib.hid hall
      clear hX hQ hD hbel hall
      cases hu : us M.c j with
      | false =>
        rw [hu] at e1
        have HU := Lib.hid hu
        clear hu r0 r1 r2 q0 q1 q2
        go_upto_region 4 with (fail)
        go_quiet (fail)
        go_wp2_with fail
        go_roundw
        case rel =>
          refine ⟨j + 1, hlt, by go_num, (bel_dn HBW.out _), fun p hp hup => ?_⟩
          rcases Nat.lt_or_ge p j with h1 | h1
          · exact HA.out p h1 hup
          · obtain rfl : p = j := by omega
            rw [HU.out] at hup; cases hup
        case measure => simp [intOf]; omega
      | true =>
        rw [hu] at e1
        have HU := Lib.hid hu
        clear hu
        obtain ⟨r, hr⟩ : ∃ r, (M.c.getD j Z0).x.e.q = r := ⟨_, rfl⟩
        rw [hr] at r0 r1 r2
        have HR := Lib.hid hr
        have qe := fun w => eq_qu r q w
        clear hr
        by_cases he : r = q
        · simp only [he, decide_true] at qe
          subst he
          have hs := slot_at hlt HU.out HR.out HA.out
          have HS := Lib.hid hs
          clear hs
          go_upto_region 4 with (fail)
          go_quiet (fail)
          go_wp2_with fail
          go_ret
          exact ⟨by rw [HS.out]; rfl, HB.out.trans ((bel_dn HBW.out _).mono HB.out.size)⟩
        · simp only [he, decide_false] at qe
          have HE := Lib.hid he
          clear he
          go_upto_region 4 with (fail)
          go_quiet (fail)
          go_wp2_with fail
          go_roundw
          case rel =>
            refine ⟨j + 1, hlt, by go_num, (bel_dn HBW.out _), fun p hp hup => ?_⟩
            rcases Nat.lt_or_ge p j with h1 | h1
            · exact HA.out p h1 hup
            · obtain rfl : p = j := by omega
              rw [HR.out]; exact HE.out
          case measure => simp [intOf]; omega
    · obtain rfl : j = M.c.length := by omega
      have d1 : decide ((M.c.length : Int) < M.c.length) = false := by simp
      have hs := slot_no hall
      have HS := Lib.hid hs
      clear hs hX hQ hD hbel hall q0 q1 q2
      go_wp2_with fail
      go_ret
      exact ⟨by rw [HS.out]; rfl, HB.out.trans (HBW.out.mono HB.out.size)⟩
end Go.Proofs.Ytjjanogfcfapcaa.D
