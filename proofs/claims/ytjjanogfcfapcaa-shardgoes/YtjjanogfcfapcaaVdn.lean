/- derrickref12.Asks and Same at what is the same; derricklaw12.has. -/
import Derived.Test.YtjjanogfcfapcaaVde
import Derived.BigQuiet
namespace Go.Proofs.Ytjjanogfcfapcaa.D
open Go.RowKit
set_option linter.unusedVariables false

set_option maxRecDepth 100000 in
set_option maxHeartbeats 1000000 in
theorem asks_yes (A : Option Addr) (cap : Nat) (A2 : Option Addr) (cap2 : Nat) (l : List Qu) (hl : l.length ≤ 1000) (w : World) (hI : Sl qf w A cap l) (hJ : Sl qf w A2 cap2 l) :
    Calls Try.prog 13 #[.slice A l.length cap, .slice A2 l.length cap2] w fun e w' => e = .returned (.bool true) ∧ Below w.heap.size w w' := by
  have HI := Lib.hid hI
  have HJ := Lib.hid hJ
  clear hI hJ
  go_enter Try.func13, Try.ntmps13
  go_wp2_with fail
  go_loopw [5] (fun i wr => ∃ j : Nat, j ≤ l.length ∧ i = .int .i64 j ∧ Below w.heap.size w wr) (fun i _ => l.length - (intOf i).toNat)
  case atStart => exact ⟨0, Nat.zero_le _, rfl, Below.refl _ _⟩
  case round =>
    obtain ⟨j, hj, rfl, hbel⟩ := hrel
    by_cases hlt : j < l.length
    · have d1 : decide ((j : Int) < (l.length : Nat)) = true := by simp; omega
      have s0 : (0 : Int) ≤ (j : Nat) := by omega
      have s1 : (j : Int) < (l.length : Nat) := by omega
      obtain ⟨b, off, rfl, _, c0, c1, c2⟩ := (HI.out.below' hbel).ask3 j hlt
      obtain ⟨b', off', rfl, _, e0, e1, e2⟩ := (HJ.out.below' hbel).ask3 j hlt
      have HB := Lib.hid hbel
      clear hbel
      generalize l[j] = r at *
      go_upto_region 6 with (fail)
      go_quiet (fail)
      go_wp2_with fail
      go_roundw
      case rel => exact ⟨j + 1, hlt, by go_num, bel_dn HB.out _⟩
      case measure => simp [intOf]; omega
    · obtain rfl : j = l.length := by omega
      have d1 : decide ((l.length : Int) < (l.length : Nat)) = false := by simp
      have HB := Lib.hid hbel
      clear hbel
      go_wp2_with fail
      go_ret
      exact ⟨rfl, HB.out⟩

theorem rec5 {w : World} {A : Option Addr} {cap : Nat} {l : List Rc} (h : Sl rf w A cap l) (j : Nat) (hj : j < l.length) : ∃ b off, A = some ⟨b, off, Option.none⟩ ∧ b < w.heap.size ∧
    w.cell? ⟨b, off + j * 5, Option.none⟩ = some (.string l[j].n) ∧ w.cell? ⟨b, off + j * 5 + 1, Option.none⟩ = some (.int .u16 (l[j].k : Nat)) ∧ w.cell? ⟨b, off + j * 5 + 2, Option.none⟩ = some (.int .u16 (l[j].c : Nat)) ∧ w.cell? ⟨b, off + j * 5 + 3, Option.none⟩ = some (.int .u32 (l[j].t : Nat)) ∧ w.cell? ⟨b, off + j * 5 + 4, Option.none⟩ = some (.string l[j].d) := by
  obtain ⟨b, off, h1, h2, h3⟩ := h.at rf_len j hj
  exact ⟨b, off, h1, h2, h3 0 _ rfl, h3 1 _ rfl, h3 2 _ rfl, h3 3 _ rfl, h3 4 _ rfl⟩
theorem two_e (w : World) (cs cs2 : Array Value) : Blk ((w.alloc (Obj.cells cs 39)).alloc (Obj.cells cs2 39)) w.heap.size 39 cs ∧ Blk ((w.alloc (Obj.cells cs 39)).alloc (Obj.cells cs2 39)) (w.heap.size + 1) 39 cs2 ∧ Below w.heap.size w ((w.alloc (Obj.cells cs 39)).alloc (Obj.cells cs2 39)) := by
  have b0 := Blk.new w 39 cs
  have l0 := (Below.refl w.heap.size w).alloc (Nat.le_refl _) (Obj.cells cs 39)
  have e0 : (w.alloc (Obj.cells cs 39)).heap.size = w.heap.size + 1 := by simp
  generalize w.alloc (Obj.cells cs 39) = a1 at *
  have b1 := Blk.new a1 39 cs2
  have l1 := (Below.refl a1.heap.size a1).alloc (Nat.le_refl _) (Obj.cells cs2 39)
  rw [e0] at b1
  exact ⟨b0.eq (l1.block _ (by omega)), b1, l0.trans (l1.mono (by omega))⟩

set_option maxRecDepth 100000 in
set_option maxHeartbeats 2000000 in
theorem same_yes (e : En) (A : Option Addr) (cap : Nat) (A2 : Option Addr) (cap2 : Nat) (hl : e.l.length ≤ 3518437208883) (w : World) (hI : Sl rf w A cap e.l) (hJ : Sl rf w A2 cap2 e.l) :
    Calls Try.prog 23 #[.agg (evL ⟨e, A, cap⟩).toArray, .agg (evL ⟨e, A2, cap2⟩).toArray] w fun r w' => r = .returned (.bool true) ∧ Below w.heap.size w w' := by
  have h2 := two_e w (evL ⟨e, A, cap⟩).toArray (evL ⟨e, A2, cap2⟩).toArray
  unfold evL at h2 ⊢
  obtain ⟨T3, hT3⟩ : ∃ T3 : World, (w.alloc (Obj.cells #[.string e.q.n, .int .u16 (e.q.k : Nat), .int .u16 (e.q.c : Nat), .slice A e.l.length cap, .int .i64 e.rc, .int .i64 e.rk, .int .u64 (e.ex : Nat)] 39)).alloc (Obj.cells #[.string e.q.n, .int .u16 (e.q.k : Nat), .int .u16 (e.q.c : Nat), .slice A2 e.l.length cap2, .int .i64 e.rc, .int .i64 e.rk, .int .u64 (e.ex : Nat)] 39) = T3 := ⟨_, rfl⟩
  rw [hT3] at h2
  have HX := Lib.hid h2.1
  have HY := Lib.hid h2.2.1
  have HB := Lib.hid h2.2.2
  have HI := Lib.hid (hI.below' h2.2.2)
  have HJ := Lib.hid (hJ.below' h2.2.2)
  clear hI hJ h2
  generalize e.l = l at *
  go_enter Try.func23, Try.ntmps23
  go_upto_region 1 with (fail)
  try rw [hT3]
  clear hT3
  generalize T3 = w1 at *
  obtain ⟨x0, x1, x2, x3, x4, x5, x6⟩ := e_cells (x := ⟨⟨e.q, l, e.rc, e.rk, e.ex⟩, A, cap⟩) HX.out
  obtain ⟨y0, y1, y2, y3, y4, y5, y6⟩ := e_cells (x := ⟨⟨e.q, l, e.rc, e.rk, e.ex⟩, A2, cap2⟩) HY.out
  simp only at x0 x1 x2 x3 x4 x5 x6 y0 y1 y2 y3 y4 y5 y6
  go_wp2_with fail
  clear x0 x1 x2 x3 x4 x5 x6 y0 y1 y2 y3 y4 y5 y6
  go_loopw [5] (fun i wr => ∃ j : Nat, j ≤ l.length ∧ i = .int .i64 j ∧ Below w1.heap.size w1 wr) (fun i _ => l.length - (intOf i).toNat)
  case atStart => exact ⟨0, Nat.zero_le _, rfl, Below.refl _ _⟩
  case round =>
    obtain ⟨j, hj, rfl, hbel⟩ := hrel
    have x3 := (HX.out.eq (hbel.block _ HX.out.lt)).cell 3
    have y3 := (HY.out.eq (hbel.block _ HY.out.lt)).cell 3
    simp only [List.getElem?_toArray, List.getElem?_cons_zero, List.getElem?_cons_succ] at x3 y3
    by_cases hlt : j < l.length
    · have d1 : decide ((j : Int) < (l.length : Nat)) = true := by simp; omega
      have s0 : (0 : Int) ≤ (j : Nat) := by omega
      have s1 : (j : Int) < (l.length : Nat) := by omega
      obtain ⟨b, off, rfl, _, c0, c1, c2, c3, c4⟩ := rec5 (HI.out.below' hbel) j hlt
      obtain ⟨b', off', rfl, _, e0, e1, e2, e3, e4⟩ := rec5 (HJ.out.below' hbel) j hlt
      have HBW := Lib.hid hbel
      clear hbel
      generalize l[j] = r at *
      go_upto_region 6 with (fail)
      go_quiet (fail)
      go_wp2_with fail
      go_roundw
      case rel => exact ⟨j + 1, hlt, by go_num, bel_dn HBW.out _⟩
      case measure => simp [intOf]; omega
    · obtain rfl : j = l.length := by omega
      have d1 : decide ((l.length : Int) < (l.length : Nat)) = false := by simp
      have HBW := Lib.hid hbel
      clear hbel
      go_wp2_with fail
      go_ret
      exact ⟨rfl, HB.out.trans (HBW.out.mono HB.out.size)⟩

set_option maxRecDepth 100000 in
set_option maxHeartbeats 1000000 in
theorem has_q (A : Option Addr) (cap : Nat) (l : List Qu) (hl : l.length ≤ 1000) (q : Qu) (w : World) (hI : Sl qf w A cap l) :
    Calls Try.prog 20 #[.slice A l.length cap, .agg #[.string q.n, .int .u16 (q.k : Nat), .int .u16 (q.c : Nat)]] w fun e w' => e = .returned (.bool (decide (q ∈ l))) ∧ Below w.heap.size w w' := by
  have hb := (Below.refl w.heap.size w).alloc (Nat.le_refl _) (Obj.cells #[.string q.n, .int .u16 (q.k : Nat), .int .u16 (q.c : Nat)] 35)
  have HQ := Lib.hid (Blk.new w 35 #[.string q.n, .int .u16 (q.k : Nat), .int .u16 (q.c : Nat)])
  have HI := Lib.hid (hI.below' hb)
  have HB := Lib.hid hb
  obtain ⟨R, HR⟩ : ∃ R, Hid (decide (q ∈ l) = R) := ⟨_, Lib.hid rfl⟩
  rw [HR.out]
  clear hI hb
  go_enter Try.func20, Try.ntmps20
  go_upto_region 1 with (fail)
  generalize w.alloc (Obj.cells #[.string q.n, .int .u16 (q.k : Nat), .int .u16 (q.c : Nat)] 35) = w1 at *
  go_wp2_with fail
  go_loopw [5] (fun i wr => ∃ j : Nat, j ≤ l.length ∧ i = .int .i64 j ∧ Below w1.heap.size w1 wr ∧ q ∉ l.take j) (fun i _ => l.length - (intOf i).toNat)
  case atStart => exact ⟨0, Nat.zero_le _, rfl, Below.refl _ _, by simp⟩
  case round =>
    obtain ⟨j, hj, rfl, hbel, hno⟩ := hrel
    have hq := HQ.out.eq (hbel.block _ HQ.out.lt)
    have q0 := hq.cell 0
    have q1 := hq.cell 1
    have q2 := hq.cell 2
    simp only [List.getElem?_toArray, List.getElem?_cons_zero, List.getElem?_cons_succ] at q0 q1 q2
    by_cases hlt : j < l.length
    · have d1 : decide ((j : Int) < (l.length : Nat)) = true := by simp; omega
      have s0 : (0 : Int) ≤ (j : Nat) := by omega
      have s1 : (j : Int) < (l.length : Nat) := by omega
      obtain ⟨b, off, rfl, _, c0, c1, c2⟩ := (HI.out.below' hbel).ask3 j hlt
      have HBW := Lib.hid hbel
      have HN := Lib.hid hno
      have ht : l.take (j + 1) = l.take j ++ [l[j]] := by rw [List.take_add_one, List.getElem?_eq_getElem hlt]; rfl
      have HT := Lib.hid ht
      have HM := Lib.hid (List.getElem_mem hlt)
      clear hbel hno hq ht
      generalize l[j] = r at *
      have qe := fun w => eq_qu r q w
      by_cases he : r = q
      · simp only [he, decide_true] at qe
        subst he
        go_upto_region 4 with (fail)
        go_quiet (fail)
        go_wp2_with fail
        go_ret
        exact ⟨by rw [← HR.out]; simp [HM.out], HB.out.trans ((bel_dn HBW.out _).mono HB.out.size)⟩
      · simp only [he, decide_false] at qe
        have HE := Lib.hid he
        clear he
        go_upto_region 4 with (fail)
        go_quiet (fail)
        go_wp2_with fail
        go_roundw
        case rel => exact ⟨j + 1, hlt, by go_num, bel_dn HBW.out _, by rw [HT.out]; simp only [List.mem_append, List.mem_singleton, not_or]; exact ⟨HN.out, fun h => HE.out h.symm⟩⟩
        case measure => simp [intOf]; omega
    · obtain rfl : j = l.length := by omega
      have d1 : decide ((l.length : Int) < (l.length : Nat)) = false := by simp
      have HBW := Lib.hid hbel
      have HN := Lib.hid (show decide (q ∈ l) = false by rw [List.take_length] at hno; simp [hno])
      clear hbel hno hq q0 q1 q2
      go_wp2_with fail
      go_ret
      exact ⟨by rw [← HR.out, HN.out]; rfl, HB.out.trans (HBW.out.mono HB.out.size)⟩
end Go.Proofs.Ytjjanogfcfapcaa.D
