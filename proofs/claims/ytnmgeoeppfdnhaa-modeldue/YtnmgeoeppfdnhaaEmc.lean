/- The document's model: a slice of entries; derrickref13.Find and Less. -/
import Derived.Test.YtnmgeoeppfdnhaaBqd
import Derived.Test.YtnmgeoeppfdnhaaEmb
import Derived.BigQuiet
namespace Go.Proofs.Ytnmgeoeppfdnhaa.D
open Go.RowKit
set_option linter.unusedVariables false

/-- What is told of entries in memory. -/
def pm (l : List Ev) : List En := l.map Ev.e
theorem pm_len (l : List Ev) : (pm l).length = l.length := by simp [pm]
theorem pm_getD (l : List Ev) (j : Nat) (hj : j < l.length) : (pm l).getD j default = l[j].e := by simp [pm, hj]
theorem find_at {l : List Ev} {q : Qu} {j : Nat} (hj : j < l.length) (hq : l[j].e.q = q) (hno : ∀ x ∈ l.take j, x.e.q ≠ q) : findL (pm l) q = some j := by
  unfold findL pm
  rw [List.findIdx?_map, List.findIdx?_eq_some_iff_getElem]
  refine ⟨hj, by simp [hq], fun i hi => ?_⟩
  have := hno l[i] (List.mem_take_iff_getElem.2 ⟨i, by omega, rfl⟩)
  simpa using this
theorem find_no {l : List Ev} {q : Qu} (hno : ∀ x ∈ l, x.e.q ≠ q) : findL (pm l) q = none := by
  rw [findL_none, entL_none]
  intro e he
  obtain ⟨x, hx, rfl⟩ := List.mem_map.1 he
  exact hno x hx
theorem sl_ev {w : World} {A : Option Addr} {cap : Nat} {l : List Ev} (h : Sl evL w A cap l) (j : Nat) (hj : j < l.length) : ∃ b off, A = some ⟨b, off, Option.none⟩ ∧ b < w.heap.size ∧ w.rangeAt b (off + j * 7) (evL l[j]) := by
  obtain ⟨b, off, h1, h2, h3⟩ := h.at evL_len j hj
  exact ⟨b, off, h1, h2, fun i u hi => h3 i u hi⟩

set_option maxRecDepth 100000 in
set_option maxHeartbeats 1000000 in
theorem find_any (A : Option Addr) (cap : Nat) (l : List Ev) (hl : l.length ≤ 1000) (q : Qu) (w : World) (hI : Sl evL w A cap l) :
    Calls Try.prog 15 #[.slice A l.length cap, .agg #[.string q.n, .int .u16 (q.k : Nat), .int .u16 (q.c : Nat)]] w fun e w' => e = .returned (.int .i64 (atI (findL (pm l) q))) ∧ Below w.heap.size w w' := by
  have hb := (Below.refl w.heap.size w).alloc (Nat.le_refl _) (Obj.cells #[.string q.n, .int .u16 (q.k : Nat), .int .u16 (q.c : Nat)] 25)
  have HQ := Lib.hid (Blk.new w 25 #[.string q.n, .int .u16 (q.k : Nat), .int .u16 (q.c : Nat)])
  have HI := Lib.hid (hI.below' hb)
  have HB := Lib.hid hb
  obtain ⟨R, HR⟩ : ∃ R, Hid (findL (pm l) q = R) := ⟨_, Lib.hid rfl⟩
  rw [HR.out]
  clear hI hb
  go_enter Try.func15, Try.ntmps15
  go_upto_region 1 with (fail)
  generalize w.alloc (Obj.cells #[.string q.n, .int .u16 (q.k : Nat), .int .u16 (q.c : Nat)] 25) = w1 at *
  go_wp2_with fail
  go_loopw [5] (fun i wr => ∃ j : Nat, j ≤ l.length ∧ i = .int .i64 j ∧ Below w1.heap.size w1 wr ∧ ∀ x ∈ l.take j, x.e.q ≠ q) (fun i _ => l.length - (intOf i).toNat)
  case atStart => exact ⟨0, Nat.zero_le _, rfl, Below.refl _ _, by simp⟩
  case round =>
    obtain ⟨j, hj, rfl, hbel, hno⟩ := hrel
    have hq := HQ.out.eq (hbel.block _ HQ.out.lt)
    have q0 := hq.cell 0
    have q1 := hq.cell 1
    have q2 := hq.cell 2
    simp only [List.getElem?_toArray, List.getElem?_cons_zero, List.getElem?_cons_succ] at q0 q1 q2
    by_cases hlt : j < l.length
    · have d1 : decide ((j : Int) < (l.length : Nat)) = true := by simp; omega
      have s0 : (0 : Int) ≤ (j : Nat) := by omega
      have s1 : (j : Int) < (l.length : Nat) := by omega
      obtain ⟨b, off, rfl, _, hr⟩ := sl_ev (HI.out.below' hbel) j hlt
      obtain ⟨c0, c1, c2⟩ := q_at hr
      have HBW := Lib.hid hbel
      have HN := Lib.hid hno
      have ht : l.take (j + 1) = l.take j ++ [l[j]] := by rw [List.take_add_one, List.getElem?_eq_getElem hlt]; rfl
      have HT := Lib.hid ht
      have HA := Lib.hid (fun (h : l[j].e.q = q) => find_at hlt h hno)
      clear hbel hno hq ht hr
      generalize l[j] = x at *
      have qe := fun w => eq_qu x.e.q q w
      by_cases he : x.e.q = q
      · rw [decide_eq_true he] at qe
        have HE := Lib.hid (HR.out.symm.trans (HA.out he))
        clear he HA
        go_upto_region 4 with (fail)
        go_quiet (fail)
        go_wp2_with fail
        go_ret
        exact ⟨by rw [HE.out]; rfl, HB.out.trans ((bel_dn HBW.out _).mono HB.out.size)⟩
      · rw [decide_eq_false he] at qe
        have HE := Lib.hid he
        clear he
        go_upto_region 4 with (fail)
        go_quiet (fail)
        go_wp2_with fail
        go_roundw
        case rel => exact ⟨j + 1, hlt, by go_num, bel_dn HBW.out _, by rw [HT.out]; intro y hy; rcases List.mem_append.1 hy with h | h; (· exact HN.out y h); (· rw [List.mem_singleton.1 h]; exact HE.out)⟩
        case measure => simp [intOf]; omega
    · obtain rfl : j = l.length := by omega
      have d1 : decide ((l.length : Int) < (l.length : Nat)) = false := by simp
      have HBW := Lib.hid hbel
      have HN := Lib.hid (HR.out.symm.trans (find_no (by rw [List.take_length] at hno; exact hno)))
      clear hbel hno hq q0 q1 q2
      go_wp2_with fail
      go_ret
      exact ⟨by rw [HN.out]; rfl, HB.out.trans (HBW.out.mono HB.out.size)⟩

theorem two_q (w : World) (a b : Qu) : Blk ((w.alloc (Obj.cells (qf a).toArray 25)).alloc (Obj.cells (qf b).toArray 25)) w.heap.size 25 (qf a).toArray ∧ Blk ((w.alloc (Obj.cells (qf a).toArray 25)).alloc (Obj.cells (qf b).toArray 25)) (w.heap.size + 1) 25 (qf b).toArray ∧ Below w.heap.size w ((w.alloc (Obj.cells (qf a).toArray 25)).alloc (Obj.cells (qf b).toArray 25)) := by
  have b0 := Blk.new w 25 (qf a).toArray
  have l0 := (Below.refl w.heap.size w).alloc (Nat.le_refl _) (Obj.cells (qf a).toArray 25)
  have e0 : (w.alloc (Obj.cells (qf a).toArray 25)).heap.size = w.heap.size + 1 := by simp
  generalize w.alloc (Obj.cells (qf a).toArray 25) = a1 at *
  have b1 := Blk.new a1 25 (qf b).toArray
  have l1 := (Below.refl a1.heap.size a1).alloc (Nat.le_refl _) (Obj.cells (qf b).toArray 25)
  rw [e0] at b1
  exact ⟨b0.eq (l1.block _ (by omega)), b1, l0.trans (l1.mono (by omega))⟩
set_option maxRecDepth 100000 in
set_option maxHeartbeats 1000000 in
theorem less_any (a b : Qu) (w : World) :
    Calls Try.prog 22 #[.agg #[.string a.n, .int .u16 (a.k : Nat), .int .u16 (a.c : Nat)], .agg #[.string b.n, .int .u16 (b.k : Nat), .int .u16 (b.c : Nat)]] w fun e w' => e = .returned (.bool (lessQ a b)) ∧ Below w.heap.size w w' := by
  have h2 := two_q w a b
  unfold qf at h2
  obtain ⟨T3, hT3⟩ : ∃ T3 : World, (w.alloc (Obj.cells #[.string a.n, .int .u16 (a.k : Nat), .int .u16 (a.c : Nat)] 25)).alloc (Obj.cells #[.string b.n, .int .u16 (b.k : Nat), .int .u16 (b.c : Nat)] 25) = T3 := ⟨_, rfl⟩
  rw [hT3] at h2
  have HB := Lib.hid h2.2.2
  obtain ⟨x0, x1, x2⟩ := q_cells (q := a) h2.1
  obtain ⟨y0, y1, y2⟩ := q_cells (q := b) h2.2.1
  clear h2
  obtain ⟨R, HR⟩ : ∃ R, Hid (lessQ a b = R) := ⟨_, Lib.hid rfl⟩
  rw [HR.out]
  unfold lessQ at HR
  obtain ⟨an, ak, ac⟩ := a
  obtain ⟨bn, bk, bc⟩ := b
  simp only at x0 x1 x2 y0 y1 y2 HR hT3 ⊢
  by_cases h1 : an = bn
  · have e1 : (an.toList == bn.toList) = true := by rw [h1]; simp
    by_cases h2 : ak = bk
    · have e2 : ((ak : Int) == (bk : Nat)) = true := by rw [h2]; simp
      have H1 := Lib.hid h1
      have H2 := Lib.hid h2
      clear h1 h2
      go_enter Try.func22, Try.ntmps22
      go_upto_region 1 with (fail)
      try rw [hT3]
      clear hT3
      go_wp2_with fail
      go_ret
      exact ⟨by rw [← HR.out, if_pos H1.out, if_pos H2.out]; first | rfl | simp, HB.out⟩
    · have e2 : ((ak : Int) == (bk : Nat)) = false := by simp; omega
      have H1 := Lib.hid h1
      have H2 := Lib.hid h2
      clear h1 h2
      go_enter Try.func22, Try.ntmps22
      go_upto_region 1 with (fail)
      try rw [hT3]
      clear hT3
      go_wp2_with fail
      go_ret
      exact ⟨by rw [← HR.out, if_pos H1.out, if_neg H2.out]; first | rfl | simp, HB.out⟩
  · have e1 : (an.toList == bn.toList) = false := by
      rw [beq_eq_false_iff_ne]
      exact fun e => h1 (ba_inj e)
    go_enter Try.func22, Try.ntmps22
    go_upto_region 1 with (fail)
    try rw [hT3]
    clear hT3
    go_wp2_with fail
    go_ret
    exact ⟨by rw [← HR.out, if_neg h1]; first | rfl | simp, HB.out⟩
end Go.Proofs.Ytnmgeoeppfdnhaa.D
