/- The document's model: derrickref13.Drop. -/
import Derived.Test.YtnmgeoeppfdnhaaEmd
namespace Go.Proofs.Ytnmgeoeppfdnhaa.D
open Go.RowKit
set_option linter.unusedVariables false

theorem ne_qu (a b : Qu) (w : World) : (binOp .neq 25 (.agg #[.string a.n, .int .u16 (a.k : Nat), .int .u16 (a.c : Nat)]) (.agg #[.string b.n, .int .u16 (b.k : Nat), .int .u16 (b.c : Nat)])).run Try.prog w = .ok (.bool (!decide (a = b))) w := by
  have h := eq_qu a b w
  rw [run_eql_struct] at h
  rw [run_neq_struct]
  cases hr : ((Op.equalIn 10000 25 (.agg #[.string a.n, .int .u16 (a.k : Nat), .int .u16 (a.c : Nat)]) (.agg #[.string b.n, .int .u16 (b.k : Nat), .int .u16 (b.c : Nat)])).run Try.prog w) with
  | ok c w' =>
    rw [hr] at h
    simp only [Result.andThen, Result.ok.injEq, Value.bool.injEq] at h ⊢
    exact ⟨by rw [h.1], h.2⟩
  | _ => rw [hr] at h; simp [Result.andThen] at h
theorem newE (W : World) (x : Ev) : ∀ j u, (evL x)[j]? = some u → (W.alloc (.cells #[.string x.e.q.n, .int .u16 (x.e.q.k : Nat), .int .u16 (x.e.q.c : Nat), .slice x.A x.e.l.length x.cap, .int .i64 x.e.rc, .int .i64 x.e.rk, .int .u64 (x.e.ex : Nat)] 35)).cell? ((⟨W.heap.size, 0, none⟩ : Addr).add j) = some u := fun j u hj => by
  have h := heap_alloc_new W (Obj.cells (evL x).toArray 35)
  unfold evL at hj h
  rw [Addr.add_lit, Nat.zero_add, blk_cell h j, ← hj]
  simp
theorem nw_le1 {n m : Nat} {A : Option Addr} (h : Nw n A) (hm : m ≤ n) : Nw m A := fun b off e => Nat.le_trans hm (h b off e)
/-- The seven cells of an entry in a row. -/
theorem ev_cells {w : World} {g k : Nat} {x : Ev} (h : w.rangeAt g k (evL x)) : w.cell? ⟨g, k, none⟩ = some (.string x.e.q.n) ∧ w.cell? ⟨g, k + 1, none⟩ = some (.int .u16 (x.e.q.k : Nat)) ∧ w.cell? ⟨g, k + 2, none⟩ = some (.int .u16 (x.e.q.c : Nat)) ∧ w.cell? ⟨g, k + 3, none⟩ = some (.slice x.A x.e.l.length x.cap) ∧ w.cell? ⟨g, k + 4, none⟩ = some (.int .i64 x.e.rc) ∧ w.cell? ⟨g, k + 5, none⟩ = some (.int .i64 x.e.rk) ∧ w.cell? ⟨g, k + 6, none⟩ = some (.int .u64 (x.e.ex : Nat)) := ⟨h 0 _ rfl, h 1 _ rfl, h 2 _ rfl, h 3 _ rfl, h 4 _ rfl, h 5 _ rfl, h 6 _ rfl⟩
theorem evL_each (x : Ev) : ∀ u ∈ evL x, u.oneCell' = true := fun u hu => by
  simp only [evL, List.mem_cons, List.not_mem_nil, or_false] at hu
  rcases hu with rfl | rfl | rfl | rfl | rfl | rfl | rfl <;> rfl
/-- What is left when a question is dropped. -/
def dropV (l : List Ev) (q : Qu) : List Ev := l.filter fun x => !decide (x.e.q = q)
theorem dropV_pure (l : List Ev) (q : Qu) : pm (dropV l q) = dropL (pm l) q := by
  unfold dropV dropL pm
  rw [List.filter_map]
  rfl
theorem dropV_succ (l : List Ev) (q : Qu) (j : Nat) (hj : j < l.length) : dropV (l.take (j + 1)) q = if l[j].e.q = q then dropV (l.take j) q else dropV (l.take j) q ++ [l[j]] := by
  unfold dropV
  rw [List.take_add_one, List.getElem?_eq_getElem hj, List.filter_append]
  simp only [Option.toList, List.filter_cons, List.filter_nil]
  by_cases h : l[j].e.q = q
  · rw [if_pos h]; simp [h]
  · rw [if_neg h]; simp [h]
theorem dropV_le (l : List Ev) (q : Qu) (j : Nat) : (dropV (l.take j) q).length ≤ l.length := Nat.le_trans (List.length_filter_le _ _) (by rw [List.length_take]; omega)

set_option maxRecDepth 100000 in
set_option maxHeartbeats 2000000 in
theorem rdrop_any (A : Option Addr) (cap : Nat) (l : List Ev) (hl : l.length ≤ 1000) (q : Qu) (w : World) (hI : Sl evL w A cap l) :
    Calls Try.prog 25 #[.slice A l.length cap, .agg #[.string q.n, .int .u16 (q.k : Nat), .int .u16 (q.c : Nat)]] w fun e w' => ∃ A' cap', e = .returned (.tuple #[.slice A' (dropV l q).length cap', .bool (decide ((dropV l q).length < l.length))]) ∧ Sl evL w' A' cap' (dropV l q) ∧ Nw w.heap.size A' ∧ Below w.heap.size w w' := by
  obtain ⟨i0, hi, hz0, hz1, hz2⟩ := el_of elT
  have hb := (Below.refl w.heap.size w).alloc (Nat.le_refl _) (Obj.cells #[.string q.n, .int .u16 (q.k : Nat), .int .u16 (q.c : Nat)] 25)
  have HQ := Lib.hid (Blk.new w 25 #[.string q.n, .int .u16 (q.k : Nat), .int .u16 (q.c : Nat)])
  have HI := Lib.hid (hI.below' hb)
  have HB := Lib.hid hb
  clear hI hb
  go_enter Try.func25, Try.ntmps25
  go_upto_region 1 with (fail)
  generalize w.alloc (Obj.cells #[.string q.n, .int .u16 (q.k : Nat), .int .u16 (q.c : Nat)] 25) = w1 at *
  go_wp2_with fail
  go_loopw [6, 7] (fun v x wr => ∃ j : Nat, j ≤ l.length ∧ x = .int .i64 j ∧ wr.ownsRow w1.heap.size 35 7 v (dropV (l.take j) q).length ((dropV (l.take j) q).flatMap evL) ∧ Below w1.heap.size w1 wr) (fun _ x _ => l.length - (intOf x).toNat)
  case atStart => exact ⟨0, Nat.zero_le _, rfl, World.ownsRow_nil _ _ _ _, Below.refl _ _⟩
  case round =>
    obtain ⟨j, hj, rfl, hown, hbel⟩ := hrel
    obtain ⟨Av, cv, rfl⟩ := ownR_form hown
    have hq := HQ.out.eq (hbel.block _ HQ.out.lt)
    have q0 := hq.cell 0
    have q1 := hq.cell 1
    have q2 := hq.cell 2
    simp only [List.getElem?_toArray, List.getElem?_cons_zero, List.getElem?_cons_succ] at q0 q1 q2
    by_cases hlt : j < l.length
    · have d1 : decide ((j : Int) < (l.length : Nat)) = true := by simp; omega
      have s0 : (0 : Int) ≤ (j : Nat) := by omega
      have s1 : (j : Int) < (l.length : Nat) := by omega
      obtain ⟨b, off, rfl, _, hr⟩ := sl_ev (HI.out.below' hbel) j hlt
      obtain ⟨c0, c1, c2⟩ := q_at hr
      have hs := dropV_succ l q j hlt
      have hle := dropV_le l q j
      have HBW := Lib.hid hbel
      have HRA := Lib.hid hr
      generalize l[j] = x at *
      have qe := fun w => ne_qu x.e.q q w
      by_cases he : x.e.q = q
      · simp only [decide_eq_true he, Bool.not_true] at qe
        have HF := Lib.hid (show wr.ownsRow w1.heap.size 35 7 (.slice Av (dropV (l.take j) q).length cv) (dropV (l.take (j + 1)) q).length ((dropV (l.take (j + 1)) q).flatMap evL) by rw [hs, if_pos he]; exact hown)
        clear he hs hown hq hr hbel
        go_upto_region 5 with (fail)
        go_quiet (fail)
        go_wp2_with fail
        go_roundw
        case rel => exact ⟨j + 1, hlt, by go_num, HF.out, bel_dn HBW.out _⟩
        case measure => simp [intOf]; omega
      · simp only [decide_eq_false he, Bool.not_false] at qe
        rw [if_neg he] at hs
        have HK := Lib.hid hs
        have HO := Lib.hid hown
        clear he hs hown hq hr hbel
        generalize dropV (l.take j) q = ks at *
        go_upto_region 5 with (fail)
        go_quiet (fail)
        have HO4 := Lib.hid (ownR_below HO.out (below_drewN wr nq))
        have HB4 := Lib.hid (bel_dn HBW.out nq)
        have HR4 := Lib.hid (show (wr.drewN nq).rangeAt b (off + j * 7) (evL x) from HRA.out)
        clear HO HBW HRA qe c0 c1 c2 q0 q1 q2
        generalize wr.drewN nq = w4 at *
        have HO5 := Lib.hid (HO4.out.alloc (Obj.cells #[.string x.e.q.n, .int .u16 (x.e.q.k : Nat), .int .u16 (x.e.q.c : Nat), .slice x.A x.e.l.length x.cap, .int .i64 x.e.rc, .int .i64 x.e.rk, .int .u64 (x.e.ex : Nat)] 35))
        have HB5 := Lib.hid (HB4.out.alloc HB4.out.size (Obj.cells #[.string x.e.q.n, .int .u16 (x.e.q.k : Nat), .int .u16 (x.e.q.c : Nat), .slice x.A x.e.l.length x.cap, .int .i64 x.e.rc, .int .i64 x.e.rk, .int .u64 (x.e.ex : Nat)] 35))
        obtain ⟨c0, c1, c2, c3, c4, c5, c6⟩ := ev_cells HR4.out
        go_wp2_with ((at_builtin; (refine wpList_append_own _ rfl _ _ 29 rfl w1.heap.size 35 i0 (evV default) 7 72 Try.underlying29 hi hz0 hz1 hz2 rfl (by decide) _ _ _ rfl HO5.out ⟨w4.heap.size, 0, none⟩ 1 1 (evL x) rfl rfl (newE w4 x) ?q3 ?q4 ?q5 HB5.out.size ?_)))
        case q3 => exact evL_each x
        case q4 => unfold maxLen; omega
        case q5 => omega
        intro v' w6 hown2 hgrow hnil
        have hb6 := HB5.out.grown hgrow HB5.out.size (fun k hk => (HO5.out.lt k hk).1)
        rw [show ks.length + 1 = (dropV (l.take (j + 1)) q).length by rw [HK.out]; simp, show ks.flatMap evL ++ evL x = (dropV (l.take (j + 1)) q).flatMap evL by rw [HK.out, List.flatMap_append]; simp] at hown2
        have HF := Lib.hid (And.intro hown2 hb6)
        clear hown2 hgrow hnil hb6
        go_wp2_with fail
        go_roundw
        case rel => exact ⟨j + 1, hlt, by go_num, HF.out.1, HF.out.2⟩
        case measure => simp [intOf]; omega
    · obtain rfl : j = l.length := by omega
      have d1 : decide ((l.length : Int) < (l.length : Nat)) = false := by simp
      rw [List.take_length] at hown
      have HF := Lib.hid (And.intro (Sl.owned evL_len hown) hbel)
      clear hown hbel hq q0 q1 q2
      go_wp2_with fail
      go_ret2
      refine ⟨Av, cv, ?_, HF.out.1.1, nw_le1 HF.out.1.2 HB.out.size, HB.out.trans (HF.out.2.mono HB.out.size)⟩
      rw [List.take_length]
      first | rfl | simp
end Go.Proofs.Ytnmgeoeppfdnhaa.D
