/- What the document's deeds make of the slots; the contracts of derrickref12.Evict and derrickref08.Beats. -/
import Derived.Test.YtjjanogfcfapcaaVdh
namespace Go.Proofs.Ytjjanogfcfapcaa.D
open Go.RowKit
set_option linter.unusedVariables false

def evE (M : Ms Ev) (q : Qu) : Ms Ev × Bool := match slotOf (pc M.c) q with | some k => (⟨M.c.set k Z0, M.h⟩, true) | none => (M, false)
def lookE (M : Ms Ev) (q : Qu) (now : Nat) : Ms Ev × Ev × Bool :=
  match slotOf (pc M.c) q with
  | some k => if now < (M.c.getD k Z0).x.e.ex then (⟨M.c.set k ⟨(M.c.getD k Z0).x, true, true⟩, M.h⟩, (M.c.getD k Z0).x, true) else (M, default, false)
  | none => (M, default, false)
/-- What goes from a full shard. -/
def roomE (M : Ms Ev) (l : List W.Ti) (now : Nat) : Ms Ev × List Qu :=
  if (W.dueL l now).isEmpty then (⟨(vicM M).1.c.set ((vicM M).2.getD 0) Z0, (vicM M).1.h⟩, [(M.c.getD ((vicM M).2.getD 0) Z0).x.e.q])
  else (⟨frA M.c (W.dueL l now), M.h⟩, goneQ (pc M.c) (W.dueL l now))
def insE (M : Ms Ev) (l : List W.Ti) (x : Ev) (now : Nat) : Ms Ev × List Qu × Int :=
  if x.e.ex ≤ now then (M, [], 4)
  else match slotOf (pc M.c) x.e.q with
    | some k => if btE (M.c.getD k Z0).x.e x.e now then (⟨M.c.set k ⟨x, true, true⟩, M.h⟩, [], 0) else (M, [], 7)
    | none => if (keysOf (pc M.c)).length < M.c.length then ((putM M x).1, [], 0) else ((putM (roomE M l now).1 x).1, (roomE M l now).2, 0)
theorem slot_lt {c : List (Ce En)} {q : Qu} {k : Nat} (h : slotOf c q = some k) : k < c.length ∧ us c k = true ∧ qAt c k = q := by
  unfold slotOf at h
  rw [List.findIdx?_eq_some_iff_getElem] at h
  obtain ⟨hk, h1, _⟩ := h
  simp only [Bool.and_eq_true] at h1
  have e : c.getD k Z0 = c[k] := by simp [hk]
  exact ⟨hk, by unfold us; rw [e]; exact h1.1, by unfold qAt; rw [e]; exact of_decide_eq_true h1.2⟩
theorem slot_ltE {c : List (Ce Ev)} {q : Qu} {k : Nat} (h : slotOf (pc c) q = some k) : k < c.length ∧ us c k = true := by
  obtain ⟨h1, h2, _⟩ := slot_lt h
  rw [pc_len] at h1
  rw [us_pc] at h2
  exact ⟨h1, h2⟩
theorem bx_mid {B : Nat} {w : World} {d : Dv} {M : Ms Ev} (h : Dw B w d M.c) (cs : Array Value) (t : TypeId) :
    Bx B w.heap.size (w.heap.size + 2) w (((w.alloc (Obj.cells #[.slice (some ⟨d.gx, 0, none⟩) M.c.length d.cx, .slice (some ⟨d.gu, 0, none⟩) M.c.length d.cu, .slice (some ⟨d.gt, 0, none⟩) M.c.length d.ct, .int .i64 (M.h : Nat)] 29)).alloc (Obj.cells cs t)).alloc (Obj.cells zD 29)) d M ∧ Blk (((w.alloc (Obj.cells #[.slice (some ⟨d.gx, 0, none⟩) M.c.length d.cx, .slice (some ⟨d.gu, 0, none⟩) M.c.length d.cu, .slice (some ⟨d.gt, 0, none⟩) M.c.length d.ct, .int .i64 (M.h : Nat)] 29)).alloc (Obj.cells cs t)).alloc (Obj.cells zD 29)) (w.heap.size + 1) t cs := by
  have b0 := Blk.new w 29 #[.slice (some ⟨d.gx, 0, none⟩) M.c.length d.cx, .slice (some ⟨d.gu, 0, none⟩) M.c.length d.cu, .slice (some ⟨d.gt, 0, none⟩) M.c.length d.ct, .int .i64 (M.h : Nat)]
  have l0 := (Below.refl w.heap.size w).alloc (Nat.le_refl _) (Obj.cells #[.slice (some ⟨d.gx, 0, none⟩) M.c.length d.cx, .slice (some ⟨d.gu, 0, none⟩) M.c.length d.cu, .slice (some ⟨d.gt, 0, none⟩) M.c.length d.ct, .int .i64 (M.h : Nat)] 29)
  have e0 : (w.alloc (Obj.cells #[.slice (some ⟨d.gx, 0, none⟩) M.c.length d.cx, .slice (some ⟨d.gu, 0, none⟩) M.c.length d.cu, .slice (some ⟨d.gt, 0, none⟩) M.c.length d.ct, .int .i64 (M.h : Nat)] 29)).heap.size = w.heap.size + 1 := by simp
  generalize w.alloc (Obj.cells #[.slice (some ⟨d.gx, 0, none⟩) M.c.length d.cx, .slice (some ⟨d.gu, 0, none⟩) M.c.length d.cu, .slice (some ⟨d.gt, 0, none⟩) M.c.length d.ct, .int .i64 (M.h : Nat)] 29) = a1 at *
  have b1 := Blk.new a1 t cs
  have l1 := (Below.refl a1.heap.size a1).alloc (Nat.le_refl _) (Obj.cells cs t)
  have e1 : (a1.alloc (Obj.cells cs t)).heap.size = a1.heap.size + 1 := by simp
  generalize a1.alloc (Obj.cells cs t) = a2 at *
  have b2 := Blk.new a2 29 zD
  have l2 := (Below.refl a2.heap.size a2).alloc (Nat.le_refl _) (Obj.cells zD 29)
  generalize a2.alloc (Obj.cells zD 29) = a3 at *
  have l02 := l0.trans (l1.mono (by omega))
  have l03 := l02.trans (l2.mono (by omega))
  have b01 := b0.eq (l1.block _ (by omega))
  rw [e0] at b1
  rw [e1, e0] at b2
  exact ⟨⟨b01.eq (l2.block _ (by omega)), b2, by omega, Nat.le_refl _, l03, h.below l03⟩, b1.eq (l2.block _ (by omega))⟩

set_option maxRecDepth 100000 in
set_option maxHeartbeats 2000000 in
theorem revict_any (B : Nat) (q : Qu) (d : Dv) (M : Ms Ev) (hok : M.Ok) (w : World) (h : Dw B w d M.c) (hB : B ≤ w.heap.size) : Calls Try.prog 30 #[dV d M, .agg #[.string q.n, .int .u16 (q.k : Nat), .int .u16 (q.c : Nat)]] w fun e w' => ∃ d' : Dv, e = .returned (.tuple #[dV d' (evE M q).1, .bool (evE M q).2]) ∧ Dw B w' d' (evE M q).1.c ∧ Below w.heap.size w w' := by
  have h3 := bx_mid h #[.string q.n, .int .u16 (q.k : Nat), .int .u16 (q.c : Nat)] 35
  obtain ⟨T3, hT3⟩ : ∃ T3 : World, ((w.alloc (Obj.cells #[.slice (some ⟨d.gx, 0, none⟩) M.c.length d.cx, .slice (some ⟨d.gu, 0, none⟩) M.c.length d.cu, .slice (some ⟨d.gt, 0, none⟩) M.c.length d.ct, .int .i64 (M.h : Nat)] 29)).alloc (Obj.cells #[.string q.n, .int .u16 (q.k : Nat), .int .u16 (q.c : Nat)] 35)).alloc (Obj.cells zD 29) = T3 := ⟨_, rfl⟩
  rw [hT3] at h3
  have HT := Lib.hid h3.1
  have HQ := Lib.hid h3.2
  have HC := Lib.hid (at_any B q d M hok T3 h3.1.D)
  have HBB := Lib.hid hB
  rw [dV_eq] at HC ⊢
  unfold zD at hT3
  unfold evE
  cases hs : slotOf (pc M.c) q with
  | none =>
    rw [hs] at HC
    simp only [atI] at HC ⊢
    have HV := Lib.hid (fun d' => dV_of d' (M := M) (N := M) rfl rfl)
    clear h hok hB h3 hs
    go_enter Try.func30, Try.ntmps30
    go_upto_region 1 with (fail)
    try rw [hT3]
    clear hT3
    generalize T3 = w1 at *
    have q0 := HQ.out.cell 0
    have q1 := HQ.out.cell 1
    have q2 := HQ.out.cell 2
    simp only [List.getElem?_toArray, List.getElem?_cons_zero, List.getElem?_cons_succ] at q0 q1 q2
    go_wp2_with (first | (refine wpList_load_row rfl 29 _ rfl w.heap.size rfl 29 _ _ _ HX3.out.bx Try.underlying29 rfl infoD ?_) | (refine wpList_load_row rfl 29 _ rfl w.heap.size rfl 29 _ _ _ HT.out.bx Try.underlying29 rfl infoD ?_) | (refine wpList_store_row rfl 29 _ _ rfl (w.heap.size + 2) _ rfl rfl 29 _ HX3.out.br infoD rfl (all4 _ _ _ _ _ _ _ _) ?_) | (go_at_call 45; with_reducible (refine HC.out.mono ?_); rintro e w3 ⟨rfl, hb3⟩; have HX3 := Lib.hid (HT.out.low hb3); clear hb3))
    have HR := HX3.out.done HX3.out.D (Below.refl _ _) #[.slice (some ⟨d.gx, 0, none⟩) M.c.length d.cx, .slice (some ⟨d.gu, 0, none⟩) M.c.length d.cu, .slice (some ⟨d.gt, 0, none⟩) M.c.length d.ct, .int .i64 (M.h : Nat)]
    refine ret_d2 rfl rfl rfl rfl (setRow_heap _ _ _ _ _ _ HX3.out.br) ⟨d, ?_, HR.2.1, HR.2.2⟩
    rw [← HV.out]
    rfl
  | some k =>
    obtain ⟨hk, hu⟩ := slot_ltE hs
    rw [hs] at HC
    simp only [atI] at HC ⊢
    have HW := Lib.hid (fun W hD hBW => with_zero B k d M hok hk W hD hBW)
    have HV := Lib.hid (fun d' => dV_of d' (M := M) (N := ⟨M.c.set k Z0, M.h⟩) List.length_set rfl)
    have g0 : decide ((k : Int) < 0) = false := by simp
    have g1 : (0 : Int) ≤ (k : Nat) := by omega
    clear h hok hB h3 hs hu
    go_enter Try.func30, Try.ntmps30
    go_upto_region 1 with (fail)
    try rw [hT3]
    clear hT3
    generalize T3 = w1 at *
    have q0 := HQ.out.cell 0
    have q1 := HQ.out.cell 1
    have q2 := HQ.out.cell 2
    simp only [List.getElem?_toArray, List.getElem?_cons_zero, List.getElem?_cons_succ] at q0 q1 q2
    go_wp2_with (first | (refine wpList_load_row rfl 29 _ rfl w.heap.size rfl 29 _ _ _ HX3.out.bx Try.underlying29 rfl infoD ?_) | (refine wpList_load_row rfl 29 _ rfl w.heap.size rfl 29 _ _ _ HT.out.bx Try.underlying29 rfl infoD ?_) | (refine wpList_store_row rfl 29 _ _ rfl (w.heap.size + 2) _ rfl rfl 29 _ HR5.out.1 infoD rfl (all4 _ _ _ _ _ _ _ _) ?_) | (go_at_call 45; with_reducible (refine HC.out.mono ?_); rintro e w3 ⟨rfl, hb3⟩; have HX3 := Lib.hid (HT.out.low hb3); clear hb3) | (go_at_call 47; with_reducible (refine (HW.out _ HX3.out.D (Nat.le_trans HBB.out HX3.out.b.size)).mono ?_); rintro e w5 ⟨d', rfl, hd5, hb5⟩; have HR5 := Lib.hid (HX3.out.done hd5 hb5 #[.slice (some ⟨d'.gx, 0, none⟩) M.c.length d'.cx, .slice (some ⟨d'.gu, 0, none⟩) M.c.length d'.cu, .slice (some ⟨d'.gt, 0, none⟩) M.c.length d'.ct, .int .i64 (M.h : Nat)]); clear hd5 hb5))
    refine ret_d2 rfl rfl rfl rfl (setRow_heap _ _ _ _ _ _ HR5.out.1) ⟨d', ?_, HR5.out.2.1, HR5.out.2.2⟩
    rw [← HV.out]
    rfl

set_option maxHeartbeats 1000000 in
theorem rbeats_any (x y : Ev) (now : Nat) (w : World) :
    Calls Try.prog 46 #[.agg (evL x).toArray, .agg (evL y).toArray, .int .u64 (now : Nat)] w fun e w' => e = .returned (.bool (btE x.e y.e now)) ∧ Below w.heap.size w w' := by
  have HB := Lib.hid (fun o o' => ((Below.refl w.heap.size w).alloc (Nat.le_refl _) o).alloc (by simp) o')
  unfold evL
  by_cases h : now < x.e.ex
  · have HR := Lib.hid (show btE x.e y.e now = decide (x.e.rk ≤ y.e.rk) by unfold btE; simp [h])
    have hn : ¬ x.e.ex ≤ now := by omega
    go_enter Try.func46, Try.ntmps46
    go_wp2_with fail
    go_ret
    exact ⟨by rw [HR.out]; rfl, HB.out _ _⟩
  · have HR := Lib.hid (show btE x.e y.e now = true by unfold btE; simp [h])
    have hn : x.e.ex ≤ now := by omega
    clear h
    go_enter Try.func46, Try.ntmps46
    go_wp2_with fail
    go_ret
    exact ⟨by rw [HR.out]; rfl, HB.out _ _⟩
end Go.Proofs.Ytjjanogfcfapcaa.D
