/- The contracts of derrickref12.Keys and put. -/
import Derived.Test.YtjjanogfcfapcaaVde
import Derived.StillTailTactics
namespace Go.Proofs.Ytjjanogfcfapcaa.D
open Go.RowKit
set_option linter.unusedVariables false

/-- The keys of the first slots. -/
def kJ (c : List (Ce Ev)) (j : Nat) : List Qu := keysOf (pc (c.take j))
theorem pc_take (c : List (Ce Ev)) (j : Nat) : pc (c.take j) = (pc c).take j := by unfold pc; rw [List.map_take]
theorem kJ_zero (c : List (Ce Ev)) : kJ c 0 = [] := rfl
theorem kJ_all (c : List (Ce Ev)) : kJ c c.length = keysOf (pc c) := by unfold kJ; rw [List.take_length]
theorem kJ_succ (c : List (Ce Ev)) (j : Nat) (hj : j < c.length) : kJ c (j + 1) = if us c j then kJ c j ++ [(c.getD j Z0).x.e.q] else kJ c j := by
  have e : c.getD j Z0 = c[j] := by simp [hj]
  unfold kJ keysOf us
  rw [List.take_add_one, List.getElem?_eq_getElem hj, e]
  simp only [Option.toList, pc, List.map_append, List.map_cons, List.map_nil, List.filter_append, List.filter_cons, List.filter_nil, Ce.map]
  cases c[j].u <;> simp
theorem kJ_le (c : List (Ce Ev)) (j : Nat) : (kJ c j).length ≤ j := by
  unfold kJ
  rw [keys_len]
  exact Nat.le_trans (cnt_le _) (by rw [pc_len, List.length_take]; omega)

set_option maxRecDepth 100000 in
set_option maxHeartbeats 2000000 in
theorem rkeys_any (B : Nat) (d : Dv) (M : Ms Ev) (hok : M.Ok) (w : World) (h : Dw B w d M.c) : Calls Try.prog 15 #[dV d M] w fun e w' => ∃ A cap, e = .returned (.slice A (keysOf (pc M.c)).length cap) ∧ Sl qf w' A cap (keysOf (pc M.c)) ∧ Below w.heap.size w w' := by
  obtain ⟨i0, hi, hz0, hz1, hz2⟩ := el_of elQ
  have hb := (Below.refl w.heap.size w).alloc (Nat.le_refl _) (Obj.cells #[.slice (some ⟨d.gx, 0, none⟩) M.c.length d.cx, .slice (some ⟨d.gu, 0, none⟩) M.c.length d.cu, .slice (some ⟨d.gt, 0, none⟩) M.c.length d.ct, .int .i64 (M.h : Nat)] 29)
  have HX := Lib.hid (Blk.new w 29 #[.slice (some ⟨d.gx, 0, none⟩) M.c.length d.cx, .slice (some ⟨d.gu, 0, none⟩) M.c.length d.cu, .slice (some ⟨d.gt, 0, none⟩) M.c.length d.ct, .int .i64 (M.h : Nat)])
  have HB := Lib.hid hb
  have HD := Lib.hid (h.below hb)
  have h64 := hok.n64
  rw [dV_eq]
  clear h hb hok
  go_enter Try.func15, Try.ntmps15
  go_upto_region 1 with (fail)
  generalize w.alloc (Obj.cells #[.slice (some ⟨d.gx, 0, none⟩) M.c.length d.cx, .slice (some ⟨d.gu, 0, none⟩) M.c.length d.cu, .slice (some ⟨d.gt, 0, none⟩) M.c.length d.ct, .int .i64 (M.h : Nat)] 29) = w1 at *
  go_wp2_with fail
  go_loopw [3, 4] (fun v x wr => ∃ j : Nat, j ≤ M.c.length ∧ x = .int .i64 j ∧ wr.ownsRow w1.heap.size 35 3 v (kJ M.c j).length ((kJ M.c j).flatMap qf) ∧ Below w1.heap.size w1 wr) (fun _ x _ => M.c.length - (intOf x).toNat)
  case atStart => exact ⟨0, Nat.zero_le _, rfl, World.ownsRow_nil _ _ _ _, Below.refl _ _⟩
  case round =>
    obtain ⟨j, hj, rfl, hown, hbel⟩ := hrel
    obtain ⟨Av, cv, rfl⟩ := ownR_form hown
    have hX := HX.out.eq (hbel.block _ HX.out.lt)
    have hD := HD.out.below hbel
    have b0 := hX.cell 0
    have b1 := hX.cell 1
    simp only [List.getElem?_toArray, List.getElem?_cons_zero, List.getElem?_cons_succ] at b0 b1
    by_cases hlt : j < M.c.length
    · have d1 : decide ((j : Int) < M.c.length) = true := by simp; omega
      have e1 := hD.e1 hlt
      have s0 : (0 : Int) ≤ (j : Nat) := by omega
      have s1 : (j : Int) < (M.c.length : Nat) := by omega
      have hk := kJ_succ M.c j hlt
      have hle := kJ_le M.c j
      cases hu : us M.c j with
      | false =>
        rw [hu] at e1 hk
        have HF := Lib.hid (And.intro hown (And.intro hbel (show kJ M.c (j + 1) = kJ M.c j from hk)))
        clear hu hk hown hbel hX hD hle
        go_wp2_with fail
        go_roundw
        case rel => exact ⟨j + 1, hlt, by go_num, by rw [HF.out.2.2]; exact HF.out.1, HF.out.2.1⟩
        case measure => simp [intOf]; omega
      | true =>
        rw [hu] at e1 hk
        obtain ⟨r0, r1, r2⟩ := q_at (hD.e0 hlt)
        obtain ⟨r, hr⟩ : ∃ r, (M.c.getD j Z0).x.e.q = r := ⟨_, rfl⟩
        rw [hr] at r0 r1 r2 hk
        have HK := Lib.hid (show kJ M.c (j + 1) = kJ M.c j ++ [r] from hk)
        have HO5 := Lib.hid (hown.alloc (Obj.cells #[.string r.n, .int .u16 (r.k : Nat), .int .u16 (r.c : Nat)] 35))
        have HB5 := Lib.hid (hbel.alloc hbel.size (Obj.cells #[.string r.n, .int .u16 (r.k : Nat), .int .u16 (r.c : Nat)] 35))
        clear hu hk hown hbel hX hD hr
        generalize kJ M.c j = ks at *
        go_wp2_with (at_builtin; (refine wpList_append_own _ rfl _ _ 43 rfl w1.heap.size 35 i0 (qV ⟨⟨#[]⟩, 0, 0⟩) 3 24 Try.underlying43 hi hz0 hz1 hz2 rfl (by decide) _ _ _ rfl HO5.out ⟨wr.heap.size, 0, none⟩ 1 1 (qf r) rfl rfl (newQ wr r) ?q3 ?q4 ?q5 HB5.out.size ?_))
        case q3 => intro u hu; simp [qf] at hu; rcases hu with rfl | rfl | rfl <;> rfl
        case q4 => unfold maxLen; omega
        case q5 => omega
        intro v' w6 hown2 hgrow hnil
        have hb6 := HB5.out.grown hgrow HB5.out.size (fun k hk => (HO5.out.lt k hk).1)
        rw [show ks.length + 1 = (kJ M.c (j + 1)).length by rw [HK.out]; simp, show ks.flatMap qf ++ qf r = (kJ M.c (j + 1)).flatMap qf by rw [HK.out, List.flatMap_append]; simp] at hown2
        have HF := Lib.hid (And.intro hown2 hb6)
        clear hown2 hgrow hnil hb6 r0 r1 r2
        go_wp2_with fail
        go_roundw
        case rel => exact ⟨j + 1, hlt, by go_num, HF.out.1, HF.out.2⟩
        case measure => simp [intOf]; omega
    · obtain rfl : j = M.c.length := by omega
      have d1 : decide ((M.c.length : Int) < M.c.length) = false := by simp
      rw [kJ_all] at hown
      have HF := Lib.hid (And.intro (Sl.owned qf_len hown) (And.intro hbel (kJ_all M.c)))
      clear hown hbel hX hD
      go_wp2_with fail
      go_ret
      refine ⟨Av, cv, ?_, HF.out.1.1, HB.out.trans (HF.out.2.1.mono HB.out.size)⟩
      rw [← HF.out.2.2]
      rfl

/-- derrickref12.with, its values written out. -/
theorem with_lit (B i : Nat) (x : Ev) (u t : Bool) (d : Dv) (M : Ms Ev) (hok : M.Ok) (hi : i < M.c.length) (w : World) (h : Dw B w d M.c) (hB : B ≤ w.heap.size) : Calls Try.prog 47 #[.agg #[.slice (some ⟨d.gx, 0, none⟩) M.c.length d.cx, .slice (some ⟨d.gu, 0, none⟩) M.c.length d.cu, .slice (some ⟨d.gt, 0, none⟩) M.c.length d.ct, .int .i64 (M.h : Nat)], .int .i64 (i : Nat), .agg (evL x).toArray, .bool u, .bool t] w fun e w' => ∃ d' : Dv, e = .returned (.agg #[.slice (some ⟨d'.gx, 0, none⟩) M.c.length d'.cx, .slice (some ⟨d'.gu, 0, none⟩) M.c.length d'.cu, .slice (some ⟨d'.gt, 0, none⟩) M.c.length d'.ct, .int .i64 (M.h : Nat)]) ∧ Dw B w' d' (M.c.set i ⟨x, u, t⟩) ∧ Below w.heap.size w w' := by
  have hl : (M.c.set i ⟨x, u, t⟩).length = M.c.length := List.length_set
  refine (with_any B i x u t d M hok hi w h hB).mono ?_
  rintro e w' ⟨d', h1, h2, h3⟩
  rw [dV_eq] at h1
  simp only [hl] at h1
  exact ⟨d', h1, h2, h3⟩
theorem dV_of (d : Dv) {M N : Ms Ev} (h1 : N.c.length = M.c.length) (h2 : N.h = M.h) : Value.agg #[.slice (some ⟨d.gx, 0, none⟩) M.c.length d.cx, .slice (some ⟨d.gu, 0, none⟩) M.c.length d.cu, .slice (some ⟨d.gt, 0, none⟩) M.c.length d.ct, .int .i64 (M.h : Nat)] = dV d N := by rw [dV_eq, h1, h2]
/-- Boxes: the shard's q, and the result's r. -/
structure Bx (B q r : Nat) (w w1 : World) (d : Dv) (M : Ms Ev) : Prop where
  bx : Blk w1 q 29 #[.slice (some ⟨d.gx, 0, none⟩) M.c.length d.cx, .slice (some ⟨d.gu, 0, none⟩) M.c.length d.cu, .slice (some ⟨d.gt, 0, none⟩) M.c.length d.ct, .int .i64 (M.h : Nat)]
  br : Blk w1 r 29 zD
  qr : q < r
  q0 : w.heap.size ≤ q
  b : Below w.heap.size w w1
  D : Dw B w1 d M.c
theorem Bx.done {B q r : Nat} {w w1 w3 : World} {d d' : Dv} {M : Ms Ev} {c : List (Ce Ev)} (h : Bx B q r w w1 d M) (hD : Dw B w3 d' c) (hb : Below w1.heap.size w1 w3) (cs : Array Value) : Blk w3 r 29 zD ∧ Dw B (w3.setRow r cs) d' c ∧ Below w.heap.size w (w3.setRow r cs) := by
  have hr := h.br.eq (hb.block _ h.br.lt)
  exact ⟨hr, hD.setRow hr, setRow_below (h.b.trans (hb.mono h.b.size)) (by have := h.qr; have := h.q0; omega) cs⟩
theorem Bx.low {B q r : Nat} {w w1 w3 : World} {d : Dv} {M : Ms Ev} (h : Bx B q r w w1 d M) (hb : Below w1.heap.size w1 w3) : Bx B q r w w3 d M :=
  ⟨h.bx.eq (hb.block _ h.bx.lt), h.br.eq (hb.block _ h.br.lt), h.qr, h.q0, h.b.trans (hb.mono h.b.size), h.D.below hb⟩
theorem bx_three {B : Nat} {w : World} {d : Dv} {M : Ms Ev} (h : Dw B w d M.c) (x : Ev) : Bx B w.heap.size (w.heap.size + 2) w (((w.alloc (Obj.cells #[.slice (some ⟨d.gx, 0, none⟩) M.c.length d.cx, .slice (some ⟨d.gu, 0, none⟩) M.c.length d.cu, .slice (some ⟨d.gt, 0, none⟩) M.c.length d.ct, .int .i64 (M.h : Nat)] 29)).alloc (Obj.cells (evL x).toArray 39)).alloc (Obj.cells zD 29)) d M ∧ Blk (((w.alloc (Obj.cells #[.slice (some ⟨d.gx, 0, none⟩) M.c.length d.cx, .slice (some ⟨d.gu, 0, none⟩) M.c.length d.cu, .slice (some ⟨d.gt, 0, none⟩) M.c.length d.ct, .int .i64 (M.h : Nat)] 29)).alloc (Obj.cells (evL x).toArray 39)).alloc (Obj.cells zD 29)) (w.heap.size + 1) 39 (evL x).toArray := by
  obtain ⟨h1, h2, h3, h4, h5⟩ := three_of h x
  exact ⟨⟨h1, h3, by omega, Nat.le_refl _, h4, h5⟩, h2⟩
/-- The document's put. -/
def putE (M : Ms Ev) (x : Ev) : Ms Ev := (putM M x).1

set_option maxRecDepth 100000 in
set_option maxHeartbeats 2000000 in
theorem rput_any (B : Nat) (x : Ev) (d : Dv) (M : Ms Ev) (hok : M.Ok) (w : World) (h : Dw B w d M.c) (hB : B ≤ w.heap.size) : Calls Try.prog 48 #[dV d M, .agg (evL x).toArray] w fun e w' => ∃ d' : Dv, e = .returned (dV d' (putM M x).1) ∧ Dw B w' d' (putM M x).1.c ∧ Below w.heap.size w w' := by
  have h3 := bx_three h x
  obtain ⟨T3, hT3⟩ : ∃ T3 : World, ((w.alloc (Obj.cells #[.slice (some ⟨d.gx, 0, none⟩) M.c.length d.cx, .slice (some ⟨d.gu, 0, none⟩) M.c.length d.cu, .slice (some ⟨d.gt, 0, none⟩) M.c.length d.ct, .int .i64 (M.h : Nat)] 29)).alloc (Obj.cells (evL x).toArray 39)).alloc (Obj.cells zD 29) = T3 := ⟨_, rfl⟩
  rw [hT3] at h3
  have HT := Lib.hid h3.1
  have HE := Lib.hid h3.2
  rw [dV_eq]
  have HV := Lib.hid (fun d' => dV_of d' (M := M) (N := (putM M x).1) (putM_len M x) (by unfold putM; split <;> rfl))
  have HW := Lib.hid (fun k hk W hD hBW => with_lit B k x true false d M hok hk W hD hBW)
  have HBB := Lib.hid hB
  have h64 := hok.n64
  clear h hok hB h3
  unfold zD at hT3
  go_enter Try.func48, Try.ntmps48
  go_upto_region 1 with (fail)
  try rw [hT3]
  generalize T3 = w1 at *
  clear hT3
  go_wp2_with fail
  go_loopw [5] (fun v wr => ∃ j : Nat, j ≤ M.c.length ∧ v = .int .i64 j ∧ wr = w1 ∧ ∀ q, q < j → us M.c q = true) (fun v _ => M.c.length - (intOf v).toNat)
  case atStart => exact ⟨0, Nat.zero_le _, rfl, rfl, fun q hq => absurd hq (by omega)⟩
  case round =>
    obtain ⟨j, hj, rfl, rfl, hall⟩ := hrel
    have b0 := HT.out.bx.cell 0
    have b1 := HT.out.bx.cell 1
    simp only [List.getElem?_toArray, List.getElem?_cons_zero, List.getElem?_cons_succ] at b0 b1
    by_cases hlt : j < M.c.length
    · have d1 : decide ((j : Int) < M.c.length) = true := by simp; omega
      have e1 := HT.out.D.e1 hlt
      have s0 : (0 : Int) ≤ (j : Nat) := by omega
      have s1 : (j : Int) < (M.c.length : Nat) := by omega
      cases hu : us M.c j with
      | true =>
        rw [hu] at e1
        have HA := Lib.hid (And.intro hall hu)
        clear hall hu
        go_wp2_with fail
        go_roundw
        case rel =>
          refine ⟨j + 1, hlt, by go_num, by trivial, fun q hq => ?_⟩
          rcases Nat.lt_or_ge q j with h1 | h1
          · exact HA.out.1 q h1
          · obtain rfl : q = j := by omega
            exact HA.out.2
        case measure => simp [intOf]; omega
      | false =>
        rw [hu] at e1
        have hp : (putM M x).1 = ⟨M.c.set j ⟨x, true, false⟩, M.h⟩ := by unfold putM; rw [first_some hlt hu hall]
        have HP := Lib.hid hp
        rw [hp] at HV
        have HW4 := Lib.hid (HW.out j hlt wr HT.out.D (Nat.le_trans HBB.out HT.out.b.size))
        clear hp hu hall HW
        go_wp2_with (first | (refine wpList_load_row rfl 29 _ rfl w.heap.size rfl 29 _ _ _ HT.out.bx Try.underlying29 rfl infoD ?_) | (refine wpList_load_row rfl 39 _ rfl (w.heap.size + 1) rfl 39 _ _ _ HE.out Try.underlying39 rfl (infoEa _) ?_) | (refine wpList_store_row rfl 29 _ _ rfl (w.heap.size + 2) _ rfl rfl 29 _ HR5.out.1 infoD rfl (all4 _ _ _ _ _ _ _ _) ?_) | (go_at_call 47; with_reducible (refine HW4.out.mono ?_); rintro e w5 ⟨d', rfl, hd5, hb5⟩; have HR5 := Lib.hid (HT.out.done hd5 hb5 #[.slice (some ⟨d'.gx, 0, none⟩) M.c.length d'.cx, .slice (some ⟨d'.gu, 0, none⟩) M.c.length d'.cu, .slice (some ⟨d'.gt, 0, none⟩) M.c.length d'.ct, .int .i64 (M.h : Nat)]); clear hd5 hb5))
        refine ret_d rfl rfl rfl (setRow_heap _ _ _ _ _ _ HR5.out.1) ⟨d', ?_, by rw [HP.out]; exact HR5.out.2.1, HR5.out.2.2⟩
        rw [HP.out, ← HV.out]
    · obtain rfl : j = M.c.length := by omega
      have d1 : decide ((M.c.length : Int) < M.c.length) = false := by simp
      have hp : (putM M x).1 = M := by unfold putM; rw [first_none hall]
      have HP := Lib.hid hp
      rw [hp] at HV
      have HR5 := Lib.hid (HT.out.done HT.out.D (Below.refl wr.heap.size wr) #[.slice (some ⟨d.gx, 0, none⟩) M.c.length d.cx, .slice (some ⟨d.gu, 0, none⟩) M.c.length d.cu, .slice (some ⟨d.gt, 0, none⟩) M.c.length d.ct, .int .i64 (M.h : Nat)])
      clear hp hall HW
      go_wp2_with (first | (refine wpList_load_row rfl 29 _ rfl w.heap.size rfl 29 _ _ _ HT.out.bx Try.underlying29 rfl infoD ?_) | (refine wpList_store_row rfl 29 _ _ rfl (w.heap.size + 2) _ rfl rfl 29 _ HR5.out.1 infoD rfl (all4 _ _ _ _ _ _ _ _) ?_))
      refine ret_d rfl rfl rfl (setRow_heap _ _ _ _ _ _ HR5.out.1) ⟨d, ?_, by rw [HP.out]; exact HR5.out.2.1, HR5.out.2.2⟩
      rw [HP.out, ← HV.out]
end Go.Proofs.Ytjjanogfcfapcaa.D
