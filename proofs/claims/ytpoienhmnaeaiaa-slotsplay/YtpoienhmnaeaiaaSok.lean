/- The contract of derrickref10.Victim (written by tools/gen_sok.py). -/
import Derived.Test.YtpoienhmnaeaiaaSoj
namespace Go.Proofs.Ytpoienhmnaeaiaa
open Go.RowKit
set_option linter.unusedVariables false

/-- The document's slots in their box q, and the result's box behind it. -/
structure Vx (B q n : Nat) (w wr : World) (d : Dv) (M : Ms) : Prop where
  bx : Blk wr q 30 #[.slice (some ⟨d.gx, 0, none⟩) n d.cx, .slice (some ⟨d.gu, 0, none⟩) n d.cu, .slice (some ⟨d.gt, 0, none⟩) n d.ct, .int .i64 (M.h : Nat)]
  br : Blk wr (q + 1) 30 zD
  D : Dw B wr d M.c
  ok : M.Ok
  hl : M.c.length = n
  b : Below q w wr
theorem Dw.far {B q : Nat} {w : World} {d : Dv} {c : List Ce} {cs : Array Value} (h : Dw B w d c) (hq : Blk w q 30 cs) (i : Nat) (v : Value) : Dw B (w.setCell ⟨q, i, none⟩ v) d c :=
  ⟨own_far i v h.ox (fun e => own_type h.ox hq (by decide) e rfl), own_far i v h.ou (fun e => own_type h.ou hq (by decide) e rfl), own_far i v h.ot (fun e => own_type h.ot hq (by decide) e rfl), h.ne⟩
section
variable {B q n : Nat} {w wr : World} {d : Dv} {M : Ms}
theorem Vx.hand (h : Vx B q n w wr d M) : Vx B q n w (wr.setCell ⟨q, 3, none⟩ (.int .i64 (nx M : Nat))) d ⟨M.c, nx M⟩ :=
  ⟨h.bx.set_ 3 _, h.br.far _ _ (by simp), h.D.far h.bx 3 _, ⟨h.ok.n1, h.ok.n64, Nat.mod_lt _ (by have := h.ok.n1; show 0 < M.c.length; omega)⟩, h.hl, h.b.setCell (p := ⟨q, 3, none⟩) (Nat.le_refl _) _⟩
theorem Vx.drew (h : Vx B q n w wr d M) : Vx B q n w wr.drew d M := ⟨h.bx, h.br, h.D.below (Below.refl _ wr).drew, h.ok, h.hl, h.b.drew⟩
theorem Vx.ret (h : Vx B q n w wr d M) (cs : Array Value) : Dw B (wr.setRow (q + 1) cs) d M.c ∧ Below q w (wr.setRow (q + 1) cs) := ⟨h.D.setRow h.br, setRow_below h.b (by omega) cs⟩
theorem Vx.box {w5 : World} {d' : Dv} {M' : Ms} (h : Vx B q n w wr d M) (hD : Dw B w5 d' M'.c) (hb : Below wr.heap.size wr w5) (hok : M'.Ok) (hl : M'.c.length = n) (hh : M'.h = M.h) : Blk w5 q 30 #[.slice (some ⟨d.gx, 0, none⟩) n d.cx, .slice (some ⟨d.gu, 0, none⟩) n d.cu, .slice (some ⟨d.gt, 0, none⟩) n d.ct, .int .i64 (M.h : Nat)] ∧ Vx B q n w (w5.setRow q #[.slice (some ⟨d'.gx, 0, none⟩) n d'.cx, .slice (some ⟨d'.gu, 0, none⟩) n d'.cu, .slice (some ⟨d'.gt, 0, none⟩) n d'.ct, .int .i64 (M.h : Nat)]) d' M' := by
  have hx := h.bx.eq (hb.block _ h.bx.lt)
  have hr := h.br.eq (hb.block _ h.br.lt)
  refine ⟨hx, ?_, (setRow_other _ _ _ _ (by omega)).trans hr, hD.setRow hx, hok, hl, setRow_below (h.b.trans (hb.mono (Nat.le_of_lt h.bx.lt))) (Nat.le_refl _) _⟩
  rw [hh]
  exact setRow_heap _ _ _ _ _ _ hx
end
theorem vx_of {B : Nat} {w : World} {d : Dv} {M : Ms} (hok : M.Ok) (h : Dw B w d M.c) : Vx B w.heap.size M.c.length w ((w.alloc (Obj.cells #[.slice (some ⟨d.gx, 0, none⟩) M.c.length d.cx, .slice (some ⟨d.gu, 0, none⟩) M.c.length d.cu, .slice (some ⟨d.gt, 0, none⟩) M.c.length d.ct, .int .i64 (M.h : Nat)] 30)).alloc (Obj.cells #[Value.slice none 0 0, .slice none 0 0, .slice none 0 0, .int .i64 0] 30)) d M :=
  ⟨(two_of h).bx, (two_of h).br, (two_of h).D, hok, rfl, (two_of h).b⟩
def vI (o : Option Nat) : Int := match o with | some i => i | none => 0
theorem vicF_zero (M : Ms) : vicF 0 M = (M, none) := rfl
theorem vicF_succ (f : Nat) (M : Ms) : vicF (f + 1) M = if us M.c M.h && !ts M.c M.h then (⟨M.c, nx M⟩, some M.h) else vicF f (stepM M) := rfl

set_option maxRecDepth 100000 in
set_option maxHeartbeats 2000000 in
theorem rvic_any (B : Nat) (d : Dv) (M : Ms) (hok : M.Ok) (w : World) (h : Dw B w d M.c) (hB : B ≤ w.heap.size) : Calls Try.prog 30 #[dV d M] w fun e w' => ∃ d' : Dv, e = .returned (.tuple #[dV d' (vicM M).1, .int .i64 (vicI M), .bool (vicB M)]) ∧ Dw B w' d' (vicM M).1.c ∧ Below w.heap.size w w' := by
  have HT := Lib.hid (vx_of hok h)
  have h64 := hok.n64
  have HBB := Lib.hid hB
  obtain ⟨R, hR⟩ : ∃ R, vicM M = R := ⟨_, rfl⟩
  have ei : vicI M = vI R.2 := by rw [← hR]; rfl
  have eb : vicB M = R.2.isSome := by unfold vicB; rw [hR]
  rw [dV_eq, ei, eb, hR]
  have HR := Lib.hid (show vicF (2 * M.c.length) M = R from hR)
  clear hR ei eb h hok hB
  generalize hn : M.c.length = n at *
  have HN := Lib.hid hn
  generalize M.h = h0 at *
  clear hn
  go_enter Try.func30, Try.ntmps30
  go_upto_region 1 with (fail)
  generalize ((w.alloc (Obj.cells #[.slice (some ⟨d.gx, 0, none⟩) M.c.length d.cx, .slice (some ⟨d.gu, 0, none⟩) M.c.length d.cu, .slice (some ⟨d.gt, 0, none⟩) M.c.length d.ct, .int .i64 (M.h : Nat)] 30)).alloc (Obj.cells #[Value.slice none 0 0, .slice none 0 0, .slice none 0 0, .int .i64 0] 30)) = w1 at *
  have b0 := HT.out.bx.cell 0
  simp only [List.getElem?_toArray, List.getElem?_cons_zero] at b0
  go_wp2_with fail
  go_loopw [6] (fun v wr => ∃ (k : Nat) (d' : Dv) (M' : Ms), k ≤ 2 * n ∧ v = .int .i64 k ∧ Vx B w.heap.size n w wr d' M' ∧ vicF (2 * n - k) M' = R) (fun v _ => 2 * n - (intOf v).toNat)
  case atStart => exact ⟨0, d, M, Nat.zero_le _, rfl, HT.out, by rw [Nat.sub_zero]; exact HR.out⟩
  case round =>
    clear HT HR b0
    obtain ⟨k, d', M', hk, rfl, hV, hf⟩ := hrel
    have x0 := hV.bx.cell 0
    have x1 := hV.bx.cell 1
    have x2 := hV.bx.cell 2
    have x3 := hV.bx.cell 3
    have y3 := hV.bx.frozen 3
    simp only [List.getElem?_toArray, List.getElem?_cons_zero, List.getElem?_cons_succ] at x0 x1 x2 x3
    by_cases hlt : k < 2 * n
    · have d1 : decide ((k : Int) < 2 * (n : Int)) = true := by simp; omega
      obtain ⟨f, hfk⟩ : ∃ f, 2 * n - k = f + 1 := ⟨2 * n - k - 1, by omega⟩
      have hf1 : 2 * n - (k + 1) = f := by omega
      rw [hfk, vicF_succ] at hf
      have hnx := nx_int M' hV.ok
      have hl := hV.hl
      rw [hl] at hnx
      have h1 := hV.ok.n1
      have hh := hV.ok.hn
      rw [hl] at h1 hh
      have n0 : ((n : Int) == 0) = false := by simp; omega
      have n1 : ¬ (n : Int) = 0 := by omega
      have HV2 := Lib.hid hV.hand
      have HV := Lib.hid hV
      have hst1 := fun (e : us M'.c M'.h = false) => stepM_free e
      have hst2 := fun (e : us M'.c M'.h = true) => stepM_used e
      have HOK := Lib.hid (stepM_ok hV.ok)
      have HHH := Lib.hid (show M'.h < M'.c.length from hV.ok.hn)
      have hn64 : M'.h ≤ 64 := by omega
      have HF := Lib.hid (And.intro hf (And.intro hst1 hst2))
      clear hf hst1 hst2 hV
      generalize nx M' = nn at *
      obtain ⟨hx, HXE⟩ : ∃ hx : Nat, Hid (M'.h = hx) := ⟨M'.h, Lib.hid rfl⟩
      rw [HXE.out] at x3 hnx hh hn64
      go_upto_region 7 with (fail)
      generalize wr.setCell ⟨w.heap.size, 3, none⟩ (.int .i64 (nn : Nat)) = w2 at *
      have hV2 := HV2.out
      clear x0 x1 x2 x3 y3 HV
      have x0 := hV2.bx.cell 0
      have x1 := hV2.bx.cell 1
      have x2 := hV2.bx.cell 2
      have x3 := hV2.bx.cell 3
      simp only [List.getElem?_toArray, List.getElem?_cons_zero, List.getElem?_cons_succ] at x0 x1 x2 x3
      have e0 := hV2.D.e0 HHH.out
      have e1 := hV2.D.e1 HHH.out
      have e2 := hV2.D.e2 HHH.out
      simp only at e0 e1 e2
      rw [HXE.out] at e0 e1 e2
      have s0 : (0 : Int) ≤ (hx : Nat) := by omega
      have s1 : (hx : Int) < (n : Nat) := by omega
      obtain ⟨hf, hst1, hst2⟩ := HF.out
      have HHX := Lib.hid (show hx < M'.c.length from by have := HHH.out; have := HXE.out; omega)
      clear HF hV2
      rw [HXE.out] at hf hst1 hst2
      obtain ⟨y0, hy0⟩ : ∃ y0, (M'.c.getD hx Z0).x = y0 := ⟨_, rfl⟩
      rw [hy0] at e0 hst2
      clear hy0
      cases hu : us M'.c hx with
      | false =>
        rw [hu] at e1 hf
        have hf2 : vicF f ⟨M'.c, nn⟩ = R := by rw [← hst1 hu]; simpa using hf
        have HF := Lib.hid hf2
        clear hf hf2 hst1 hst2 hu e0 e2
        go_wp2_with fail
        go_roundw
        case rel => exact ⟨k + 1, d', ⟨M'.c, nn⟩, by omega, by go_num, HV2.out, by rw [hf1]; exact HF.out⟩
        case measure => simp [intOf]; omega
      | true =>
        rw [hu] at e1
        cases ht : ts M'.c hx with
        | false =>
          rw [ht] at e2
          rw [hu, ht] at hf
          have hR : R = (⟨M'.c, nn⟩, some hx) := by rw [← hf]; rfl
          have HF := Lib.hid hR
          have HR5 := Lib.hid (HV2.out.ret #[.slice (some ⟨d'.gx, 0, none⟩) n d'.cx, .slice (some ⟨d'.gu, 0, none⟩) n d'.cu, .slice (some ⟨d'.gt, 0, none⟩) n d'.ct, .int .i64 (nn : Nat)])
          have HV := Lib.hid (show Value.agg #[.slice (some ⟨d'.gx, 0, none⟩) n d'.cx, .slice (some ⟨d'.gu, 0, none⟩) n d'.cu, .slice (some ⟨d'.gt, 0, none⟩) n d'.ct, .int .i64 (nn : Nat)] = dV d' ⟨M'.c, nn⟩ by rw [dV_eq]; simp only; rw [hl])
          clear hf hR hst1 hst2 hu ht e0
          go_wp2_with (first | (refine wpList_load_row rfl 30 _ rfl w.heap.size rfl 30 _ _ _ HV2.out.bx Try.underlying30 rfl infoD ?_) | (refine wpList_store_row rfl 30 _ _ rfl (w.heap.size + 1) _ rfl rfl 30 _ HV2.out.br infoD rfl (all4 _ _ _ _ _ _ _ _) ?_))
          refine ret_d3 rfl rfl rfl rfl rfl (setRow_heap _ _ _ _ _ _ HV2.out.br) ⟨d', ?_, by rw [HF.out]; exact HR5.out.1, HR5.out.2⟩
          rw [HF.out, ← HV.out]
          rfl
        | true =>
          rw [ht] at e2
          rw [hu, ht] at hf
          have hf2 : vicF f (stepM M') = R := by simpa using hf
          have hs := hst2 hu
          rw [hu] at hs
          rw [hs] at hf2
          have hok3 := HOK.out
          rw [hs] at hok3
          have hl3 : (M'.c.set hx ⟨y0, true, false⟩).length = n := by rw [List.length_set]; exact hl
          have HF := Lib.hid (And.intro hf2 (And.intro hok3 hl3))
          clear hf hf2 hs hst1 hst2 hu ht hok3 hl3
          go_upto_region 10 with (fail)
          go_still_tail 7, (by kernel_rfl)
          change wpList _ _ _ _ _ w2.drew
          have HV4 := Lib.hid HV2.out.drew
          have HW4 := Lib.hid (with_lit B hx y0 true false d' ⟨M'.c, nn⟩ HV2.out.ok HHX.out w2.drew HV4.out.D (Nat.le_trans HBB.out HV4.out.b.size))
          simp only [hl] at HW4
          generalize w2.drew = w4 at *
          clear HV2 x0 x1 x2 x3 e0 e1 e2
          go_wp2_with (first | (refine wpList_store_row rfl 30 _ _ rfl w.heap.size _ rfl rfl 30 _ HR5.out.1 infoD rfl (all4 _ _ _ _ _ _ _ _) ?_) | (go_at_call 33; with_reducible (refine HW4.out.mono ?_); rintro e w5 ⟨d5, rfl, hd5, hb5⟩; have HR5 := Lib.hid (HV4.out.box (M' := ⟨M'.c.set hx ⟨y0, true, false⟩, nn⟩) hd5 hb5 HF.out.2.1 HF.out.2.2 rfl); clear hd5 hb5))
          go_roundw
          case rel => exact ⟨k + 1, d5, ⟨M'.c.set hx ⟨y0, true, false⟩, nn⟩, by omega, by go_num, HR5.out.2, by rw [hf1]; exact HF.out.1⟩
          case measure => simp [intOf]; omega
    · obtain rfl : k = 2 * n := by omega
      have d1 : decide (((2 * n : Nat) : Int) < 2 * (n : Int)) = false := by simp
      rw [Nat.sub_self, vicF_zero] at hf
      have hl := hV.hl
      have HF := Lib.hid hf.symm
      have HV := Lib.hid hV
      have HR5 := Lib.hid (hV.ret #[.slice (some ⟨d'.gx, 0, none⟩) n d'.cx, .slice (some ⟨d'.gu, 0, none⟩) n d'.cu, .slice (some ⟨d'.gt, 0, none⟩) n d'.ct, .int .i64 (M'.h : Nat)])
      have HE := Lib.hid (show Value.agg #[.slice (some ⟨d'.gx, 0, none⟩) n d'.cx, .slice (some ⟨d'.gu, 0, none⟩) n d'.cu, .slice (some ⟨d'.gt, 0, none⟩) n d'.ct, .int .i64 (M'.h : Nat)] = dV d' M' by rw [dV_eq, hl])
      clear hf hV x0 x1 x2 x3 y3
      go_wp2_with (first | (refine wpList_load_row rfl 30 _ rfl w.heap.size rfl 30 _ _ _ HV.out.bx Try.underlying30 rfl infoD ?_) | (refine wpList_store_row rfl 30 _ _ rfl (w.heap.size + 1) _ rfl rfl 30 _ HV.out.br infoD rfl (all4 _ _ _ _ _ _ _ _) ?_))
      refine ret_d3 rfl rfl rfl rfl rfl (setRow_heap _ _ _ _ _ _ HV.out.br) ⟨d', ?_, by rw [HF.out]; exact HR5.out.1, HR5.out.2⟩
      rw [HF.out, ← HE.out]
      rfl
end Go.Proofs.Ytpoienhmnaeaiaa
