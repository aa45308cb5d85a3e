/- The contract of derrickref12.victim, of a shard that is full (written by tools/gen_vdg.py). -/
import Derived.Test.YtjjanogfcfapcaaVdf
import Derived.Deep.LoopGhost
namespace Go.Proofs.Ytjjanogfcfapcaa.D
open Go.RowKit
set_option linter.unusedVariables false

/-- The world behind the parameter's box and the result's. -/
theorem two_of {B : Nat} {w : World} {d : Dv} {M : Ms Ev} (h : Dw B w d M.c) : Bx B w.heap.size (w.heap.size + 1) w ((w.alloc (Obj.cells #[.slice (some ⟨d.gx, 0, none⟩) M.c.length d.cx, .slice (some ⟨d.gu, 0, none⟩) M.c.length d.cu, .slice (some ⟨d.gt, 0, none⟩) M.c.length d.ct, .int .i64 (M.h : Nat)] 29)).alloc (Obj.cells #[Value.slice none 0 0, .slice none 0 0, .slice none 0 0, .int .i64 0] 29)) d M := by
  have hb1 := (Below.refl w.heap.size w).alloc (Nat.le_refl _) (Obj.cells #[.slice (some ⟨d.gx, 0, none⟩) M.c.length d.cx, .slice (some ⟨d.gu, 0, none⟩) M.c.length d.cu, .slice (some ⟨d.gt, 0, none⟩) M.c.length d.ct, .int .i64 (M.h : Nat)] 29)
  have es : (w.alloc (Obj.cells #[.slice (some ⟨d.gx, 0, none⟩) M.c.length d.cx, .slice (some ⟨d.gu, 0, none⟩) M.c.length d.cu, .slice (some ⟨d.gt, 0, none⟩) M.c.length d.ct, .int .i64 (M.h : Nat)] 29)).heap.size = w.heap.size + 1 := by simp
  have hr := Blk.new (w.alloc (Obj.cells #[.slice (some ⟨d.gx, 0, none⟩) M.c.length d.cx, .slice (some ⟨d.gu, 0, none⟩) M.c.length d.cu, .slice (some ⟨d.gt, 0, none⟩) M.c.length d.ct, .int .i64 (M.h : Nat)] 29)) 29 zD
  rw [es] at hr
  exact ⟨(Blk.new w 29 #[.slice (some ⟨d.gx, 0, none⟩) M.c.length d.cx, .slice (some ⟨d.gu, 0, none⟩) M.c.length d.cu, .slice (some ⟨d.gt, 0, none⟩) M.c.length d.ct, .int .i64 (M.h : Nat)]).eq (Below.heap_alloc (w.alloc (Obj.cells #[.slice (some ⟨d.gx, 0, none⟩) M.c.length d.cx, .slice (some ⟨d.gu, 0, none⟩) M.c.length d.cu, .slice (some ⟨d.gt, 0, none⟩) M.c.length d.ct, .int .i64 (M.h : Nat)] 29)) (Obj.cells zD 29) w.heap.size (by rw [es]; omega)), hr, by omega, Nat.le_refl _, hb1.alloc hb1.size _, h.below (hb1.alloc hb1.size _)⟩
/-- The document's slots in their box q, and the result's box behind it. -/
structure Vx (B q n : Nat) (w wr : World) (d : Dv) (M : Ms Ev) : Prop where
  bx : Blk wr q 29 #[.slice (some ⟨d.gx, 0, none⟩) n d.cx, .slice (some ⟨d.gu, 0, none⟩) n d.cu, .slice (some ⟨d.gt, 0, none⟩) n d.ct, .int .i64 (M.h : Nat)]
  br : Blk wr (q + 1) 29 zD
  D : Dw B wr d M.c
  ok : M.Ok
  hl : M.c.length = n
  b : Below q w wr
theorem Dw.far {B q : Nat} {w : World} {d : Dv} {c : List (Ce Ev)} {cs : Array Value} (h : Dw B w d c) (hq : Blk w q 29 cs) (i : Nat) (v : Value) : Dw B (w.setCell ⟨q, i, none⟩ v) d c :=
  ⟨own_far i v h.ox (fun e => own_type h.ox hq (by decide) e rfl), own_far i v h.ou (fun e => own_type h.ou hq (by decide) e rfl), own_far i v h.ot (fun e => own_type h.ot hq (by decide) e rfl), h.ne⟩
section
variable {B q n : Nat} {w wr : World} {d : Dv} {M : Ms Ev}
theorem Vx.hand (h : Vx B q n w wr d M) : Vx B q n w (wr.setCell ⟨q, 3, none⟩ (.int .i64 (nx M : Nat))) d ⟨M.c, nx M⟩ :=
  ⟨h.bx.set_ 3 _, h.br.far _ _ (by simp), h.D.far h.bx 3 _, ⟨h.ok.n1, h.ok.n64, Nat.mod_lt _ (by have := h.ok.n1; show 0 < M.c.length; omega)⟩, h.hl, h.b.setCell (p := ⟨q, 3, none⟩) (Nat.le_refl _) _⟩
theorem Vx.drew (h : Vx B q n w wr d M) : Vx B q n w wr.drew d M := ⟨h.bx, h.br, h.D.below (Below.refl _ wr).drew, h.ok, h.hl, h.b.drew⟩
theorem Vx.ret (h : Vx B q n w wr d M) (cs : Array Value) : Dw B (wr.setRow (q + 1) cs) d M.c ∧ Below q w (wr.setRow (q + 1) cs) := ⟨h.D.setRow h.br, setRow_below h.b (by omega) cs⟩
theorem Vx.box {w5 : World} {d' : Dv} {M' : Ms Ev} (h : Vx B q n w wr d M) (hD : Dw B w5 d' M'.c) (hb : Below wr.heap.size wr w5) (hok : M'.Ok) (hl : M'.c.length = n) (hh : M'.h = M.h) : Blk w5 q 29 #[.slice (some ⟨d.gx, 0, none⟩) n d.cx, .slice (some ⟨d.gu, 0, none⟩) n d.cu, .slice (some ⟨d.gt, 0, none⟩) n d.ct, .int .i64 (M.h : Nat)] ∧ Vx B q n w (w5.setRow q #[.slice (some ⟨d'.gx, 0, none⟩) n d'.cx, .slice (some ⟨d'.gu, 0, none⟩) n d'.cu, .slice (some ⟨d'.gt, 0, none⟩) n d'.ct, .int .i64 (M.h : Nat)]) d' M' := by
  have hx := h.bx.eq (hb.block _ h.bx.lt)
  have hr := h.br.eq (hb.block _ h.br.lt)
  refine ⟨hx, ?_, (setRow_other _ _ _ _ (by omega)).trans hr, hD.setRow hx, hok, hl, setRow_below (h.b.trans (hb.mono (Nat.le_of_lt h.bx.lt))) (Nat.le_refl _) _⟩
  rw [hh]
  exact setRow_heap _ _ _ _ _ _ hx
end
theorem vx_of {B : Nat} {w : World} {d : Dv} {M : Ms Ev} (hok : M.Ok) (h : Dw B w d M.c) : Vx B w.heap.size M.c.length w ((w.alloc (Obj.cells #[.slice (some ⟨d.gx, 0, none⟩) M.c.length d.cx, .slice (some ⟨d.gu, 0, none⟩) M.c.length d.cu, .slice (some ⟨d.gt, 0, none⟩) M.c.length d.ct, .int .i64 (M.h : Nat)] 29)).alloc (Obj.cells #[Value.slice none 0 0, .slice none 0 0, .slice none 0 0, .int .i64 0] 29)) d M :=
  ⟨(two_of h).bx, (two_of h).br, (two_of h).D, hok, rfl, (two_of h).b⟩
theorem ev_cells {w : World} {g k : Nat} {x : Ev} (h : w.rangeAt g k (evL x)) : w.cell? ⟨g, k, none⟩ = some (.string x.e.q.n) ∧ w.cell? ⟨g, k + 1, none⟩ = some (.int .u16 (x.e.q.k : Nat)) ∧ w.cell? ⟨g, k + 2, none⟩ = some (.int .u16 (x.e.q.c : Nat)) ∧ w.cell? ⟨g, k + 3, none⟩ = some (.slice x.A x.e.l.length x.cap) ∧ w.cell? ⟨g, k + 4, none⟩ = some (.int .i64 x.e.rc) ∧ w.cell? ⟨g, k + 5, none⟩ = some (.int .i64 x.e.rk) ∧ w.cell? ⟨g, k + 6, none⟩ = some (.int .u64 (x.e.ex : Nat)) := ⟨h 0 _ rfl, h 1 _ rfl, h 2 _ rfl, h 3 _ rfl, h 4 _ rfl, h 5 _ rfl, h 6 _ rfl⟩
theorem vicF_zero (M : Ms Ev) : vicF 0 M = (M, none) := rfl
theorem vicF_succ (f : Nat) (M : Ms Ev) : vicF (f + 1) M = if us M.c M.h && !ts M.c M.h then (⟨M.c, nx M⟩, some M.h) else vicF f (stepM M) := rfl

set_option maxRecDepth 100000 in
set_option maxHeartbeats 2000000 in
theorem rvic_any (B : Nat) (d : Dv) (M : Ms Ev) (hok : M.Ok) (hfull : ∀ j, j < M.c.length → us M.c j = true) (w : World) (h : Dw B w d M.c) (hB : B ≤ w.heap.size) : Calls Try.prog 49 #[dV d M] w fun e w' => ∃ d' : Dv, e = .returned (.tuple #[dV d' (vicM M).1, .int .i64 ((vicM M).2.getD 0 : Nat)]) ∧ Dw B w' d' (vicM M).1.c ∧ Below w.heap.size w w' := by
  have HT := Lib.hid (vx_of hok h)
  have h64 := hok.n64
  have HBB := Lib.hid hB
  have hne : allM M ≠ [] := fun e => by
    have := all_mem.2 (And.intro hok.hn (hfull _ hok.hn))
    rw [e] at this; cases this
  obtain ⟨v, hv⟩ := vicM_some hok hne
  obtain ⟨N, hN⟩ : ∃ N, (vicM M).1 = N := ⟨_, rfl⟩
  have HR := Lib.hid (show vicF (2 * M.c.length) M = (N, some v) by rw [← hN, ← hv]; rfl)
  rw [dV_eq, hN, hv, Option.getD_some]
  have HFU := Lib.hid hfull
  clear hN hv hne h hok hB hfull
  generalize hn : M.c.length = n at *
  have HN := Lib.hid hn
  generalize M.h = h0 at *
  clear hn
  go_enter Try.func49, Try.ntmps49
  go_upto_region 1 with (fail)
  generalize ((w.alloc (Obj.cells #[.slice (some ⟨d.gx, 0, none⟩) M.c.length d.cx, .slice (some ⟨d.gu, 0, none⟩) M.c.length d.cu, .slice (some ⟨d.gt, 0, none⟩) M.c.length d.ct, .int .i64 (M.h : Nat)] 29)).alloc (Obj.cells #[Value.slice none 0 0, .slice none 0 0, .slice none 0 0, .int .i64 0] 29)) = w1 at *
  go_wp2_with fail
  go_loopg [4] (2 * n) (fun k _ wr => ∃ (d' : Dv) (M' : Ms Ev), Vx B w.heap.size n w wr d' M' ∧ vicF k M' = (N, some v) ∧ ∀ j, j < n → us M'.c j = true)
  case atStart => exact ⟨d, M, HT.out, HR.out, HFU.out⟩
  case round =>
    clear HT HR HFU
    obtain ⟨d', M', hV, hf, hfu⟩ := hrel
    have x0 := hV.bx.cell 0
    have x1 := hV.bx.cell 1
    have x2 := hV.bx.cell 2
    have x3 := hV.bx.cell 3
    have y3 := hV.bx.frozen 3
    simp only [List.getElem?_toArray, List.getElem?_cons_zero, List.getElem?_cons_succ] at x0 x1 x2 x3
    obtain ⟨f, rfl⟩ : ∃ f, gk = f + 1 := by
      cases gk with
      | zero => rw [vicF_zero] at hf; cases hf
      | succ f => exact ⟨f, rfl⟩
    rw [vicF_succ] at hf
    have hnx := nx_int M' hV.ok
    have hl := hV.hl
    rw [hl] at hnx
    have h1 := hV.ok.n1
    have hh := hV.ok.hn
    rw [hl] at h1 hh
    have n0 : ((n : Int) == 0) = false := by rw [beq_eq_false_iff_ne]; omega
    have n1 : ¬ (n : Int) = 0 := by omega
    have hu := hfu M'.h hh
    have HV2 := Lib.hid hV.hand
    have hst2 := stepM_used hu
    have HOK := Lib.hid (stepM_ok hV.ok)
    have HHH := Lib.hid (show M'.h < M'.c.length from hV.ok.hn)
    have hn64 : M'.h ≤ 64 := by omega
    have HUS := Lib.hid (fun j => us_step hV.ok.hn j)
    rw [hu] at hst2 hf
    have HF := Lib.hid (And.intro hf (And.intro hst2 hfu))
    clear hf hst2 hV hu hfu
    generalize nx M' = nn at *
    obtain ⟨hx, HXE⟩ : ∃ hx : Nat, Hid (M'.h = hx) := ⟨M'.h, Lib.hid rfl⟩
    rw [HXE.out] at x3 hnx hh hn64
    go_upto_region 3 with (fail)
    generalize wr.setCell ⟨w.heap.size, 3, none⟩ (.int .i64 (nn : Nat)) = w2 at *
    have hV2 := HV2.out
    clear x0 x1 x2 x3 y3
    have x0 := hV2.bx.cell 0
    have x2 := hV2.bx.cell 2
    simp only [List.getElem?_toArray, List.getElem?_cons_zero, List.getElem?_cons_succ] at x0 x2
    have e2 := hV2.D.e2 HHH.out
    simp only at e2
    rw [HXE.out] at e2
    have s0 : (0 : Int) ≤ (hx : Nat) := by omega
    have s1 : (hx : Int) < (n : Nat) := by omega
    obtain ⟨hf, hst2, hfu⟩ := HF.out
    have HHX := Lib.hid (show hx < M'.c.length from by have := HHH.out; have := HXE.out; omega)
    clear HF hV2
    rw [HXE.out] at hf hst2
    cases ht : ts M'.c hx with
    | false =>
      rw [ht] at e2
      rw [ht] at hf
      have hR : (N, some v) = ((⟨M'.c, nn⟩ : Ms Ev), some hx) := by rw [← hf]; rfl
      have HF := Lib.hid hR
      have HR5 := Lib.hid (HV2.out.ret #[.slice (some ⟨d'.gx, 0, none⟩) n d'.cx, .slice (some ⟨d'.gu, 0, none⟩) n d'.cu, .slice (some ⟨d'.gt, 0, none⟩) n d'.ct, .int .i64 (nn : Nat)])
      have HV := Lib.hid (show Value.agg #[.slice (some ⟨d'.gx, 0, none⟩) n d'.cx, .slice (some ⟨d'.gu, 0, none⟩) n d'.cu, .slice (some ⟨d'.gt, 0, none⟩) n d'.ct, .int .i64 (nn : Nat)] = dV d' ⟨M'.c, nn⟩ by rw [dV_eq]; simp only; rw [hl])
      clear hf hR hst2 hfu ht
      go_wp2_with (first | (refine wpList_load_row rfl 29 _ rfl w.heap.size rfl 29 _ _ _ HV2.out.bx Try.underlying29 rfl infoD ?_) | (refine wpList_store_row rfl 29 _ _ rfl (w.heap.size + 1) _ rfl rfl 29 _ HV2.out.br infoD rfl (all4 _ _ _ _ _ _ _ _) ?_))
      obtain ⟨rfl, hvv⟩ := Prod.mk.inj HF.out
      obtain rfl : v = hx := by simpa using hvv
      refine ret_d2 rfl rfl rfl rfl (setRow_heap _ _ _ _ _ _ HV2.out.br) ⟨d', ?_, HR5.out.1, HR5.out.2⟩
      rw [← HV.out]
      rfl
    | true =>
      rw [ht] at e2
      rw [ht] at hf
      have hf2 : vicF f (stepM M') = (N, some v) := by simpa using hf
      have hs := hst2
      rw [hs] at hf2
      have hok3 := HOK.out
      rw [hs] at hok3
      obtain ⟨y0, hy0⟩ : ∃ y0, (M'.c.getD hx Z0).x = y0 := ⟨_, rfl⟩
      have e0 := HV2.out.D.e0 HHX.out
      simp only at e0
      rw [hy0] at e0 hf2 hok3
      have hus : ∀ j, j < n → us (M'.c.set hx ⟨y0, true, false⟩) j = true := fun j hj => by
        have := HUS.out j
        rw [hs, hy0] at this
        rw [this]
        exact hfu j hj
      have hl3 : (M'.c.set hx ⟨y0, true, false⟩).length = n := by rw [List.length_set]; exact hl
      have HF := Lib.hid (And.intro hf2 (And.intro hok3 (And.intro hl3 hus)))
      have HE0 := Lib.hid e0
      clear hf hf2 hs hst2 ht hok3 hl3 hus hy0 e0 hfu HUS
      have HX5 := HV2.out.bx
      have HW4 := Lib.hid (fun W hD hB => with_lit B hx y0 true false d' ⟨M'.c, nn⟩ HV2.out.ok HHX.out W hD hB)
      simp only [hl] at HW4
      go_upto_region 5 with (fail)
      clear e2
      have x1 := HV2.out.bx.cell 1
      have x3 := HV2.out.bx.cell 3
      simp only [List.getElem?_toArray, List.getElem?_cons_zero, List.getElem?_cons_succ] at x1 x3
      obtain ⟨e0, e1, e2, e3, e4, e5, e6⟩ := ev_cells HE0.out
      go_still_tail 7, (by kernel_rfl)
      clear x0 x1 x2 x3 e0 e1 e2 e3 e4 e5 e6 HE0
      change wpList _ _ _ _ _ w2.drew
      unfold evL at HW4
      have HV4 := Lib.hid HV2.out.drew
      have HW5 := Lib.hid (HW4.out w2.drew HV4.out.D (Nat.le_trans HBB.out HV4.out.b.size))
      generalize w2.drew = w4 at *
      clear HW4
      go_wp2_with (first | (refine wpList_store_row rfl 29 _ _ rfl w.heap.size _ rfl rfl 29 _ HR5.out.1 infoD rfl (all4 _ _ _ _ _ _ _ _) ?_) | (go_at_call 47; with_reducible (refine HW5.out.mono ?_); rintro e w5 ⟨d5, rfl, hd5, hb5⟩; have HR5 := Lib.hid (HV4.out.box (M' := ⟨M'.c.set hx ⟨y0, true, false⟩, nn⟩) hd5 hb5 HF.out.2.1 HF.out.2.2.1 rfl); clear hd5 hb5))
      go_roundg f
      case rel => exact ⟨d5, ⟨M'.c.set hx ⟨y0, true, false⟩, nn⟩, HR5.out.2, HF.out.1, HF.out.2.2.2⟩
      case measure => omega
end Go.Proofs.Ytjjanogfcfapcaa.D
