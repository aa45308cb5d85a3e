/- The program's model: Due (written by tools/gen_emp.py). -/
import Derived.Test.YtnmgeoeppfdnhaaEms
namespace Go.Proofs.Ytnmgeoeppfdnhaa
open Go.RowKit
set_option linter.unusedVariables false
set_option linter.unusedSimpArgs false

theorem infoQ3 : (Try.prog.info? 25).map (·.size) = some 3 := by kernel_rfl
/-- Is its entry not live? -/
def goneB (f : Qu → Option Ev) (now : Nat) (q : Qu) : Bool := match f q with | some x => !decide (now < x.e.ex) | none => false
/-- What stays when some have gone. -/
def delF (f : Qu → Option Ev) (l : List Qu) : Qu → Option Ev := fun q => if q ∈ l then none else f q
theorem delF_snoc (f : Qu → Option Ev) (l : List Qu) (q : Qu) : (fun x => if x = q then none else delF f l x) = delF f (l ++ [q]) := by
  funext x
  unfold delF
  by_cases h1 : x = q
  · rw [if_pos h1, if_pos (by simp [h1])]
  · rw [if_neg h1]
    by_cases h2 : x ∈ l
    · rw [if_pos h2, if_pos (by simp [h2])]
    · rw [if_neg h2, if_neg (by simp [h1, h2])]
theorem delF_nil (f : Qu → Option Ev) : delF f [] = f := by funext x; unfold delF; simp
section
variable {w w' : World} {h p r N cnt n : Nat} {room : Int} {m : List En} {f : Qu → Option Ev} {done : List Qu} {now : Nat}
theorem gone_mem (v : Mh w h p room m f) (hall : ∀ q, q.Fine → (f q).isSome = true → q ∈ done) (q : Qu) : q ∈ done.filter (goneB f now) ↔ q ∈ goneL m now := by
  rw [List.mem_filter, mem_goneL v.ok]
  unfold goneB
  constructor
  · rintro ⟨h1, h2⟩
    cases hf : f q with
    | none => rw [hf] at h2; cases h2
    | some x =>
      rw [hf] at h2
      exact ⟨x.e, v.is_some hf, by simpa using h2⟩
  · rintro ⟨e, he, hl⟩
    have h1 := v.ent q
    rw [he] at h1
    cases hf : f q with
    | none => rw [hf] at h1; cases h1
    | some x =>
      rw [hf] at h1
      have hx : x.e = e := by simpa using h1
      subst hx
      have hq := (v.re q x hf).q
      rw [v.q hf] at hq
      exact ⟨hall q hq (by rw [hf]; rfl), by simpa using hl⟩
theorem gone_fine (v : Mh w h p room m f) {q : Qu} (hq : q ∈ done.filter (goneB f now)) : q.Fine ∧ (f q).isSome = true := by
  rw [List.mem_filter] at hq
  have h2 := hq.2
  unfold goneB at h2
  cases hf : f q with
  | none => rw [hf] at h2; cases h2
  | some x =>
    have h3 := (v.re q x hf).q
    rw [v.q hf] at h3
    exact ⟨h3, rfl⟩
theorem delF_left (v : Mh w h p room m f) {gs : List Qu} (hg : ∀ q, q ∈ gs ↔ q ∈ goneL m now) (q : Qu) : (delF f gs q).map Ev.e = entL (leftL m now) q := by
  rw [ent_left v.ok, ← v.ent]
  unfold delF
  by_cases h1 : q ∈ gs
  · rw [if_pos h1]
    obtain ⟨e, he, hl⟩ := (mem_goneL v.ok now q).1 ((hg q).1 h1)
    have h2 := v.ent q
    rw [he] at h2
    rw [h2]
    simp [Option.filter, hl]
  · rw [if_neg h1]
    cases hf : f q with
    | none => rfl
    | some x =>
      have h3 : now < x.e.ex := by
        by_cases hl : now < x.e.ex
        · exact hl
        · exact absurd ((hg q).2 ((mem_goneL v.ok now q).2 ⟨x.e, v.is_some hf, hl⟩)) h1
      simp [Option.filter, h3]
theorem EmR.low {B : Nat} (h : EmR w p r N f done cnt) (hb : Below B w w') (hp : p < B) (hr : r < B) : EmR w' p r N f done cnt := by
  obtain ⟨D, left, ⟨es, clock, since, seen, c0, h1, h2, h3, h4, h5, h6⟩, h7⟩ := h
  exact ⟨D, left, ⟨es, clock, since, seen, c0, (hb.block p hp).trans h1, h2, h3, h4, (hb.block r hr).trans h5, h6⟩, h7⟩
theorem gs_snoc_yes (done : List Qu) {q : Qu} (h : goneB f now q = true) : (done ++ [q]).filter (goneB f now) = done.filter (goneB f now) ++ [q] := by
  rw [List.filter_append, List.filter_cons, if_pos h]
  rfl
theorem gs_snoc_no (done : List Qu) {q : Qu} (h : goneB f now q = false) : (done ++ [q]).filter (goneB f now) = done.filter (goneB f now) := by
  rw [List.filter_append, List.filter_cons, if_neg (by rw [h]; simp)]
  simp
end
/-- Two boxes, a question's and an entry's. -/
theorem pair_of (w : World) (q : Qu) (x : Ev) : Blk ((w.alloc (Obj.cells #[.string q.n, .int .u16 (q.k : Nat), .int .u16 (q.c : Nat)] 25)).alloc (Obj.cells #[.string x.e.q.n, .int .u16 (x.e.q.k : Nat), .int .u16 (x.e.q.c : Nat), .slice x.A x.e.l.length x.cap, .int .i64 x.e.rc, .int .i64 x.e.rk, .int .u64 (x.e.ex : Nat)] 35)) w.heap.size 25 (qf q).toArray ∧ Blk ((w.alloc (Obj.cells #[.string q.n, .int .u16 (q.k : Nat), .int .u16 (q.c : Nat)] 25)).alloc (Obj.cells #[.string x.e.q.n, .int .u16 (x.e.q.k : Nat), .int .u16 (x.e.q.c : Nat), .slice x.A x.e.l.length x.cap, .int .i64 x.e.rc, .int .i64 x.e.rk, .int .u64 (x.e.ex : Nat)] 35)) (w.heap.size + 1) 35 (evL x).toArray ∧ Below w.heap.size w ((w.alloc (Obj.cells #[.string q.n, .int .u16 (q.k : Nat), .int .u16 (q.c : Nat)] 25)).alloc (Obj.cells #[.string x.e.q.n, .int .u16 (x.e.q.k : Nat), .int .u16 (x.e.q.c : Nat), .slice x.A x.e.l.length x.cap, .int .i64 x.e.rc, .int .i64 x.e.rk, .int .u64 (x.e.ex : Nat)] 35)) := by
  have h1 := Blk.new w 25 (qf q).toArray
  have b1 := (Below.refl w.heap.size w).alloc (Nat.le_refl _) (Obj.cells #[.string q.n, .int .u16 (q.k : Nat), .int .u16 (q.c : Nat)] 25)
  have s1 : (w.alloc (Obj.cells #[.string q.n, .int .u16 (q.k : Nat), .int .u16 (q.c : Nat)] 25)).heap.size = w.heap.size + 1 := by simp
  unfold qf at h1 ⊢
  generalize w.alloc (Obj.cells #[.string q.n, .int .u16 (q.k : Nat), .int .u16 (q.c : Nat)] 25) = w1 at *
  have h2 := Blk.new w1 35 (evL x).toArray
  rw [s1] at h2
  have b2 := (Below.refl w1.heap.size w1).alloc (Nat.le_refl _) (Obj.cells #[.string x.e.q.n, .int .u16 (x.e.q.k : Nat), .int .u16 (x.e.q.c : Nat), .slice x.A x.e.l.length x.cap, .int .i64 x.e.rc, .int .i64 x.e.rk, .int .u64 (x.e.ex : Nat)] 35)
  exact ⟨h1.eq (b2.block _ h1.lt), h2, b1.trans (b2.mono b1.size)⟩
theorem qbox_of (w : World) (q : Qu) : Blk (w.alloc (Obj.cells #[.string q.n, .int .u16 (q.k : Nat), .int .u16 (q.c : Nat)] 25)) w.heap.size 25 (qf q).toArray ∧ Below w.heap.size w (w.alloc (Obj.cells #[.string q.n, .int .u16 (q.k : Nat), .int .u16 (q.c : Nat)] 25)) :=
  ⟨Blk.new w 25 _, (Below.refl w.heap.size w).alloc (Nat.le_refl _) _⟩
theorem due_nil (now : Nat) (w : World) : Calls Try.prog 21 #[.pointer none, .int .u64 (now : Nat)] w fun e w' => e = .returned (.slice none 0 0) ∧ w' = w := by
  go_enter Try.func21, Try.ntmps21
  go_wp2_with fail
  go_ret
  exact ⟨rfl, rfl⟩
set_option maxRecDepth 100000 in
set_option maxHeartbeats 4000000 in
theorem due_any (now : Nat) {w : World} {h p : Nat} {room : Int} {m : List En} {f : Qu → Option Ev} (v : Mh w h p room m f) (hm : m.length ≤ 1000) :
    Calls Try.prog 21 #[.pointer (some ⟨h, 0, none⟩), .int .u64 (now : Nat)] w fun e w' => ∃ f' A cap, e = .returned (.slice A (goneL m now).length cap) ∧ Sl qf w' A cap (goneL m now) ∧ Nw w.heap.size A ∧ Mh w' h p room (leftL m now) f' ∧ Ch (fun i => i = p) w w' := by
  obtain ⟨i0, hi, hz0, hz1, hz2⟩ := el_of elQ
  obtain ⟨c0, c1⟩ := m_cells v.bh
  have HV := Lib.hid v
  have HM := Lib.hid hm
  clear v hm
  go_enter Try.func21, Try.ntmps21
  go_upto_region 4 with (fail)
  go_wp2_with (first | (at_range; refine wpList_em_range rfl _ rfl rfl HV.out.em ?_; intro w0 hr0 hg0 hs0) | fail)
  go_frame
  have hb0 : Below w.heap.size w w0 := (Below.refl w.heap.size w).grown hg0 (Nat.le_refl _) (fun k hk => by cases hk)
  have HV0 := Lib.hid (And.intro (HV.out.low hb0) (And.intro hb0 hs0))
  have HLT := Lib.hid (And.intro HV.out.em.lt HV.out.bh.lt)
  clear c0 c1 hg0 hs0 hb0
  have HL := Lib.hid (fun (x : Ev) W => live_any x.e.ex now W)
  go_loopw [5] (fun sv wr => ∃ (done : List Qu) (cnt : Nat), EmR wr p w.heap.size m.length f done cnt ∧ wr.ownsRow (w.heap.size + 1) 25 3 sv (done.filter (goneB f now)).length ((done.filter (goneB f now)).flatMap qf) ∧ Below w.heap.size w wr ∧ done.Nodup ∧ done.length + cnt ≤ m.length) (fun _ wr => wr.rangeLeft p w.heap.size)
  case atStart => exact ⟨[], _, hr0, World.ownsRow_nil _ _ _ _, HV0.out.2.1, List.nodup_nil, by simp⟩
  case round =>
    obtain ⟨done, cnt, hR, hO, hB, hnd, hcn⟩ := hrel
    obtain ⟨Av, cv, rfl⟩ := ownR_form hO
    have HR := Lib.hid hR
    have HO := Lib.hid hO
    have HB := Lib.hid hB
    clear hR hO hB hr0
    go_wp2_with (first | (at_next; refine wpList_em_next rfl _ rfl rfl HR.out ?_ ?_) | fail)
    · intro hall
      have HGS := Lib.hid (And.intro (gone_mem (now := now) HV.out hall) (And.intro (fun q (hq : q ∈ done.filter (goneB f now)) => gone_fine HV.out hq) (hnd.filter (goneB f now))))
      have hgl : (done.filter (goneB f now)).length ≤ 1000 := Nat.le_trans (List.length_filter_le _ _) (by have := HM.out; omega)
      have HEm := Lib.hid HR.out.em
      clear hall hnd hcn HR
      generalize done.filter (goneB f now) = gs at *
      go_wp2_with fail
      go_loopw [33] (fun x wx => ∃ j : Nat, j ≤ gs.length ∧ x = .int .i64 j ∧ Em wx p (m.length - j) (delF f (gs.take j)) ∧ wx.ownsRow (w.heap.size + 1) 25 3 (.slice Av gs.length cv) gs.length (gs.flatMap qf) ∧ Ch (fun i => i = p) w wx) (fun x _ => gs.length - (intOf x).toNat)
      case atStart => exact ⟨0, Nat.zero_le _, rfl, by rw [List.take_zero, delF_nil]; exact HEm.out, HO.out, Ch.bel HB.out⟩
      case round =>
        obtain ⟨j, hj, rfl, hE, hO2, hC⟩ := hrel
        by_cases hlt : j < gs.length
        · have d1 : decide ((j : Int) < (gs.length : Nat)) = true := by simp; omega
          have s0 : (0 : Int) ≤ (j : Nat) := by omega
          have s1 : (j : Int) < (gs.length : Nat) := by omega
          obtain ⟨b, off, hAv, hbl, a0, a1, a2⟩ := (Sl.owned qf_len hO2).1.ask3 j hlt
          subst hAv
          have HQ := Lib.hid (HGS.out.2.1 gs[j] (List.getElem_mem hlt))
          have hnt : gs[j] ∉ gs.take j := by
            intro hin
            obtain ⟨i, hi1, hi2⟩ := List.getElem_of_mem hin
            rw [List.getElem_take] at hi2
            rw [List.length_take] at hi1
            have h9 := (List.nodup_iff_pairwise_ne.1 HGS.out.2.2)
            rw [List.pairwise_iff_getElem] at h9
            exact h9 i j (by omega) hlt (by omega) hi2
          have HT := Lib.hid (List.take_append_getElem (l := gs) hlt)
          have HD0 := Lib.hid (show (delF f (gs.take j) gs[j]).isSome = true by unfold delF; rw [if_neg hnt]; exact HQ.out.2)
          have HE := Lib.hid hE
          have HO2 := Lib.hid hO2
          have HC := Lib.hid hC
          clear hE hO2 hC hnt
          generalize gs[j] = q at *
          have hx1 := qbox_of wr q
          go_upto_region 12 with (fail)
          have HX1 := Lib.hid hx1
          clear hx1 a0 a1 a2
          generalize wr.alloc (Obj.cells #[.string q.n, .int .u16 (q.k : Nat), .int .u16 (q.c : Nat)] 25) = w3 at *
          have hE3 := HE.out.block (HX1.out.2.block _ HE.out.lt)
          have hO3 := ownR_below HO2.out HX1.out.2
          have hC3 := HC.out.below HX1.out.2
          obtain ⟨b0, b1, b2⟩ := q_cells (q := q) HX1.out.1
          obtain ⟨c0, c1⟩ := m_cells (HV.out.bh.ch hC3 HV.out.hp)
          have HX3 := Lib.hid (And.intro hE3 (And.intro hO3 hC3))
          clear hE3 hO3 hC3 HX1 HE HO2 HC
          go_still_tail 5, (by kernel_rfl)
          change wpList _ _ _ _ _ w3.drew
          have hd := (Below.refl w3.heap.size w3).drew
          have HX4 := Lib.hid (And.intro (HX3.out.1.block (hd.block _ HX3.out.1.lt)) (And.intro (ownR_below HX3.out.2.1 hd) (HX3.out.2.2.below hd)))
          clear hd b0 b1 b2 c0 c1 HX3
          generalize w3.drew = w4 at *
          go_upto_region 13 with (refine wpList_em_del rfl _ _ rfl q HQ.out.1 rfl HX4.out.1 rfl ?_; intro w5 he5 ht5)
          rw [HD0.out, if_pos rfl, delF_snoc, HT.out] at he5
          have hc5 : Ch (fun i => i = p) w4 w5 := (Ch.refl _ w4).grown ht5.grown rfl
          have HX5 := Lib.hid (And.intro he5 (And.intro (ownR_ch HX4.out.2.1 hc5 (fun i hi => by have := HLT.out.1; omega)) (HX4.out.2.2.trans hc5)))
          clear he5 ht5 hc5 HX4
          go_wp2_with fail
          go_roundw
          case rel => exact ⟨j + 1, hlt, by go_num, by rw [← Nat.sub_sub]; exact HX5.out.1, HX5.out.2⟩
          case measure => simp [intOf]; omega
        · obtain rfl : j = gs.length := by omega
          have d1 : decide ((gs.length : Int) < (gs.length : Nat)) = false := by simp
          rw [List.take_length] at hE
          have HE := Lib.hid (And.intro hE hC)
          have HSo := Lib.hid (sort_any (Nat.le_trans hgl (by omega)) hO2)
          have hsg := sortQs_gone HV.out.ok now HGS.out.2.2 HGS.out.1
          have hgn : gs.length = (goneL m now).length := by rw [← hsg, sortQs_len]
          rw [hsg] at HSo
          have HG := Lib.hid hgn
          clear hE hC hO2 hsg hgn hgl
          go_wp2_with (go_at_call 32; (with_reducible (refine (HSo.out).mono ?_)); rintro e w5 ⟨rfl, s5, n5, b5⟩; have HS5 := Lib.hid (And.intro s5 (And.intro n5 b5)); clear s5 n5 b5)
          go_ret
          have hb5 := HS5.out.2.2.mono (show w.heap.size ≤ w.heap.size + 1 by omega)
          have hC5 := HE.out.2.tail hb5
          refine ⟨delF f gs, Av, cv, by rw [← HG.out]; rfl, HS5.out.1, (fun b off e => by have := HS5.out.2.1 b off e; omega), ⟨ok_left HV.out.ok now, HV.out.hp, HV.out.bh.ch hC5 HV.out.hp, ?_, delF_left HV.out HGS.out.1, fun q x e => ?_⟩, hC5⟩
          · have h1 := gone_len m now
            have h2 := HE.out.1.block (HS5.out.2.2.block p (by have := HLT.out.1; omega))
            rw [show (leftL m now).length = m.length - gs.length by have := HG.out; omega]
            exact h2
          · unfold delF at e
            split at e
            · cases e
            · exact (HV.out.re q x e).ch hC5
    · intro q x w1 cnt1 hf hnq hR1 hlt hg1 hs1 hen
      have hrr := HR.out.left_eq
      have hc1 : Ch (fun i => i = w.heap.size) wr w1 := (Ch.refl _ wr).grown hg1 rfl
      have hO1 := ownR_ch HO.out hc1 (fun i hi => by omega)
      have hB1 : Below w.heap.size w w1 := HB.out.grown hg1 HB.out.size (fun k hk => by cases hk; exact Nat.le_refl _)
      have hP := pair_of w1 q x
      have hlt1 := hR1.lt
      have hp1 : p < w1.heap.size := Nat.lt_of_lt_of_le HLT.out.1 hB1.size
      have HR2 := Lib.hid (hR1.low hP.2.2 hp1 hlt1)
      have HO2 := Lib.hid (ownR_below hO1 hP.2.2)
      have HB2 := Lib.hid (hB1.trans (hP.2.2.mono hB1.size))
      have HZ := Lib.hid (show w.heap.size + 1 ≤ ((w1.alloc (Obj.cells #[.string q.n, .int .u16 (q.k : Nat), .int .u16 (q.c : Nat)] 25)).alloc (Obj.cells #[.string x.e.q.n, .int .u16 (x.e.q.k : Nat), .int .u16 (x.e.q.c : Nat), .slice x.A x.e.l.length x.cap, .int .i64 x.e.rc, .int .i64 x.e.rk, .int .u64 (x.e.ex : Nat)] 35)).heap.size from Nat.le_trans hlt1 hP.2.2.size)
      have hPc := pair_of w1 q x
      rw [hs1] at hPc
      have HP := Lib.hid hPc
      clear hPc
      have HK := Lib.hid (And.intro hf hnq)
      have HLq := Lib.hid (HL.out x)
      clear hP hO1 hB1 hR1 hc1 hg1 hlt1 hp1 hf hnq HO HB
      have hrw := hrr.symm
      unfold qV at hen ⊢
      rw [evV_eq] at hen ⊢
      go_upto_region 7 with (fail)
      obtain ⟨b0, b1, b2⟩ := q_cells (q := q) HP.out.1
      obtain ⟨e0, e1, e2, e3, e4, e5, e6⟩ := e_cells (x := x) HP.out.2.1
      clear e0 e1 e2 e3 e4 e5 hen HP
      generalize (w1.alloc (Obj.cells #[.string q.n, .int .u16 (q.k : Nat), .int .u16 (q.c : Nat)] 25)).alloc (Obj.cells #[.string x.e.q.n, .int .u16 (x.e.q.k : Nat), .int .u16 (x.e.q.c : Nat), .slice x.A x.e.l.length x.cap, .int .i64 x.e.rc, .int .i64 x.e.rk, .int .u64 (x.e.ex : Nat)] 35) = w2 at *
      by_cases hl : now < x.e.ex
      · rw [decide_eq_true hl] at HLq
        have hno : goneB f now q = false := by unfold goneB; rw [HK.out.1]; simp [hl]
        have HF := Lib.hid (show w2.ownsRow (w.heap.size + 1) 25 3 (.slice Av (done.filter (goneB f now)).length cv) ((done ++ [q]).filter (goneB f now)).length (((done ++ [q]).filter (goneB f now)).flatMap qf) by rw [gs_snoc_no done hno]; exact HO2.out)
        clear hl hno HO2 b0 b1 b2
        go_wp2_with (go_at_call 29; (with_reducible (refine (HLq.out _).mono ?_)); rintro e w4 ⟨rfl, rfl⟩)
        go_roundw
        case rel => exact ⟨done ++ [q], cnt1, HR2.out, HF.out, HB2.out, List.nodup_append.2 ⟨hnd, List.pairwise_singleton _ _, fun a ha b hb => by rw [List.mem_singleton] at hb; subst hb; intro e; subst e; exact HK.out.2 ha⟩, by rw [List.length_append, List.length_singleton]; omega⟩
        case measure => rw [HR2.out.left_eq, hrr]; exact hlt
      · rw [decide_eq_false hl] at HLq
        have hyes : goneB f now q = true := by unfold goneB; rw [HK.out.1]; simp [hl]
        have HGS := Lib.hid (gs_snoc_yes done hyes)
        have hgl : (done.filter (goneB f now)).length ≤ 1000 := Nat.le_trans (List.length_filter_le _ _) (by have := HM.out; omega)
        clear hl hyes
        go_upto_region 8 with (go_at_call 29; (with_reducible (refine (HLq.out _).mono ?_)); rintro e w4 ⟨rfl, rfl⟩)
        clear e6
        have hP5 := qbox_of w4 q
        have HO5 := Lib.hid (ownR_below HO2.out hP5.2)
        have HB5 := Lib.hid (HB2.out.trans (hP5.2.mono HB2.out.size))
        have HR5 := Lib.hid (HR2.out.low hP5.2 (Nat.lt_of_lt_of_le HLT.out.1 HB2.out.size) HR2.out.lt)
        have HZ5 := Lib.hid (Nat.le_trans HZ.out hP5.2.size)
        clear hP5 HO2 HB2 HR2 HLq HZ
        generalize HG : done.filter (goneB f now) = ks at *
        go_wp2_with ((at_builtin; (refine wpList_append_own _ rfl _ _ 51 rfl (w.heap.size + 1) 25 i0 (qV ⟨⟨#[]⟩, 0, 0⟩) 3 24 Try.underlying51 hi hz0 hz1 hz2 rfl (by decide) _ _ _ rfl HO5.out ⟨w4.heap.size, 0, none⟩ 1 1 (qf q) rfl rfl (newQ w4 q) ?q3 ?q4 ?q5 HZ5.out ?_)))
        case q3 => exact fun u hu => qf_one [q] u (by simpa using hu)
        case q4 => unfold maxLen; omega
        case q5 => omega
        intro v' w6 hown2 hgrow hnil
        have hb6 := HB5.out.grown hgrow HB5.out.size (fun k hk => Nat.le_trans (Nat.le_succ _) (HO5.out.lt k hk).1)
        have hr6 := HR5.out.kept hgrow (fun e => by have := (HO5.out.lt p e.symm).1; have := HLT.out.1; omega) (fun e => by have := (HO5.out.lt w.heap.size e.symm).1; omega)
        rw [show ks.length + 1 = ((done ++ [q]).filter (goneB f now)).length by rw [HGS.out]; simp, show ks.flatMap qf ++ qf q = ((done ++ [q]).filter (goneB f now)).flatMap qf by rw [HGS.out, List.flatMap_append]; simp] at hown2
        have HF := Lib.hid (And.intro hr6 (And.intro hown2 hb6))
        clear hown2 hgrow hnil hb6 hr6
        go_wp2_with fail
        go_roundw
        case rel => exact ⟨done ++ [q], cnt1, HF.out.1, HF.out.2.1, HF.out.2.2, List.nodup_append.2 ⟨hnd, List.pairwise_singleton _ _, fun a ha b hb => by rw [List.mem_singleton] at hb; subst hb; intro e; subst e; exact HK.out.2 ha⟩, by rw [List.length_append, List.length_singleton]; omega⟩
        case measure => rw [HF.out.1.left_eq, hrr]; exact hlt
end Go.Proofs.Ytnmgeoeppfdnhaa
