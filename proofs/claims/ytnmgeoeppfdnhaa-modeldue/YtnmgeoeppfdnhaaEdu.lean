/- The law ModelDue (written by tools/gen_edu.py). -/
import Derived.Test.YtnmgeoeppfdnhaaEdr
import Derived.Deep.RegionHeld3
namespace Go.Proofs.Ytnmgeoeppfdnhaa.D
open Go.RowKit
set_option linter.unusedVariables false
set_option linter.unusedSimpArgs false

structure Ld (W w : World) (h p : Nat) (m : List En) (f : Qu → Option Ev) (q : Qu) : Prop where
  lo : Below W.heap.size W w
  bq : Blk w W.heap.size 25 (qf q).toArray
  mh : Mh w h p 5 m f
  wp : W.heap.size < p
section
variable {W w w' : World} {h p : Nat} {m m' : List En} {f f' : Qu → Option Ev} {q : Qu} {now : Nat}
theorem Ld.low (z : Ld W w h p m f q) (hb : Below w.heap.size w w') : Ld W w' h p m f q := ⟨z.lo.trans (hb.mono z.lo.size), z.bq.eq (hb.block _ z.bq.lt), z.mh.low hb, z.wp⟩
theorem Ld.turn (z : Ld W w h p m f q) (v : Mh w' h p 5 m' f') (hc : Ch (fun i => i = p) w w') : Ld W w' h p m' f' q :=
  ⟨((Ch.bel z.lo).trans hc).isBelow (n := W.heap.size) (fun i e => by have := z.wp; omega) (Nat.le_refl _), z.bq.ch hc (fun e => by have := z.wp; omega), v, z.wp⟩
theorem left_is (ok : Mok m) (q : Qu) (now : Nat) : (entL (leftL m now) q).isSome = (lookL m q now).2 := by
  rw [ent_left ok]
  unfold lookL
  cases entL m q with
  | none => rfl
  | some e =>
    by_cases h : now < e.ex
    · simp [Option.filter, h]
    · simp [Option.filter, h]
theorem left_look (ok : Mok m) (q : Qu) (now : Nat) : (lookL (leftL m now) q now).2 = (lookL m q now).2 := by
  have e1 := ent_left ok now q
  unfold lookL
  rw [e1]
  cases entL m q with
  | none => rfl
  | some e =>
    by_cases h : now < e.ex
    · simp [Option.filter, h]
    · simp [Option.filter, h]
theorem gone_is (ok : Mok m) (q : Qu) (now : Nat) : decide (q ∈ goneL m now) = ((entL m q).isSome && !(lookL m q now).2) := by
  have h := mem_goneL ok now q
  unfold lookL
  cases he : entL m q with
  | none =>
    rw [he] at h
    have : ¬ q ∈ goneL m now := fun hq => by obtain ⟨e, h1, _⟩ := h.1 hq; cases h1
    simp [this]
  | some e =>
    rw [he] at h
    by_cases hl : now < e.ex
    · have : ¬ q ∈ goneL m now := fun hq => by obtain ⟨e2, h1, h2⟩ := h.1 hq; cases h1; exact h2 hl
      simp [this, hl]
    · have : q ∈ goneL m now := h.2 ⟨e, rfl, hl⟩
      simp [this, hl]
theorem gone_left (m : List En) (now : Nat) : goneL (leftL m now) now = [] := by
  have h := gone_len (leftL m now) now
  have h2 : leftL (leftL m now) now = leftL m now := by unfold leftL; rw [List.filter_filter]; simp
  rw [h2] at h
  exact List.length_eq_zero_iff.1 (by omega)
theorem gone_no (ok : Mok m) (now : Nat) {j : Nat} (hj : j < (goneL m now).length) : (entL (leftL m now) (goneL m now)[j]).isSome = false := by
  obtain ⟨e, he, hl⟩ := (mem_goneL ok now _).1 (List.getElem_mem hj)
  rw [ent_left ok, he]
  simp [Option.filter, hl]
theorem gone_up (ok : Mok m) (now : Nat) {j k : Nat} (hj : j < (goneL m now).length) (hk : k < j) : lessQ ((goneL m now)[k]'(by omega)) (goneL m now)[j] = true :=
  List.pairwise_iff_getElem.1 (gone_rise ok now) k j (by omega) hj hk
theorem gone_fines (v : Mh w h p 5 m f) (now : Nat) {j : Nat} (hj : j < (goneL m now).length) : ((goneL m now)[j]).Fine := by
  obtain ⟨e, he, _⟩ := (mem_goneL v.ok now _).1 (List.getElem_mem hj)
  have h1 := v.ent (goneL m now)[j]
  rw [he] at h1
  cases hf : f (goneL m now)[j] with
  | none => rw [hf] at h1; cases h1
  | some x =>
    have h2 := (v.re _ x hf).q
    rw [v.q hf] at h2
    exact h2
theorem gone_all (v : Mh w h p 5 m f) (now : Nat) {gq : List Qu} (hg : goneL m now = gq) (j : Nat) (hj : j < gq.length) : (entL (leftL m now) gq[j]).isSome = false ∧ gq[j].Fine ∧ ∀ (k : Nat) (hk : k < j), lessQ (gq[k]'(by omega)) gq[j] = true := by
  subst hg
  exact ⟨gone_no v.ok now hj, gone_fines v now hj, fun k hk => gone_up v.ok now hj hk⟩
end
set_option maxRecDepth 100000 in
set_option maxHeartbeats 8000000 in
theorem due_law (A : Option Addr) (cap : Nat) (zs : List Dd) (now : Nat) (q : Qu) (hnow : now < 18446744073709551616) (hq : q.Fine) (W : World) (hS : Sl df W A cap zs) (hD : ∀ D ∈ zs, ArgD W D) :
    Calls Try.prog 6 #[.slice A zs.length cap, .int .u64 (now : Nat), qV q] W fun e w' => e = .returned (.bool true) ∧ Below W.heap.size W w' := by
  unfold qV
  have HX := Lib.hid (qbox_of W q)
  have HA := Lib.hid (And.intro hS hD)
  unfold qf at HX
  clear hS hD hnow
  have HSh := Lib.hid (fun V => shown_any V)
  go_enter Try.func6, Try.ntmps6
  go_upto_region 1 with (fail)
  generalize W.alloc (Obj.cells #[.string q.n, .int .u16 (q.k : Nat), .int .u16 (q.c : Nat)] 25) = w1 at *
  go_upto_region 2 with (go_at_call 9; (with_reducible (refine (HSh.out _).mono ?_)); rintro e w2 ⟨rfl, hb2⟩; have HX2 := Lib.hid (And.intro (HX.out.1.eq (hb2.block _ HX.out.1.lt)) (HX.out.2.trans (hb2.mono HX.out.2.size))); clear hb2)
  have HR := Lib.hid (ran_any A cap zs w2 (HA.out.1.below' HX2.out.2) (fun D hD => argd_low (HA.out.2 D hD) HX2.out.2))
  clear HX HSh
  go_upto_region 3 with (go_at_call 16; (with_reducible (refine (HR.out).mono ?_)); rintro e w3 ⟨h, p, m, f, rfl, v3, l3, b3, hh, hp⟩; have HZ3 := Lib.hid (show Ld W w3 h p m f q from ⟨HX2.out.2.trans (b3.mono HX2.out.2.size), HX2.out.1.eq (b3.block _ HX2.out.1.lt), v3, Nat.lt_of_lt_of_le HX2.out.1.lt hp⟩); have HP := Lib.hid l3; clear v3 l3 b3 hh hp)
  clear HR HX2
  have hgl := gone_len m now
  obtain ⟨gq, hgq⟩ : ∃ gq, goneL m now = gq := ⟨_, rfl⟩
  rw [hgq] at hgl
  have hln := len_any HZ3.out.mh
  rw [show ((m.length : Nat) : Int) = (((leftL m now).length : Nat) : Int) + ((gq.length : Nat) : Int) by omega] at hln
  have HLn := Lib.hid hln
  have HN5 := Lib.hid (show (leftL m now).length ≤ 5 ∧ gq.length ≤ 5 by have := HP.out; omega)
  have HG := Lib.hid (And.intro (left_is HZ3.out.mh.ok q now) (And.intro (left_look HZ3.out.mh.ok q now) (And.intro (hgq ▸ gone_is HZ3.out.mh.ok q now : decide (q ∈ gq) = ((entL m q).isSome && !(lookL m q now).2)) (gone_left m now))))
  have HGn := Lib.hid (fun j hj => gone_all HZ3.out.mh now hgq j hj)
  have HGq := Lib.hid hgq
  obtain ⟨E1, HE1⟩ : ∃ E, Hid ((lookL m q now).1 = E) := ⟨_, Lib.hid rfl⟩
  obtain ⟨lv, HI1⟩ : ∃ is, Hid ((lookL m q now).2 = is) := ⟨_, Lib.hid rfl⟩
  obtain ⟨hb, HB1⟩ : ∃ is, Hid ((entL m q).isSome = is) := ⟨_, Lib.hid rfl⟩
  simp only [HI1.out, HB1.out] at HG
  clear hgl hln hgq
  go_upto_region 4 with (go_at_call 13; (with_reducible (refine (HLn.out).mono ?_)); rintro e w4 ⟨rfl, rfl⟩)
  clear HLn
  have hL := look_any q hq now HZ3.out.mh
  rw [HE1.out, HI1.out] at hL
  unfold qV at hL
  simp only [evV_eq] at hL
  have HL := Lib.hid hL
  clear hL
  obtain ⟨b0, b1, b2⟩ := q_cells (q := q) HZ3.out.bq
  go_upto_region 5 with (first | (refine wpList_store_row rfl 35 _ _ rfl (w5.heap.size) (evL ⟨E1, A5, c5⟩).toArray rfl rfl 35 _ HNw.out (infoEa _) rfl (evL_one _) ?_) | (go_at_call 17; (with_reducible (refine (HL.out).mono ?_)); rintro e w5 ⟨A5, c5, rfl, s1, n1, hb1⟩; have HV := Lib.hid (And.intro hb1 (And.intro s1 n1)); have HNw := Lib.hid (Blk.new w5 35 zE); unfold zE at HNw; clear s1 n1 hb1))
  clear b0 b1 b2
  have hbl := (Bx.new (e := E1) HZ3.out.mh HV.out.1 HV.out.2.1 HV.out.2.2).2
  clear HL HV HNw
  have HZ6 := Lib.hid (HZ3.out.low hbl)
  clear hbl HZ3
  generalize (w5.alloc (Obj.cells #[.string ⟨#[]⟩, .int .u16 0, .int .u16 0, .slice none 0 0, .int .i64 0, .int .i64 0, .int .u64 0] 35)).setRow w5.heap.size (evL ⟨E1, A5, c5⟩).toArray = w6 at *
  generalize w5.heap.size = r5 at *
  have hH := has_any q hq HZ6.out.mh
  rw [HB1.out] at hH
  unfold qV at hH
  have HH := Lib.hid hH
  clear hH
  obtain ⟨b0, b1, b2⟩ := q_cells (q := q) HZ6.out.bq
  go_upto_region 6 with (go_at_call 14; (with_reducible (refine (HH.out).mono ?_)); rintro e w7 ⟨rfl, hb7⟩; have HZ7 := Lib.hid (HZ6.out.low hb7); clear hb7)
  clear b0 b1 b2
  clear HH HZ6
  have hdu := due_any now HZ7.out.mh (by have := HP.out; omega)
  rw [HGq.out] at hdu
  have HDu := Lib.hid hdu
  clear hdu HGq
  go_upto_region 7 with (go_at_call 21; (with_reducible (refine (HDu.out).mono ?_)); rintro e w8 ⟨f8, Ag, cg, rfl, s8, n8, v8, k8⟩; have HZ8 := Lib.hid (And.intro (HZ7.out.turn v8 k8) s8); clear v8 k8 s8 n8)
  clear HDu HZ7
  generalize leftL m now = m1 at *
  go_wp2_with fail
  go_loopw [14, 15] (fun tv x wr => ∃ j : Nat, j ≤ gq.length ∧ x = .int .i64 j ∧ tv = .bool (decide (q ∈ gq.take j)) ∧ Below w8.heap.size w8 wr) (fun _ x _ => gq.length - (intOf x).toNat)
  case atStart => exact ⟨0, Nat.zero_le _, rfl, by simp, Below.refl _ _⟩
  case round =>
    obtain ⟨j, hj, rfl, rfl, hbr⟩ := hrel
    have HZr := Lib.hid (And.intro (HZ8.out.1.low hbr) (And.intro (HZ8.out.2.below' hbr) hbr))
    clear hbr
    by_cases hlt : j < gq.length
    · have d1 : decide ((j : Int) < (gq.length : Nat)) = true := by simp; omega
      have s0 : (0 : Int) ≤ (j : Nat) := by omega
      have s1 : (j : Int) < (gq.length : Nat) := by omega
      obtain ⟨b, off, hAg, hbb, a0, a1, a2⟩ := HZr.out.2.1.ask3 j hlt
      subst hAg
      have HTk := Lib.hid (List.take_append_getElem (l := gq) hlt)
      obtain ⟨g1, g2, g3⟩ := HGn.out j hlt
      have hq8 := HZr.out.1.bq
      obtain ⟨b0, b1, b2⟩ := q_cells (q := q) hq8
      -- the one ahead
      have hpr : 0 < j → ∃ k : Nat, k + 1 = j ∧ ∃ oq : Qu, lessQ oq gq[j] = true ∧ wr.cell? ⟨b, off + k * 3, none⟩ = some (.string oq.n) ∧ wr.cell? ⟨b, off + k * 3 + 1, none⟩ = some (.int .u16 (oq.k : Nat)) ∧ wr.cell? ⟨b, off + k * 3 + 2, none⟩ = some (.int .u16 (oq.c : Nat)) := by
        intro hpos
        have hk : j - 1 < gq.length := by omega
        obtain ⟨b', off', e1, _, z0, z1, z2⟩ := HZr.out.2.1.ask3 (j - 1) hk
        cases e1
        exact ⟨j - 1, by omega, gq[j - 1], g3 (j - 1) (by omega), z0, z1, z2⟩
      have HPr := Lib.hid hpr
      have HGj := Lib.hid (And.intro g1 g2)
      clear g1 g2 g3 hpr hbb hq8
      generalize gq[j] = gj at *
      have HT2 := Lib.hid (show decide (q ∈ gq.take (j + 1)) = (decide (q ∈ gq.take j) || decide (gj = q)) by
        rw [← HTk.out]
        by_cases h1 : q ∈ gq.take j
        · simp [h1]
        · by_cases h2 : gj = q
          · simp [h2]
          · have h3 : ¬ q = gj := fun e => h2 e.symm
            simp [h1, h2, h3])
      clear HTk
      obtain ⟨tv, htv⟩ : ∃ tv, decide (q ∈ gq.take j) = tv := ⟨_, rfl⟩
      rw [htv] at HT2 ⊢
      clear htv
      have qe := fun V => eq_qu gj q V
      obtain ⟨te, hte⟩ : ∃ te, decide (gj = q) = te := ⟨_, rfl⟩
      rw [hte] at HT2
      simp only [hte] at qe
      clear hte
      have HC1 := Lib.hid (fun (w' : World) (s : Below wr.heap.size wr w') => (show Calls Try.prog 14 #[.pointer (some ⟨h, 0, none⟩), .agg #[.string gj.n, .int .u16 (gj.k : Nat), .int .u16 (gj.c : Nat)]] w' (fun e w'' => e = .returned (.bool false) ∧ Below wr.heap.size wr w'') from (has_any gj HGj.out.2 (HZr.out.1.mh.low s)).mono (by rintro e w5 ⟨rfl, hb5⟩; exact ⟨by rw [HGj.out.1], s.trans (hb5.mono s.size)⟩)))
      by_cases hj0 : 0 < j
      · obtain ⟨k, hk, oq, hle, z0, z1, z2⟩ := HPr.out hj0
        have hsub : ((j : Nat) : Int) - 1 = (k : Nat) := by omega
        have d3 : decide ((0 : Int) < (j : Nat)) = true := by simp; omega
        have d4 : decide (0 < j) = true := by simpa using hj0
        have t0 : (0 : Int) ≤ (k : Nat) := by omega
        have t1 : (k : Int) < (gq.length : Nat) := by omega
        have hwr : IntKind.i64.wrap (((j : Nat) : Int) - 1) = ((k : Nat) : Int) := by rw [hsub]; simp [IntKind.wrap, IntKind.bits, IntKind.signed]; have := HN5.out.2; omega
        have hwk : IntKind.i64.wrap ((k : Nat) : Int) = ((k : Nat) : Int) := by rw [← hsub, hwr, hsub]
        have hj5 : j ≤ 5 := by have := HN5.out.2; omega
        have HC2 := Lib.hid (fun (w' : World) (s : Below wr.heap.size wr w') => (less_any oq gj w').mono (R' := fun e w'' => e = .returned (.bool true) ∧ Below wr.heap.size wr w'') (by rintro e w5 ⟨rfl, hb5⟩; exact ⟨by rw [hle], s.trans (hb5.mono s.size)⟩))
        have HF := Lib.hid (fun (w' : World) (s : Below wr.heap.size wr w') => (show Below wr.heap.size wr w' ∧ w'.cell? ⟨b, off + j * 3, none⟩ = some (.string gj.n) ∧ w'.cell? ⟨b, off + j * 3 + 1, none⟩ = some (.int .u16 (gj.k : Nat)) ∧ w'.cell? ⟨b, off + j * 3 + 2, none⟩ = some (.int .u16 (gj.c : Nat)) ∧ w'.cell? ⟨b, off + k * 3, none⟩ = some (.string oq.n) ∧ w'.cell? ⟨b, off + k * 3 + 1, none⟩ = some (.int .u16 (oq.k : Nat)) ∧ w'.cell? ⟨b, off + k * 3 + 2, none⟩ = some (.int .u16 (oq.c : Nat)) from ⟨s, (s.cell (p := ⟨b, off + j * 3, none⟩) (cell_size a0)).trans a0, (s.cell (p := ⟨b, off + j * 3 + 1, none⟩) (cell_size a1)).trans a1, (s.cell (p := ⟨b, off + j * 3 + 2, none⟩) (cell_size a2)).trans a2, (s.cell (p := ⟨b, off + k * 3, none⟩) (cell_size z0)).trans z0, (s.cell (p := ⟨b, off + k * 3 + 1, none⟩) (cell_size z1)).trans z1, (s.cell (p := ⟨b, off + k * 3 + 2, none⟩) (cell_size z2)).trans z2⟩))
        have HHle := Lib.hid hle
        have HHk := Lib.hid hk
        clear hle hk z0 z1 z2 HPr
        cases tv
        · go_upto_region 11 with (fail)
          go_quiet (fail)
          have HD := Lib.hid (below_drewN wr nq)
          go_upto_region 12 with (fail)
          clear a0 a1 a2 b0 b1 b2 qe
          generalize wr.drewN nq = w9 at *
          have HS1 := Lib.hid (fun (w' : World) (s : Below wr.heap.size wr w' ∧ w'.cell? ⟨b, off + j * 3, none⟩ = some (.string gj.n) ∧ w'.cell? ⟨b, off + j * 3 + 1, none⟩ = some (.int .u16 (gj.k : Nat)) ∧ w'.cell? ⟨b, off + j * 3 + 2, none⟩ = some (.int .u16 (gj.c : Nat)) ∧ w'.cell? ⟨b, off + k * 3, none⟩ = some (.string oq.n) ∧ w'.cell? ⟨b, off + k * 3 + 1, none⟩ = some (.int .u16 (oq.k : Nat)) ∧ w'.cell? ⟨b, off + k * 3 + 2, none⟩ = some (.int .u16 (oq.c : Nat))) => HC1.out w' s.1)
          have HS2 := Lib.hid (fun (w' : World) (s : Below wr.heap.size wr w' ∧ w'.cell? ⟨b, off + j * 3, none⟩ = some (.string gj.n) ∧ w'.cell? ⟨b, off + j * 3 + 1, none⟩ = some (.int .u16 (gj.k : Nat)) ∧ w'.cell? ⟨b, off + j * 3 + 2, none⟩ = some (.int .u16 (gj.c : Nat)) ∧ w'.cell? ⟨b, off + k * 3, none⟩ = some (.string oq.n) ∧ w'.cell? ⟨b, off + k * 3 + 1, none⟩ = some (.int .u16 (oq.k : Nat)) ∧ w'.cell? ⟨b, off + k * 3 + 2, none⟩ = some (.int .u16 (oq.c : Nat))) => HC2.out w' s.1)
          have G0 := Lib.hid (HD.out.drew)
          go_region_held3 (fun w' => Below wr.heap.size wr w' ∧ w'.cell? ⟨b, off + j * 3, none⟩ = some (.string gj.n) ∧ w'.cell? ⟨b, off + j * 3 + 1, none⟩ = some (.int .u16 (gj.k : Nat)) ∧ w'.cell? ⟨b, off + j * 3 + 2, none⟩ = some (.int .u16 (gj.c : Nat)) ∧ w'.cell? ⟨b, off + k * 3, none⟩ = some (.string oq.n) ∧ w'.cell? ⟨b, off + k * 3 + 1, none⟩ = some (.int .u16 (oq.k : Nat)) ∧ w'.cell? ⟨b, off + k * 3 + 2, none⟩ = some (.int .u16 (oq.c : Nat))) (first | exact HF.out _ G0.out | exact HF.out _ (by assumption)) (first | (go_at_call 14; with_reducible (refine (HS1.out _ (by assumption)).mono ?_); rintro e w4 ⟨rfl, hb4⟩) | (go_at_call 22; with_reducible (refine (HS2.out _ (by assumption)).mono ?_); rintro e w5 ⟨rfl, hb5⟩))
          all_goals (go_wp2_with fail)
          all_goals (go_roundw)
          case rel => exact ⟨j + 1, hlt, by go_num, by rw [HT2.out]; first | rfl | simp, HZr.out.2.2.trans (Below.mono (by assumption) HZr.out.2.2.size)⟩
          case measure => simp [intOf]; omega
        · go_upto_region 11 with (fail)
          go_quiet (fail)
          have HD := Lib.hid (below_drewN wr nq)
          go_upto_region 12 with (fail)
          clear a0 a1 a2 b0 b1 b2 qe
          generalize wr.drewN nq = w9 at *
          have HS1 := Lib.hid (fun (w' : World) (s : Below wr.heap.size wr w' ∧ w'.cell? ⟨b, off + j * 3, none⟩ = some (.string gj.n) ∧ w'.cell? ⟨b, off + j * 3 + 1, none⟩ = some (.int .u16 (gj.k : Nat)) ∧ w'.cell? ⟨b, off + j * 3 + 2, none⟩ = some (.int .u16 (gj.c : Nat)) ∧ w'.cell? ⟨b, off + k * 3, none⟩ = some (.string oq.n) ∧ w'.cell? ⟨b, off + k * 3 + 1, none⟩ = some (.int .u16 (oq.k : Nat)) ∧ w'.cell? ⟨b, off + k * 3 + 2, none⟩ = some (.int .u16 (oq.c : Nat))) => HC1.out w' s.1)
          have HS2 := Lib.hid (fun (w' : World) (s : Below wr.heap.size wr w' ∧ w'.cell? ⟨b, off + j * 3, none⟩ = some (.string gj.n) ∧ w'.cell? ⟨b, off + j * 3 + 1, none⟩ = some (.int .u16 (gj.k : Nat)) ∧ w'.cell? ⟨b, off + j * 3 + 2, none⟩ = some (.int .u16 (gj.c : Nat)) ∧ w'.cell? ⟨b, off + k * 3, none⟩ = some (.string oq.n) ∧ w'.cell? ⟨b, off + k * 3 + 1, none⟩ = some (.int .u16 (oq.k : Nat)) ∧ w'.cell? ⟨b, off + k * 3 + 2, none⟩ = some (.int .u16 (oq.c : Nat))) => HC2.out w' s.1)
          have G0 := Lib.hid (HD.out.drew)
          go_region_held3 (fun w' => Below wr.heap.size wr w' ∧ w'.cell? ⟨b, off + j * 3, none⟩ = some (.string gj.n) ∧ w'.cell? ⟨b, off + j * 3 + 1, none⟩ = some (.int .u16 (gj.k : Nat)) ∧ w'.cell? ⟨b, off + j * 3 + 2, none⟩ = some (.int .u16 (gj.c : Nat)) ∧ w'.cell? ⟨b, off + k * 3, none⟩ = some (.string oq.n) ∧ w'.cell? ⟨b, off + k * 3 + 1, none⟩ = some (.int .u16 (oq.k : Nat)) ∧ w'.cell? ⟨b, off + k * 3 + 2, none⟩ = some (.int .u16 (oq.c : Nat))) (first | exact HF.out _ G0.out | exact HF.out _ (by assumption)) (first | (go_at_call 14; with_reducible (refine (HS1.out _ (by assumption)).mono ?_); rintro e w4 ⟨rfl, hb4⟩) | (go_at_call 22; with_reducible (refine (HS2.out _ (by assumption)).mono ?_); rintro e w5 ⟨rfl, hb5⟩))
          all_goals (go_wp2_with fail)
          all_goals (go_roundw)
          case rel => exact ⟨j + 1, hlt, by go_num, by rw [HT2.out]; first | rfl | simp, HZr.out.2.2.trans (Below.mono (by assumption) HZr.out.2.2.size)⟩
          case measure => simp [intOf]; omega
      · have d3 : decide ((0 : Int) < (j : Nat)) = false := by simp; omega
        have d4 : decide (0 < j) = false := by simpa using hj0
        have HF := Lib.hid (fun (w' : World) (s : Below wr.heap.size wr w') => (show Below wr.heap.size wr w' ∧ w'.cell? ⟨b, off + j * 3, none⟩ = some (.string gj.n) ∧ w'.cell? ⟨b, off + j * 3 + 1, none⟩ = some (.int .u16 (gj.k : Nat)) ∧ w'.cell? ⟨b, off + j * 3 + 2, none⟩ = some (.int .u16 (gj.c : Nat)) from ⟨s, (s.cell (p := ⟨b, off + j * 3, none⟩) (cell_size a0)).trans a0, (s.cell (p := ⟨b, off + j * 3 + 1, none⟩) (cell_size a1)).trans a1, (s.cell (p := ⟨b, off + j * 3 + 2, none⟩) (cell_size a2)).trans a2⟩))
        clear HPr
        cases tv
        · go_upto_region 11 with (fail)
          go_quiet (fail)
          have HD := Lib.hid (below_drewN wr nq)
          go_upto_region 12 with (fail)
          clear a0 a1 a2 b0 b1 b2 qe
          generalize wr.drewN nq = w9 at *
          have HD2 := Lib.hid (HD.out.drew)
          have HS0 := Lib.hid (HF.out _ HD2.out)
          refine wp_region_held_drew (S := fun w' => Below wr.heap.size wr w' ∧ w'.cell? ⟨b, off + j * 3, none⟩ = some (.string gj.n) ∧ w'.cell? ⟨b, off + j * 3 + 1, none⟩ = some (.int .u16 (gj.k : Nat)) ∧ w'.cell? ⟨b, off + j * 3 + 2, none⟩ = some (.int .u16 (gj.c : Nat))) (by kernel_rfl) HS0.out (fun _ => ?_)
          generalize w9.drew = w10 at *
          refine wpAnyH_take (i := 0) (v := ?_) rfl (by kernel_rfl) (by kernel_rfl) (by kernel_rfl) (fun _ _ _ h => h) (Or.inl ⟨by rfl, ?_⟩) (by assumption) ?_
          rotate_left
          · (intro wq hSw; go_simp; try (with_reducible rfl))
          try simp only [Act.put, List.getElem_toArray, List.getElem_cons_zero, List.getElem_cons_succ, List.setIfInBounds_toArray, List.set_cons_zero, List.set_cons_succ]
          refine wpAnyH_take (i := 1) (v := ?_) rfl (by kernel_rfl) (by kernel_rfl) (by kernel_rfl) (fun _ _ _ h => h) (Or.inl ⟨by rfl, ?_⟩) (by assumption) ?_
          rotate_left
          · (intro wq hSw; go_simp; try (with_reducible rfl))
          try simp only [Act.put, List.getElem_toArray, List.getElem_cons_zero, List.getElem_cons_succ, List.setIfInBounds_toArray, List.set_cons_zero, List.set_cons_succ]
          refine wpAnyH_take (i := 2) (v := ?_) rfl (by kernel_rfl) (by kernel_rfl) (by kernel_rfl) (fun _ _ _ h => h) (Or.inl ⟨by rfl, ?_⟩) (by assumption) ?_
          rotate_left
          · (intro wq hSw; go_simp; try (with_reducible rfl))
          try simp only [Act.put, List.getElem_toArray, List.getElem_cons_zero, List.getElem_cons_succ, List.setIfInBounds_toArray, List.set_cons_zero, List.set_cons_succ]
          refine wpAnyH_take (i := 3) (v := ?_) rfl (by kernel_rfl) (by kernel_rfl) (by kernel_rfl) (fun _ _ _ h => h) (Or.inl ⟨by rfl, ?_⟩) (by assumption) ?_
          rotate_left
          · (intro wq hSw; go_simp; try (with_reducible rfl))
          try simp only [Act.put, List.getElem_toArray, List.getElem_cons_zero, List.getElem_cons_succ, List.setIfInBounds_toArray, List.set_cons_zero, List.set_cons_succ]
          refine wpAnyH_take (i := 4) (v := .agg #[.string gj.n, .int .u16 (gj.k : Nat), .int .u16 (gj.c : Nat)]) rfl (by kernel_rfl) (by kernel_rfl) (by kernel_rfl) (fun _ _ _ h => h) (Or.inl ⟨by rfl, ?_⟩) (by assumption) ?_
          · (intro wq hSw; obtain ⟨hb0, x0, x1, x2⟩ := hSw; go_simp; try rfl)
          try simp only [Act.put, List.getElem_toArray, List.getElem_cons_zero, List.getElem_cons_succ, List.setIfInBounds_toArray, List.set_cons_zero, List.set_cons_succ]
          refine wpAnyH_ready (rs := [5]) (by kernel_rfl) (by simp) ?_
          refine AllReadyH.cons rfl (fun K hK => ?_) AllReadyH.nil
          rw [if_pos (by rfl)]
          go_simp
          go_at_call 14
          with_reducible (refine (HC1.out _ HD2.out).mono ?_)
          rintro e w4 ⟨rfl, hb4⟩
          refine hK.out _ _ (HF.out _ hb4) (fun _ => ?_)
          clear hK K
          try simp only [Act.put, List.getElem_toArray, List.getElem_cons_zero, List.getElem_cons_succ, List.setIfInBounds_toArray, List.set_cons_zero, List.set_cons_succ]
          refine wpAnyH_take (i := 6) (v := ?_) rfl (by kernel_rfl) (by kernel_rfl) (by kernel_rfl) (fun _ _ _ h => h) (Or.inl ⟨by rfl, ?_⟩) (by assumption) ?_
          rotate_left
          · (intro wq hSw; go_simp; try (with_reducible rfl))
          try simp only [Act.put, List.getElem_toArray, List.getElem_cons_zero, List.getElem_cons_succ, List.setIfInBounds_toArray, List.set_cons_zero, List.set_cons_succ]
          refine wpAnyH_take (i := 7) (v := ?_) rfl (by kernel_rfl) (by kernel_rfl) (by kernel_rfl) (fun _ _ _ h => h) (Or.inl ⟨by rfl, ?_⟩) (by assumption) ?_
          rotate_left
          · (intro wq hSw; go_simp; try (with_reducible rfl))
          try simp only [Act.put, List.getElem_toArray, List.getElem_cons_zero, List.getElem_cons_succ, List.setIfInBounds_toArray, List.set_cons_zero, List.set_cons_succ]
          refine wpAnyH_take (i := 8) (v := .bool false) rfl (by kernel_rfl) (by kernel_rfl) (by kernel_rfl) (fun _ _ _ h => h) (Or.inl ⟨by rfl, ?_⟩) (by assumption) ?_
          · (intro wq hSw; go_simp; try rfl)
          try simp only [Act.put, List.getElem_toArray, List.getElem_cons_zero, List.getElem_cons_succ, List.setIfInBounds_toArray, List.set_cons_zero, List.set_cons_succ]
          refine wpAnyH_take (i := 9) (v := ?_) rfl (by kernel_rfl) (by kernel_rfl) (by kernel_rfl) (fun _ _ _ h => h) (Or.inl ⟨by rfl, ?_⟩) (by assumption) ?_
          rotate_left
          · (intro wq hSw; go_simp; try (with_reducible rfl))
          try simp only [Act.put, List.getElem_toArray, List.getElem_cons_zero, List.getElem_cons_succ, List.setIfInBounds_toArray, List.set_cons_zero, List.set_cons_succ]
          refine wpAnyH_take (i := 10) (v := undef) rfl (by kernel_rfl) (by kernel_rfl) (by kernel_rfl) (fun _ _ _ h => h) (Or.inr ⟨by rfl, rfl⟩) (by assumption) ?_
          try simp only [Act.put, List.getElem_toArray, List.getElem_cons_zero, List.getElem_cons_succ, List.setIfInBounds_toArray, List.set_cons_zero, List.set_cons_succ]
          refine wpAnyH_take (i := 11) (v := undef) rfl (by kernel_rfl) (by kernel_rfl) (by kernel_rfl) (fun _ _ _ h => h) (Or.inr ⟨by rfl, rfl⟩) (by assumption) ?_
          try simp only [Act.put, List.getElem_toArray, List.getElem_cons_zero, List.getElem_cons_succ, List.setIfInBounds_toArray, List.set_cons_zero, List.set_cons_succ]
          refine wpAnyH_take (i := 12) (v := undef) rfl (by kernel_rfl) (by kernel_rfl) (by kernel_rfl) (fun _ _ _ h => h) (Or.inr ⟨by rfl, rfl⟩) (by assumption) ?_
          try simp only [Act.put, List.getElem_toArray, List.getElem_cons_zero, List.getElem_cons_succ, List.setIfInBounds_toArray, List.set_cons_zero, List.set_cons_succ]
          refine wpAnyH_take (i := 13) (v := undef) rfl (by kernel_rfl) (by kernel_rfl) (by kernel_rfl) (fun _ _ _ h => h) (Or.inr ⟨by rfl, rfl⟩) (by assumption) ?_
          try simp only [Act.put, List.getElem_toArray, List.getElem_cons_zero, List.getElem_cons_succ, List.setIfInBounds_toArray, List.set_cons_zero, List.set_cons_succ]
          refine wpAnyH_take (i := 14) (v := undef) rfl (by kernel_rfl) (by kernel_rfl) (by kernel_rfl) (fun _ _ _ h => h) (Or.inr ⟨by rfl, rfl⟩) (by assumption) ?_
          try simp only [Act.put, List.getElem_toArray, List.getElem_cons_zero, List.getElem_cons_succ, List.setIfInBounds_toArray, List.set_cons_zero, List.set_cons_succ]
          refine wpAnyH_take (i := 15) (v := undef) rfl (by kernel_rfl) (by kernel_rfl) (by kernel_rfl) (fun _ _ _ h => h) (Or.inr ⟨by rfl, rfl⟩) (by assumption) ?_
          try simp only [Act.put, List.getElem_toArray, List.getElem_cons_zero, List.getElem_cons_succ, List.setIfInBounds_toArray, List.set_cons_zero, List.set_cons_succ]
          refine wpAnyH_take (i := 16) (v := undef) rfl (by kernel_rfl) (by kernel_rfl) (by kernel_rfl) (fun _ _ _ h => h) (Or.inr ⟨by rfl, rfl⟩) (by assumption) ?_
          try simp only [Act.put, List.getElem_toArray, List.getElem_cons_zero, List.getElem_cons_succ, List.setIfInBounds_toArray, List.set_cons_zero, List.set_cons_succ]
          refine wpAnyH_take (i := 17) (v := undef) rfl (by kernel_rfl) (by kernel_rfl) (by kernel_rfl) (fun _ _ _ h => h) (Or.inr ⟨by rfl, rfl⟩) (by assumption) ?_
          try simp only [Act.put, List.getElem_toArray, List.getElem_cons_zero, List.getElem_cons_succ, List.setIfInBounds_toArray, List.set_cons_zero, List.set_cons_succ]
          refine wpAnyH_take (i := 18) (v := undef) rfl (by kernel_rfl) (by kernel_rfl) (by kernel_rfl) (fun _ _ _ h => h) (Or.inr ⟨by rfl, rfl⟩) (by assumption) ?_
          try simp only [Act.put, List.getElem_toArray, List.getElem_cons_zero, List.getElem_cons_succ, List.setIfInBounds_toArray, List.set_cons_zero, List.set_cons_succ]
          refine wpAnyH_take (i := 19) (v := undef) rfl (by kernel_rfl) (by kernel_rfl) (by kernel_rfl) (fun _ _ _ h => h) (Or.inr ⟨by rfl, rfl⟩) (by assumption) ?_
          try simp only [Act.put, List.getElem_toArray, List.getElem_cons_zero, List.getElem_cons_succ, List.setIfInBounds_toArray, List.set_cons_zero, List.set_cons_succ]
          refine wpAnyH_take (i := 20) (v := undef) rfl (by kernel_rfl) (by kernel_rfl) (by kernel_rfl) (fun _ _ _ h => h) (Or.inr ⟨by rfl, rfl⟩) (by assumption) ?_
          try simp only [Act.put, List.getElem_toArray, List.getElem_cons_zero, List.getElem_cons_succ, List.setIfInBounds_toArray, List.set_cons_zero, List.set_cons_succ]
          refine wpAnyH_take (i := 21) (v := .bool false) rfl (by kernel_rfl) (by kernel_rfl) (by kernel_rfl) (fun _ _ _ h => h) (Or.inl ⟨by rfl, ?_⟩) (by assumption) ?_
          · (intro wq hSw; go_simp; try rfl)
          try simp only [Act.put, List.getElem_toArray, List.getElem_cons_zero, List.getElem_cons_succ, List.setIfInBounds_toArray, List.set_cons_zero, List.set_cons_succ]
          refine wpAnyH_take (i := 22) (v := .bool false) rfl (by kernel_rfl) (by kernel_rfl) (by kernel_rfl) (fun _ _ _ h => h) (Or.inl ⟨by rfl, ?_⟩) (by assumption) ?_
          · (intro wq hSw; go_simp; try rfl)
          try simp only [Act.put, List.getElem_toArray, List.getElem_cons_zero, List.getElem_cons_succ, List.setIfInBounds_toArray, List.set_cons_zero, List.set_cons_succ]
          refine wpAnyH_done (by kernel_rfl) ?_ _
          go_wp2_with fail
          all_goals (go_roundw)
          case rel => exact ⟨j + 1, hlt, by go_num, by rw [HT2.out]; first | rfl | simp, HZr.out.2.2.trans (Below.mono (by assumption) HZr.out.2.2.size)⟩
          case measure => simp [intOf]; omega
        · go_upto_region 11 with (fail)
          go_quiet (fail)
          have HD := Lib.hid (below_drewN wr nq)
          go_upto_region 12 with (fail)
          clear a0 a1 a2 b0 b1 b2 qe
          generalize wr.drewN nq = w9 at *
          have HD2 := Lib.hid (HD.out.drew)
          have HS0 := Lib.hid (HF.out _ HD2.out)
          refine wp_region_held_drew (S := fun w' => Below wr.heap.size wr w' ∧ w'.cell? ⟨b, off + j * 3, none⟩ = some (.string gj.n) ∧ w'.cell? ⟨b, off + j * 3 + 1, none⟩ = some (.int .u16 (gj.k : Nat)) ∧ w'.cell? ⟨b, off + j * 3 + 2, none⟩ = some (.int .u16 (gj.c : Nat))) (by kernel_rfl) HS0.out (fun _ => ?_)
          generalize w9.drew = w10 at *
          refine wpAnyH_take (i := 0) (v := ?_) rfl (by kernel_rfl) (by kernel_rfl) (by kernel_rfl) (fun _ _ _ h => h) (Or.inl ⟨by rfl, ?_⟩) (by assumption) ?_
          rotate_left
          · (intro wq hSw; go_simp; try (with_reducible rfl))
          try simp only [Act.put, List.getElem_toArray, List.getElem_cons_zero, List.getElem_cons_succ, List.setIfInBounds_toArray, List.set_cons_zero, List.set_cons_succ]
          refine wpAnyH_take (i := 1) (v := ?_) rfl (by kernel_rfl) (by kernel_rfl) (by kernel_rfl) (fun _ _ _ h => h) (Or.inl ⟨by rfl, ?_⟩) (by assumption) ?_
          rotate_left
          · (intro wq hSw; go_simp; try (with_reducible rfl))
          try simp only [Act.put, List.getElem_toArray, List.getElem_cons_zero, List.getElem_cons_succ, List.setIfInBounds_toArray, List.set_cons_zero, List.set_cons_succ]
          refine wpAnyH_take (i := 2) (v := ?_) rfl (by kernel_rfl) (by kernel_rfl) (by kernel_rfl) (fun _ _ _ h => h) (Or.inl ⟨by rfl, ?_⟩) (by assumption) ?_
          rotate_left
          · (intro wq hSw; go_simp; try (with_reducible rfl))
          try simp only [Act.put, List.getElem_toArray, List.getElem_cons_zero, List.getElem_cons_succ, List.setIfInBounds_toArray, List.set_cons_zero, List.set_cons_succ]
          refine wpAnyH_take (i := 3) (v := ?_) rfl (by kernel_rfl) (by kernel_rfl) (by kernel_rfl) (fun _ _ _ h => h) (Or.inl ⟨by rfl, ?_⟩) (by assumption) ?_
          rotate_left
          · (intro wq hSw; go_simp; try (with_reducible rfl))
          try simp only [Act.put, List.getElem_toArray, List.getElem_cons_zero, List.getElem_cons_succ, List.setIfInBounds_toArray, List.set_cons_zero, List.set_cons_succ]
          refine wpAnyH_take (i := 4) (v := .agg #[.string gj.n, .int .u16 (gj.k : Nat), .int .u16 (gj.c : Nat)]) rfl (by kernel_rfl) (by kernel_rfl) (by kernel_rfl) (fun _ _ _ h => h) (Or.inl ⟨by rfl, ?_⟩) (by assumption) ?_
          · (intro wq hSw; obtain ⟨hb0, x0, x1, x2⟩ := hSw; go_simp; try rfl)
          try simp only [Act.put, List.getElem_toArray, List.getElem_cons_zero, List.getElem_cons_succ, List.setIfInBounds_toArray, List.set_cons_zero, List.set_cons_succ]
          refine wpAnyH_ready (rs := [5]) (by kernel_rfl) (by simp) ?_
          refine AllReadyH.cons rfl (fun K hK => ?_) AllReadyH.nil
          rw [if_pos (by rfl)]
          go_simp
          go_at_call 14
          with_reducible (refine (HC1.out _ HD2.out).mono ?_)
          rintro e w4 ⟨rfl, hb4⟩
          refine hK.out _ _ (HF.out _ hb4) (fun _ => ?_)
          clear hK K
          try simp only [Act.put, List.getElem_toArray, List.getElem_cons_zero, List.getElem_cons_succ, List.setIfInBounds_toArray, List.set_cons_zero, List.set_cons_succ]
          refine wpAnyH_take (i := 6) (v := ?_) rfl (by kernel_rfl) (by kernel_rfl) (by kernel_rfl) (fun _ _ _ h => h) (Or.inl ⟨by rfl, ?_⟩) (by assumption) ?_
          rotate_left
          · (intro wq hSw; go_simp; try (with_reducible rfl))
          try simp only [Act.put, List.getElem_toArray, List.getElem_cons_zero, List.getElem_cons_succ, List.setIfInBounds_toArray, List.set_cons_zero, List.set_cons_succ]
          refine wpAnyH_take (i := 7) (v := ?_) rfl (by kernel_rfl) (by kernel_rfl) (by kernel_rfl) (fun _ _ _ h => h) (Or.inl ⟨by rfl, ?_⟩) (by assumption) ?_
          rotate_left
          · (intro wq hSw; go_simp; try (with_reducible rfl))
          try simp only [Act.put, List.getElem_toArray, List.getElem_cons_zero, List.getElem_cons_succ, List.setIfInBounds_toArray, List.set_cons_zero, List.set_cons_succ]
          refine wpAnyH_take (i := 8) (v := .bool false) rfl (by kernel_rfl) (by kernel_rfl) (by kernel_rfl) (fun _ _ _ h => h) (Or.inl ⟨by rfl, ?_⟩) (by assumption) ?_
          · (intro wq hSw; go_simp; try rfl)
          try simp only [Act.put, List.getElem_toArray, List.getElem_cons_zero, List.getElem_cons_succ, List.setIfInBounds_toArray, List.set_cons_zero, List.set_cons_succ]
          refine wpAnyH_take (i := 9) (v := ?_) rfl (by kernel_rfl) (by kernel_rfl) (by kernel_rfl) (fun _ _ _ h => h) (Or.inl ⟨by rfl, ?_⟩) (by assumption) ?_
          rotate_left
          · (intro wq hSw; go_simp; try (with_reducible rfl))
          try simp only [Act.put, List.getElem_toArray, List.getElem_cons_zero, List.getElem_cons_succ, List.setIfInBounds_toArray, List.set_cons_zero, List.set_cons_succ]
          refine wpAnyH_take (i := 10) (v := undef) rfl (by kernel_rfl) (by kernel_rfl) (by kernel_rfl) (fun _ _ _ h => h) (Or.inr ⟨by rfl, rfl⟩) (by assumption) ?_
          try simp only [Act.put, List.getElem_toArray, List.getElem_cons_zero, List.getElem_cons_succ, List.setIfInBounds_toArray, List.set_cons_zero, List.set_cons_succ]
          refine wpAnyH_take (i := 11) (v := undef) rfl (by kernel_rfl) (by kernel_rfl) (by kernel_rfl) (fun _ _ _ h => h) (Or.inr ⟨by rfl, rfl⟩) (by assumption) ?_
          try simp only [Act.put, List.getElem_toArray, List.getElem_cons_zero, List.getElem_cons_succ, List.setIfInBounds_toArray, List.set_cons_zero, List.set_cons_succ]
          refine wpAnyH_take (i := 12) (v := undef) rfl (by kernel_rfl) (by kernel_rfl) (by kernel_rfl) (fun _ _ _ h => h) (Or.inr ⟨by rfl, rfl⟩) (by assumption) ?_
          try simp only [Act.put, List.getElem_toArray, List.getElem_cons_zero, List.getElem_cons_succ, List.setIfInBounds_toArray, List.set_cons_zero, List.set_cons_succ]
          refine wpAnyH_take (i := 13) (v := undef) rfl (by kernel_rfl) (by kernel_rfl) (by kernel_rfl) (fun _ _ _ h => h) (Or.inr ⟨by rfl, rfl⟩) (by assumption) ?_
          try simp only [Act.put, List.getElem_toArray, List.getElem_cons_zero, List.getElem_cons_succ, List.setIfInBounds_toArray, List.set_cons_zero, List.set_cons_succ]
          refine wpAnyH_take (i := 14) (v := undef) rfl (by kernel_rfl) (by kernel_rfl) (by kernel_rfl) (fun _ _ _ h => h) (Or.inr ⟨by rfl, rfl⟩) (by assumption) ?_
          try simp only [Act.put, List.getElem_toArray, List.getElem_cons_zero, List.getElem_cons_succ, List.setIfInBounds_toArray, List.set_cons_zero, List.set_cons_succ]
          refine wpAnyH_take (i := 15) (v := undef) rfl (by kernel_rfl) (by kernel_rfl) (by kernel_rfl) (fun _ _ _ h => h) (Or.inr ⟨by rfl, rfl⟩) (by assumption) ?_
          try simp only [Act.put, List.getElem_toArray, List.getElem_cons_zero, List.getElem_cons_succ, List.setIfInBounds_toArray, List.set_cons_zero, List.set_cons_succ]
          refine wpAnyH_take (i := 16) (v := undef) rfl (by kernel_rfl) (by kernel_rfl) (by kernel_rfl) (fun _ _ _ h => h) (Or.inr ⟨by rfl, rfl⟩) (by assumption) ?_
          try simp only [Act.put, List.getElem_toArray, List.getElem_cons_zero, List.getElem_cons_succ, List.setIfInBounds_toArray, List.set_cons_zero, List.set_cons_succ]
          refine wpAnyH_take (i := 17) (v := undef) rfl (by kernel_rfl) (by kernel_rfl) (by kernel_rfl) (fun _ _ _ h => h) (Or.inr ⟨by rfl, rfl⟩) (by assumption) ?_
          try simp only [Act.put, List.getElem_toArray, List.getElem_cons_zero, List.getElem_cons_succ, List.setIfInBounds_toArray, List.set_cons_zero, List.set_cons_succ]
          refine wpAnyH_take (i := 18) (v := undef) rfl (by kernel_rfl) (by kernel_rfl) (by kernel_rfl) (fun _ _ _ h => h) (Or.inr ⟨by rfl, rfl⟩) (by assumption) ?_
          try simp only [Act.put, List.getElem_toArray, List.getElem_cons_zero, List.getElem_cons_succ, List.setIfInBounds_toArray, List.set_cons_zero, List.set_cons_succ]
          refine wpAnyH_take (i := 19) (v := undef) rfl (by kernel_rfl) (by kernel_rfl) (by kernel_rfl) (fun _ _ _ h => h) (Or.inr ⟨by rfl, rfl⟩) (by assumption) ?_
          try simp only [Act.put, List.getElem_toArray, List.getElem_cons_zero, List.getElem_cons_succ, List.setIfInBounds_toArray, List.set_cons_zero, List.set_cons_succ]
          refine wpAnyH_take (i := 20) (v := undef) rfl (by kernel_rfl) (by kernel_rfl) (by kernel_rfl) (fun _ _ _ h => h) (Or.inr ⟨by rfl, rfl⟩) (by assumption) ?_
          try simp only [Act.put, List.getElem_toArray, List.getElem_cons_zero, List.getElem_cons_succ, List.setIfInBounds_toArray, List.set_cons_zero, List.set_cons_succ]
          refine wpAnyH_take (i := 21) (v := .bool false) rfl (by kernel_rfl) (by kernel_rfl) (by kernel_rfl) (fun _ _ _ h => h) (Or.inl ⟨by rfl, ?_⟩) (by assumption) ?_
          · (intro wq hSw; go_simp; try rfl)
          try simp only [Act.put, List.getElem_toArray, List.getElem_cons_zero, List.getElem_cons_succ, List.setIfInBounds_toArray, List.set_cons_zero, List.set_cons_succ]
          refine wpAnyH_take (i := 22) (v := .bool false) rfl (by kernel_rfl) (by kernel_rfl) (by kernel_rfl) (fun _ _ _ h => h) (Or.inl ⟨by rfl, ?_⟩) (by assumption) ?_
          · (intro wq hSw; go_simp; try rfl)
          try simp only [Act.put, List.getElem_toArray, List.getElem_cons_zero, List.getElem_cons_succ, List.setIfInBounds_toArray, List.set_cons_zero, List.set_cons_succ]
          refine wpAnyH_done (by kernel_rfl) ?_ _
          go_wp2_with fail
          all_goals (go_roundw)
          case rel => exact ⟨j + 1, hlt, by go_num, by rw [HT2.out]; first | rfl | simp, HZr.out.2.2.trans (Below.mono (by assumption) HZr.out.2.2.size)⟩
          case measure => simp [intOf]; omega
    · have hje : j = gq.length := by omega
      have d1 : decide ((j : Int) < (gq.length : Nat)) = false := by simp; omega
      have htq := HG.out.2.2.1
      rw [show gq.take j = gq by rw [hje, List.take_length]]
      rw [htq]
      clear htq hje
      obtain ⟨E2, HE2⟩ : ∃ E, Hid ((lookL m1 q now).1 = E) := ⟨_, Lib.hid rfl⟩
      have hL := look_any q hq now HZr.out.1.mh
      rw [HE2.out, HG.out.2.1] at hL
      unfold qV at hL
      simp only [evV_eq] at hL
      have HL := Lib.hid hL
      clear hL
      obtain ⟨b0, b1, b2⟩ := q_cells (q := q) HZr.out.1.bq
      go_upto_region 15 with (first | (refine wpList_store_row rfl 35 _ _ rfl (w11.heap.size) (evL ⟨E2, A11, c11⟩).toArray rfl rfl 35 _ HNw.out (infoEa _) rfl (evL_one _) ?_) | (go_at_call 17; (with_reducible (refine (HL.out).mono ?_)); rintro e w11 ⟨A11, c11, rfl, s1, n1, hb1⟩; have HV := Lib.hid (And.intro hb1 (And.intro s1 n1)); have HNw := Lib.hid (Blk.new w11 35 zE); unfold zE at HNw; clear s1 n1 hb1))
      clear b0 b1 b2
      have hbl := (Bx.new (e := E2) HZr.out.1.mh HV.out.1 HV.out.2.1 HV.out.2.2).2
      have HZf := Lib.hid (HZr.out.1.low hbl)
      clear HL HV HNw hbl HE2
      generalize (w11.alloc (Obj.cells #[.string ⟨#[]⟩, .int .u16 0, .int .u16 0, .slice none 0 0, .int .i64 0, .int .i64 0, .int .u64 0] 35)).setRow w11.heap.size (evL ⟨E2, A11, c11⟩).toArray = wf at *
      generalize w11.heap.size = r11 at *
      have HLn := Lib.hid (len_any HZf.out.mh)
      have hH := has_any q hq HZf.out.mh
      rw [HG.out.1] at hH
      unfold qV at hH
      have HHs := Lib.hid hH
      have hdu := fun (V : World) (hV : Below wf.heap.size wf V) => due_any now (HZf.out.mh.low hV) (by have := HN5.out.1; omega)
      simp only [HG.out.2.2.2, List.length_nil] at hdu
      have HDu := Lib.hid hdu
      have hn5 := HN5.out.1
      have hg5 := HN5.out.2
      clear hH hdu HG HI1 HB1 HGn HE1 d1
      generalize gq.length = g at *
      generalize hml : m1.length = n1 at *
      obtain ⟨b0, b1, b2⟩ := q_cells (q := q) HZf.out.bq
      cases hb <;> cases lv
      all_goals (go_wp2_with (first | (go_at_call 13; (with_reducible (refine (HLn.out).mono ?_)); rintro e w12 ⟨rfl, rfl⟩) | (go_at_call 14; (with_reducible (refine (HHs.out).mono ?_)); rintro e w13 ⟨rfl, hb13⟩; have HB13 := Lib.hid hb13; clear hb13) | (go_at_call 21; (with_reducible (refine (HDu.out _ HB13.out).mono ?_)); rintro e w14 ⟨f14, A14, c14, rfl, s14, n14, v14, k14⟩; have HF := Lib.hid ((HZf.out.low HB13.out).turn v14 k14).lo; clear s14 n14 v14 k14)); go_ret; exact ⟨rfl, HF.out⟩)
end Go.Proofs.Ytnmgeoeppfdnhaa.D
