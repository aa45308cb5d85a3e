/- derricklaw12.ShardRoom (written by tools/gen_vfb.py). -/
import Derived.Test.YtjjanogfcfapcaaVfc
import Derived.Test.YtjjanogfcfapcaaVdz
import Derived.Test.YtjjanogfcfapcaaVdn
import Derived.BigQuiet
namespace Go.Proofs.Ytjjanogfcfapcaa.D
open Go.RowKit
set_option linter.unusedVariables false

/-- An entry's box, and the shard. -/
structure Nx (w0 wr : World) (h : Nat) (K : Ly) (S : Sd) (q : Nat) (x : Ev) : Prop where
  sh : Sh wr h K S
  bx : Blk wr q 39 (evL x).toArray
  rx : Re K.X wr x
  lo : Below w0.heap.size w0 wr
  kx : ∀ i, K.X i → q < i
  q0 : w0.heap.size ≤ q
theorem Nx.deed {w0 wr w' : World} {h : Nat} {K : Ly} {S S' : Sd} {q : Nat} {x : Ev} (n : Nx w0 wr h K S q x) (s : Sh w' h K S') (hc : Ch K.X wr w') : Nx w0 w' h K S' q x :=
  ⟨s, n.bx.eq (hc.block _ n.bx.lt (fun e => by have := n.kx _ e; omega)), n.rx.ch hc, n.lo.trans (hc.isBelow (fun i hi => by have := n.kx i hi; have := n.q0; omega) n.lo.size), n.kx, n.q0⟩
theorem Nx.low {w0 wr w' : World} {h : Nat} {K : Ly} {S : Sd} {q : Nat} {x : Ev} (n : Nx w0 wr h K S q x) (hb : Below wr.heap.size wr w') : Nx w0 w' h K S q x := n.deed (n.sh.low hb) (Ch.bel hb)
/-- What the two loops read. -/
structure Rk (w0 wr : World) (q : Nat) (x : Ev) (A1 : Option Addr) (c1 : Nat) (ks : List Qu) (A2 : Option Addr) (c2 : Nat) (gl : List Qu) (A3 : Option Addr) (c3 : Nat) (kt : List Qu) : Prop where
  lo : Below w0.heap.size w0 wr
  bx : Blk wr q 39 (evL x).toArray
  s1 : Sl qf wr A1 c1 ks
  s2 : Sl qf wr A2 c2 gl
  s3 : Sl qf wr A3 c3 kt
theorem Rk.low {w0 wr w' : World} {q : Nat} {x : Ev} {A1 : Option Addr} {c1 : Nat} {ks : List Qu} {A2 : Option Addr} {c2 : Nat} {gl : List Qu} {A3 : Option Addr} {c3 : Nat} {kt : List Qu} (r : Rk w0 wr q x A1 c1 ks A2 c2 gl A3 c3 kt) (hb : Below wr.heap.size wr w') : Rk w0 w' q x A1 c1 ks A2 c2 gl A3 c3 kt :=
  ⟨r.lo.trans (hb.mono r.lo.size), r.bx.eq (hb.block _ r.bx.lt), r.s1.below' hb, r.s2.below' hb, r.s3.below' hb⟩
theorem dec_n {n : Nat} (h : n ≤ 4) : decide ((n : Int) ≤ 4) = true := by simp; omega

set_option maxRecDepth 100000 in
set_option maxHeartbeats 8000000 in
theorem room_any (A : Option Addr) (cap : Nat) (l : List Dd) (x : Ev) (now : Nat) (w : World) (hL : Sl df w A cap l) (hA : ∀ D ∈ l, ArgD w D) (hx : Arg w x) : Calls Try.prog 4 #[.slice A l.length cap, .agg (evL x).toArray, .int .u64 (now : Nat)] w fun e w' => e = .returned (.bool true) ∧ Below w.heap.size w w' := by
  have h2 := And.intro (Blk.new w 39 (evL x).toArray) ((Below.refl w.heap.size w).alloc (Nat.le_refl _) (Obj.cells (evL x).toArray 39))
  obtain ⟨T3, hT3⟩ : ∃ T3 : World, w.alloc (Obj.cells (evL x).toArray 39) = T3 := ⟨_, rfl⟩
  rw [hT3] at h2
  have H2 := Lib.hid h2
  have HSH := Lib.hid (fun W => shown_any W)
  have HR := Lib.hid (fun W (hW : Below w.heap.size w W) => ran_any A cap l W (hL.below' hW) (fun D hD => argd_low (hA D hD) hW))
  have HX := Lib.hid hx
  clear hL hA hx h2
  go_enter Try.func4, Try.ntmps4
  go_upto_region 1 with (fail)
  try rw [hT3]
  clear hT3
  generalize T3 = w1 at *
  go_upto_region 3 with (first | (go_at_call 9; with_reducible (refine (HSH.out _).mono ?_); rintro e w2 ⟨rfl, hb2⟩; have HB2 := Lib.hid hb2; clear hb2) | (go_at_call 18; with_reducible (refine (HR.out _ (H2.out.2.trans (HB2.out.mono H2.out.2.size))).mono ?_); rintro e w3 ⟨h, K, rfl, hs3, hb3, hk3⟩; have HW := Lib.hid (HB2.out.trans (hb3.mono HB2.out.size)); have HS2 := Lib.hid (And.intro hs3 (And.intro ((H2.out.2.trans (HB2.out.mono H2.out.2.size)).trans (hb3.mono (Nat.le_trans H2.out.2.size HB2.out.size))) (And.intro (fun i hi => Nat.le_trans (Nat.le_trans H2.out.2.size HB2.out.size) (hk3 i hi)) (fun i hi => Nat.lt_of_lt_of_le (Nat.lt_of_lt_of_le H2.out.1.lt HB2.out.size) (hk3 i hi))))); clear hs3 hb3 hk3))
  have HN := Lib.hid (Nx.mk HS2.out.1 (H2.out.1.eq (HW.out.block _ H2.out.1.lt)) (arg_re HX.out HS2.out.2.1 HS2.out.2.2.1) HS2.out.2.1 HS2.out.2.2.2 (Nat.le_refl _))
  clear HR HSH HW H2 HX HS2
  have HF := Lib.hid (room_f HN.out.sh.ok (runS4 (l.take 200)) x.e now (ins_len HN.out.sh.ok x.e now))
  generalize runS 4 (l.take 200) = S at *
  have HKY := Lib.hid (keys_s HN.out.sh)
  go_upto_region 4 with (go_at_call 14; with_reducible (refine (HKY.out).mono ?_); rintro e w4 ⟨A4, c4, rfl, sl4, nw4, hb4⟩; have HN4 := Lib.hid (HN.out.low hb4); have HS4 := Lib.hid (And.intro sl4 (nw_up HN.out.sh nw4)); clear sl4 nw4 hb4)
  have HI := Lib.hid (ins_any HN4.out.sh x HN4.out.rx now)
  unfold evV at HI
  clear HKY HN
  go_upto_region 5 with (first | (refine wpList_load_row rfl 39 _ rfl (w.heap.size) rfl 39 _ _ _ HN4.out.bx Try.underlying39 rfl (infoEa _) ?_) | (go_at_call 19; with_reducible (refine (HI.out).mono ?_); rintro e w5 ⟨A5, c5, rfl, sl5, nw5, s5, hc5⟩; have HN5 := Lib.hid (HN4.out.deed s5 hc5); have HS5 := Lib.hid (And.intro (up_ch HN4.out.sh HS4.out.1 HS4.out.2 hc5) sl5); clear sl5 nw5 s5 hc5 HN4 HS4))
  have HKZ := Lib.hid (keys_s HN5.out.sh)
  clear HI
  go_upto_region 6 with (go_at_call 14; with_reducible (refine (HKZ.out).mono ?_); rintro e w6 ⟨A6, c6, rfl, sl6, nw6, hb6⟩; have HRK := Lib.hid (Rk.mk (HN5.out.low hb6).lo (HN5.out.low hb6).bx (HS5.out.1.below' hb6) (HS5.out.2.below' hb6) sl6); clear sl6 nw6 hb6)
  clear HKZ HN5 HS5
  generalize keysOf S.P.c = ks at *
  generalize keysOf (insS S x.e now).1.P.c = kt at *
  generalize (insS S x.e now).2.1 = gl at *
  generalize (insS S x.e now).2.2 = code at *
  have hkt : kt.length ≤ 1000 := by have := HF.out.le; omega
  have hks : ks.length ≤ 1000 := by have := HF.out.ksl; omega
  have hgl : gl.length ≤ 1000 := by have := HF.out.gle; omega
  go_wp2_with fail
  go_loopw [13] (fun v wr => ∃ j : Nat, j ≤ kt.length ∧ v = .int .i64 j ∧ Below w6.heap.size w6 wr) (fun v _ => kt.length - (intOf v).toNat)
  case atStart => exact ⟨0, Nat.zero_le _, rfl, Below.refl _ _⟩
  case round =>
    obtain ⟨j, hj, rfl, hbi⟩ := hrel
    by_cases hlt : j < kt.length
    · have d1 : decide ((j : Int) < (kt.length : Nat)) = true := by simp; omega
      have s0 : (0 : Int) ≤ (j : Nat) := by omega
      have s1 : (j : Int) < (kt.length : Nat) := by omega
      have s2 : (j : Int) ≤ (c6 : Nat) := by have := HRK.out.s3.le; omega
      obtain ⟨kb, ko, rfl, hkb, c0, c1, c2⟩ := HRK.out.s3.ask3 j hlt
      have hno : decide (kt[j] ∈ kt.take j) = false := decide_eq_false (nodup_take HF.out.nd j hlt)
      have htl : (kt.take j).length = j := by rw [List.length_take]; omega
      have htk := HRK.out.s3.take j
      generalize kt[j] = q at *
      generalize hkk : kt.take j = tk at *
      have HHS := Lib.hid (fun (Wx : World) (hW : Below w6.heap.size w6 Wx) => has_q (some ⟨kb, ko, none⟩) c6 tk (by omega) q Wx (htk.below' hW))
      simp only [htl, hno] at HHS
      have HCE := Lib.hid (fun (Wx : World) (hW : Below w6.heap.size w6 Wx) => And.intro ((hW.cell (p := ⟨kb, ko + j * 3, none⟩) hkb).trans c0) (And.intro ((hW.cell (p := ⟨kb, ko + j * 3 + 1, none⟩) hkb).trans c1) ((hW.cell (p := ⟨kb, ko + j * 3 + 2, none⟩) hkb).trans c2)))
      have hbd := hbi.drew
      have HBc := Lib.hid hbd
      clear c0 c1 c2 hno htl htk hkk hbd hbi
      go_upto_region 9 with (fail)
      go_region_held3 (fun w' => w'.cell? ⟨kb, ko + j * 3, none⟩ = some (.string q.n) ∧ w'.cell? ⟨kb, ko + j * 3 + 1, none⟩ = some (.int .u16 (q.k : Nat)) ∧ w'.cell? ⟨kb, ko + j * 3 + 2, none⟩ = some (.int .u16 (q.c : Nat))) (exact HCE.out _ HBc.out) (first
        | (go_at_call 20; with_reducible (refine (HHS.out _ HBc.out).mono ?_); rintro e w8 ⟨rfl, hb8⟩; have HB2 := Lib.hid (HBc.out.trans (hb8.mono HBc.out.size)); clear HBc hb8; have HBc := Lib.hid HB2.out; clear HB2))
      go_wp2_with fail
      go_roundw
      case rel => exact ⟨j + 1, hlt, by go_num, HBc.out⟩
      case measure => simp [intOf]; omega
    · obtain rfl : j = kt.length := by omega
      have d1 : decide ((kt.length : Int) < (kt.length : Nat)) = false := by simp
      have HBI := Lib.hid hbi
      clear hbi
      go_wp2_with fail
      go_loopw [14] (fun v wr => ∃ j : Nat, j ≤ ks.length ∧ v = .int .i64 j ∧ Below w6.heap.size w6 wr) (fun v _ => ks.length - (intOf v).toNat)
      case atStart => exact ⟨0, Nat.zero_le _, rfl, HBI.out⟩
      case round =>
        clear HBI
        obtain ⟨j, hj, rfl, hbi⟩ := hrel
        by_cases hlt : j < ks.length
        · have d2 : decide ((j : Int) < (ks.length : Nat)) = true := by simp; omega
          have s0 : (0 : Int) ≤ (j : Nat) := by omega
          have s1 : (j : Int) < (ks.length : Nat) := by omega
          have HH1 := Lib.hid (fun q (Wx : World) (hW : Below w6.heap.size w6 Wx) => has_q A6 c6 kt hkt q Wx (HRK.out.s3.below' hW))
          have HH2 := Lib.hid (fun q (Wx : World) (hW : Below w6.heap.size w6 Wx) => has_q A5 c5 gl hgl q Wx (HRK.out.s2.below' hW))
          obtain ⟨kb, ko, rfl, hkb, c0, c1, c2⟩ := HRK.out.s1.ask3 j hlt
          have hgo := HF.out.go ks[j] (List.getElem_mem hlt)
          generalize ks[j] = q at *
          have HH1 := Lib.hid (HH1.out q)
          have HH2 := Lib.hid (HH2.out q)
          have HCE := Lib.hid (fun (Wx : World) (hW : Below w6.heap.size w6 Wx) => And.intro ((hW.cell (p := ⟨kb, ko + j * 3, none⟩) hkb).trans c0) (And.intro ((hW.cell (p := ⟨kb, ko + j * 3 + 1, none⟩) hkb).trans c1) ((hW.cell (p := ⟨kb, ko + j * 3 + 2, none⟩) hkb).trans c2)))
          have hbd := hbi.drew
          have HBc := Lib.hid hbd
          clear c0 c1 c2 hbd hbi
          by_cases hm : q ∈ kt
          · have e1 : decide (q ∈ kt) = true := decide_eq_true hm
            have e2 : decide (q ∈ gl) = false := decide_eq_false (hgo.1 hm)
            simp only [e1] at HH1
            simp only [e2] at HH2
            clear e1 e2 hgo
            go_upto_region 14 with (fail)
            go_region_held3 (fun w' => w'.cell? ⟨kb, ko + j * 3, none⟩ = some (.string q.n) ∧ w'.cell? ⟨kb, ko + j * 3 + 1, none⟩ = some (.int .u16 (q.k : Nat)) ∧ w'.cell? ⟨kb, ko + j * 3 + 2, none⟩ = some (.int .u16 (q.c : Nat))) (exact HCE.out _ HBc.out) (first
              | (go_at_call 20; with_reducible (refine (HH1.out _ HBc.out).mono ?_); rintro e w8 ⟨rfl, hb8⟩; have HB2 := Lib.hid (HBc.out.trans (hb8.mono HBc.out.size)); clear HBc hb8; have HBc := Lib.hid HB2.out; clear HB2)
              | (go_at_call 20; with_reducible (refine (HH2.out _ HBc.out).mono ?_); rintro e w8 ⟨rfl, hb8⟩; have HB2 := Lib.hid (HBc.out.trans (hb8.mono HBc.out.size)); clear HBc hb8; have HBc := Lib.hid HB2.out; clear HB2))
            go_wp2_with fail
            go_roundw
            case rel => exact ⟨j + 1, hlt, by go_num, HBc.out⟩
            case measure => simp [intOf]; omega
          · have e1 : decide (q ∈ kt) = false := decide_eq_false hm
            have e2 : decide (q ∈ gl) = true := decide_eq_true (Classical.not_not.1 (fun h => hm (hgo.2 h)))
            simp only [e1] at HH1
            simp only [e2] at HH2
            clear e1 e2 hgo
            go_upto_region 14 with (fail)
            go_region_held3 (fun w' => w'.cell? ⟨kb, ko + j * 3, none⟩ = some (.string q.n) ∧ w'.cell? ⟨kb, ko + j * 3 + 1, none⟩ = some (.int .u16 (q.k : Nat)) ∧ w'.cell? ⟨kb, ko + j * 3 + 2, none⟩ = some (.int .u16 (q.c : Nat))) (exact HCE.out _ HBc.out) (first
              | (go_at_call 20; with_reducible (refine (HH1.out _ HBc.out).mono ?_); rintro e w8 ⟨rfl, hb8⟩; have HB2 := Lib.hid (HBc.out.trans (hb8.mono HBc.out.size)); clear HBc hb8; have HBc := Lib.hid HB2.out; clear HB2)
              | (go_at_call 20; with_reducible (refine (HH2.out _ HBc.out).mono ?_); rintro e w8 ⟨rfl, hb8⟩; have HB2 := Lib.hid (HBc.out.trans (hb8.mono HBc.out.size)); clear HBc hb8; have HBc := Lib.hid HB2.out; clear HB2))
            go_wp2_with fail
            go_roundw
            case rel => exact ⟨j + 1, hlt, by go_num, HBc.out⟩
            case measure => simp [intOf]; omega
        · obtain rfl : j = ks.length := by omega
          have d2 : decide ((ks.length : Int) < (ks.length : Nat)) = false := by simp
          have HH1 := Lib.hid (fun (Wx : World) (hW : Below w6.heap.size w6 Wx) => has_q A6 c6 kt hkt x.e.q Wx (HRK.out.s3.below' hW))
          have HH2 := Lib.hid (fun (Wx : World) (hW : Below w6.heap.size w6 Wx) => has_q A4 c4 ks hks x.e.q Wx (HRK.out.s1.below' hW))
          have HCX := Lib.hid (fun (Wx : World) (hW : Below w6.heap.size w6 Wx) => e_cells (x := x) ((HRK.out.low hW).bx))
          have HLO := Lib.hid HRK.out.lo
          have hhas := HF.out.has
          have hfull := HF.out.full
          have hl1 := dec_n HF.out.le
          have hl2 := dec_n HF.out.gle
          have hgn : gl = [] ↔ gl.length = 0 := List.length_eq_zero_iff.symm
          rw [hgn] at hfull
          clear hgn HF HRK d1 hkt hks hgl
          generalize gl.length = gn at *
          generalize ks.length = kn at *
          generalize kt.length = tn at *
          obtain ⟨e0, e1, e2, e3, e4, e5, e6⟩ := HCX.out _ hbi
          have HBc := Lib.hid hbi
          clear hbi
          by_cases hc : code = 0
          · subst hc
            have h1 : decide (x.e.q ∈ kt) = true := decide_eq_true (hhas.2 (.inl rfl))
            simp only [h1] at HH1
            clear HH2 hhas h1
            by_cases hg : gn = 0
            · subst hg
              go_wp2_with (go_at_call 20; with_reducible (refine (HH1.out _ HBc.out).mono ?_); rintro e w8 ⟨rfl, hb8⟩; have HB2 := Lib.hid (HBc.out.trans (hb8.mono HBc.out.size)); clear HBc hb8 e0 e1 e2 e3 e4 e5 e6; have HBc := Lib.hid HB2.out; clear HB2; obtain ⟨e0, e1, e2, e3, e4, e5, e6⟩ := HCX.out _ HBc.out)
              go_ret
              exact ⟨rfl, HLO.out.trans (HBc.out.mono HLO.out.size)⟩
            · obtain ⟨rfl, _⟩ : kn = 4 ∧ (0 : Int) = 0 := hfull.resolve_left hg
              have g1 : ((gn : Int) == 0) = false := by simp; omega
              have g2 : decide ((gn : Int) = 0) = false := by simp; omega
              go_wp2_with (go_at_call 20; with_reducible (refine (HH1.out _ HBc.out).mono ?_); rintro e w8 ⟨rfl, hb8⟩; have HB2 := Lib.hid (HBc.out.trans (hb8.mono HBc.out.size)); clear HBc hb8 e0 e1 e2 e3 e4 e5 e6; have HBc := Lib.hid HB2.out; clear HB2; obtain ⟨e0, e1, e2, e3, e4, e5, e6⟩ := HCX.out _ HBc.out)
              go_ret
              exact ⟨rfl, HLO.out.trans (HBc.out.mono HLO.out.size)⟩
          · have hg : gn = 0 := hfull.resolve_right (fun h => hc h.2)
            subst hg
            have g1 : (code == 0) = false := by simpa using hc
            have g2 : decide (code = 0) = false := by simpa using hc
            have hh : x.e.q ∈ kt ↔ x.e.q ∈ ks := ⟨fun h => (hhas.1 h).resolve_left hc, fun h => hhas.2 (.inr h)⟩
            by_cases hm : x.e.q ∈ ks
            · have h1 : decide (x.e.q ∈ kt) = true := decide_eq_true (hh.2 hm)
              have h2 : decide (x.e.q ∈ ks) = true := decide_eq_true hm
              simp only [h1] at HH1
              simp only [h2] at HH2
              clear h1 h2 hh hhas hfull hm
              go_wp2_with (first | (go_at_call 20; with_reducible (refine (HH1.out _ HBc.out).mono ?_); rintro e w8 ⟨rfl, hb8⟩; have HB2 := Lib.hid (HBc.out.trans (hb8.mono HBc.out.size)); clear HBc hb8 e0 e1 e2 e3 e4 e5 e6; have HBc := Lib.hid HB2.out; clear HB2; obtain ⟨e0, e1, e2, e3, e4, e5, e6⟩ := HCX.out _ HBc.out) | (go_at_call 20; with_reducible (refine (HH2.out _ HBc.out).mono ?_); rintro e w8 ⟨rfl, hb8⟩; have HB2 := Lib.hid (HBc.out.trans (hb8.mono HBc.out.size)); clear HBc hb8 e0 e1 e2 e3 e4 e5 e6; have HBc := Lib.hid HB2.out; clear HB2; obtain ⟨e0, e1, e2, e3, e4, e5, e6⟩ := HCX.out _ HBc.out))
              go_ret
              exact ⟨rfl, HLO.out.trans (HBc.out.mono HLO.out.size)⟩
            · have h1 : decide (x.e.q ∈ kt) = false := decide_eq_false (fun h => hm (hh.1 h))
              have h2 : decide (x.e.q ∈ ks) = false := decide_eq_false hm
              simp only [h1] at HH1
              simp only [h2] at HH2
              clear h1 h2 hh hhas hfull hm
              go_wp2_with (first | (go_at_call 20; with_reducible (refine (HH1.out _ HBc.out).mono ?_); rintro e w8 ⟨rfl, hb8⟩; have HB2 := Lib.hid (HBc.out.trans (hb8.mono HBc.out.size)); clear HBc hb8 e0 e1 e2 e3 e4 e5 e6; have HBc := Lib.hid HB2.out; clear HB2; obtain ⟨e0, e1, e2, e3, e4, e5, e6⟩ := HCX.out _ HBc.out) | (go_at_call 20; with_reducible (refine (HH2.out _ HBc.out).mono ?_); rintro e w8 ⟨rfl, hb8⟩; have HB2 := Lib.hid (HBc.out.trans (hb8.mono HBc.out.size)); clear HBc hb8 e0 e1 e2 e3 e4 e5 e6; have HBc := Lib.hid HB2.out; clear HB2; obtain ⟨e0, e1, e2, e3, e4, e5, e6⟩ := HCX.out _ HBc.out))
              go_ret
              exact ⟨rfl, HLO.out.trans (HBc.out.mono HLO.out.size)⟩
end Go.Proofs.Ytjjanogfcfapcaa.D
