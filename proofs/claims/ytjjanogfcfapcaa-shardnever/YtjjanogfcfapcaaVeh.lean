/- derricklaw12.ShardNever: the way where the first entry is live (written by tools/gen_veh.py). -/
import Derived.Test.YtjjanogfcfapcaaVeg
namespace Go.Proofs.Ytjjanogfcfapcaa.D
open Go.RowKit
set_option linter.unusedVariables false

/-- Both entries' boxes, the shard, and the box of what was told. -/
structure No (w0 wr : World) (h : Nat) (K : Ly) (S : Sd) (q : Nat) (x z : Ev) (v : En) (A1 : Option Addr) (c1 r : Nat) : Prop where
  nv : Nv w0 wr h K S q x z
  bo : Blk wr r 39 (evL ⟨v, A1, c1⟩).toArray
  up : h < r
  sl : Sl rf wr A1 c1 v.l
  ua : ∀ b off, A1 = some ⟨b, off, none⟩ → h < b
section
variable {w0 wr w' : World} {h : Nat} {K : Ly} {S S' : Sd} {q : Nat} {x z : Ev} {v : En} {A1 : Option Addr} {c1 r : Nat}
theorem No.deed (n : No w0 wr h K S q x z v A1 c1 r) (s : Sh w' h K S') (hc : Ch K.X wr w') : No w0 w' h K S' q x z v A1 c1 r := by
  have hx := (sh_lt n.nv.sh).2
  have hu := n.up
  exact ⟨n.nv.deed s hc, n.bo.eq (hc.block _ n.bo.lt (fun e => by have := hx _ e; omega)), n.up, n.sl.ch hc (fun b off e _ hX => by have := n.ua b off e; have := hx b hX; omega), n.ua⟩
theorem No.low (n : No w0 wr h K S q x z v A1 c1 r) (hb : Below wr.heap.size wr w') : No w0 w' h K S q x z v A1 c1 r := n.deed (n.nv.sh.low hb) (Ch.bel hb)
theorem blk_deed {g : Nat} {cs : Array Value} {t : TypeId} (s : Sh wr h K S) (b : Blk wr g t cs) (hg : h < g) (hc : Ch K.X wr w') : Blk w' g t cs := b.eq (hc.block _ b.lt (fun e => by have := (sh_lt s).2 _ e; omega))
end
theorem nw_up2 {w : World} {h : Nat} {K : Ly} {S : Sd} {A : Option Addr} (s : Sh w h K S) (n : Nw w.heap.size A) : ∀ b off, A = some ⟨b, off, none⟩ → h < b := fun b off e => Nat.lt_of_lt_of_le (sh_lt s).1 (n b off e)
theorem nv_cells {w0 wr : World} {h : Nat} {K : Ly} {S : Sd} {q : Nat} {x z : Ev} (n : Nv w0 wr h K S q x z) : wr.cell? ⟨q, 5, none⟩ = some (.int .i64 x.e.rk) ∧ wr.cell? ⟨q + 1, 5, none⟩ = some (.int .i64 z.e.rk) ∧ wr.cell? ⟨q + 1, 6, none⟩ = some (.int .u64 (z.e.ex : Nat)) := ⟨(e_cells n.bx).2.2.2.2.2.1, (e_cells n.by_).2.2.2.2.2.1, (e_cells n.by_).2.2.2.2.2.2⟩
theorem same_2 (x : Ev) (A : Option Addr) (cap : Nat) (hl : x.e.l.length ≤ 3518437208883) (w : World) (hI : Sl rf w A cap x.e.l) (hJ : Sl rf w x.A x.cap x.e.l) :
    Calls Try.prog 23 #[.agg (evL ⟨x.e, A, cap⟩).toArray, .agg (evL x).toArray] w fun r w' => r = .returned (.bool true) ∧ Below w.heap.size w w' := same_yes x.e A cap x.A x.cap hl w hI hJ
theorem same_0 (A : Option Addr) (cap : Nat) (w : World) (hI : Sl rf w A cap (default : En).l) :
    Calls Try.prog 23 #[.agg (evL ⟨default, A, cap⟩).toArray, .agg #[.string ⟨#[]⟩, .int .u16 0, .int .u16 0, .slice none 0 0, .int .i64 0, .int .i64 0, .int .u64 0]] w fun r w' => r = .returned (.bool true) ∧ Below w.heap.size w w' := same_yes default A cap none 0 (Nat.zero_le _) w hI (Sl.nil _ _)

set_option maxRecDepth 100000 in
set_option maxHeartbeats 8000000 in
theorem never_b (A : Option Addr) (cap : Nat) (l : List Dd) (x y : Ev) (now : Nat) (hex : now < x.e.ex) (w : World) (hL : Sl df w A cap l) (hA : ∀ D ∈ l, ArgD w D) (hx : Arg w x) (hy : Arg w y) : Calls Try.prog 5 #[.slice A l.length cap, .agg (evL x).toArray, .agg (evL y).toArray, .int .u64 (now : Nat)] w fun e w' => e = .returned (.bool true) ∧ Below w.heap.size w w' := by
  have h2 := two_e w (evL x).toArray (evL y).toArray
  obtain ⟨T3, hT3⟩ : ∃ T3 : World, (w.alloc (Obj.cells (evL x).toArray 39)).alloc (Obj.cells (evL y).toArray 39) = T3 := ⟨_, rfl⟩
  rw [hT3] at h2
  have H2 := Lib.hid h2
  have HSH := Lib.hid (fun W => shown_any W)
  have HR := Lib.hid (fun W (hW : Below w.heap.size w W) => ran_any A cap l W (hL.below' hW) (fun D hD => argd_low (hA D hD) hW))
  have HXY := Lib.hid (And.intro hx hy)
  clear hL hA hx hy h2
  go_enter Try.func5, Try.ntmps5
  go_upto_region 1 with (fail)
  try rw [hT3]
  clear hT3
  generalize T3 = w1 at *
  go_upto_region 3 with (first | (go_at_call 9; with_reducible (refine (HSH.out _).mono ?_); rintro e w2 ⟨rfl, hb2⟩; have HB2 := Lib.hid hb2; clear hb2) | (go_at_call 18; with_reducible (refine (HR.out _ (H2.out.2.2.trans (HB2.out.mono H2.out.2.2.size))).mono ?_); rintro e w3 ⟨h, K, rfl, hs3, hb3, hk3⟩; have HW := Lib.hid (HB2.out.trans (hb3.mono HB2.out.size)); have HS2 := Lib.hid (And.intro hs3 (And.intro ((H2.out.2.2.trans (HB2.out.mono H2.out.2.2.size)).trans (hb3.mono (Nat.le_trans H2.out.2.2.size HB2.out.size))) (And.intro (fun i hi => Nat.le_trans (Nat.le_trans H2.out.2.2.size HB2.out.size) (hk3 i hi)) (fun i hi => Nat.lt_of_lt_of_le (Nat.lt_of_lt_of_le H2.out.2.1.lt HB2.out.size) (hk3 i hi))))); clear hs3 hb3 hk3))
  have HN := Lib.hid (Nv.mk HS2.out.1 (H2.out.1.eq (HW.out.block _ H2.out.1.lt)) (H2.out.2.1.eq (HW.out.block _ H2.out.2.1.lt)) (arg_re HXY.out.1 HS2.out.2.1 HS2.out.2.2.1) (arg_re HXY.out.2 HS2.out.2.1 HS2.out.2.2.1) HS2.out.2.1 HS2.out.2.2.2 (Nat.le_refl _))
  clear HR HSH HW H2 HXY HS2
  generalize runS 4 (l.take 200) = S at *
  have HEV := Lib.hid (ev_any HN.out.sh x.e.q HN.out.rx.q)
  unfold qV at HEV
  obtain ⟨e0, e1, e2, e3, e4, e5, e6⟩ := e_cells (x := x) HN.out.bx
  go_upto_region 4 with ((go_at_call 21; with_reducible (refine (HEV.out).mono ?_); rintro e w4 ⟨rfl, s4, hc4⟩; have HN1 := Lib.hid (HN.out.deed s4 hc4); clear s4 hc4))
  clear e0 e1 e2 e3 e4 e5 e6 HEV
  have hok1 := HN1.out.sh.ok
  have hcode := ins_new_code hok1 x.e now (ev_none HN.out.sh.ok x.e.q)
  have HI := Lib.hid (ins_any HN1.out.sh x HN1.out.rx now)
  unfold evV at HI
  have hh2 := Lib.hid (ins_new_has hok1 x.e now (ev_none HN.out.sh.ok x.e.q) hex)
  rw [if_neg (by omega)] at hcode
  simp only [hcode] at HI
  clear hcode hok1 HN
  generalize (evS S x.e.q).1 = S1 at *
  go_upto_region 7 with (first | (refine wpList_load_row rfl 39 _ rfl (w.heap.size) rfl 39 _ _ _ HN1.out.bx Try.underlying39 rfl (infoEa _) ?_) | (go_at_call 19; with_reducible (refine (HI.out).mono ?_); rintro e w5 ⟨A5, c5, rfl, sl5, nw5, s5, hc5⟩; have HN2 := Lib.hid (HN1.out.deed s5 hc5); clear sl5 nw5 s5 hc5))
  clear HI HN1
  generalize (insS S1 x.e now).1 = S2 at *
  obtain ⟨e0, e1, e2, e3, e4, e5, e6⟩ := e_cells (x := x) HN2.out.bx
  have HQU := Lib.hid HN2.out.quest
  go_upto_region 8 with (refine wpList_store_mid rfl 35 _ _ rfl (w.heap.size + 1) 0 (qf x.e.q).toArray rfl rfl HQU.out.1 infoQ3 (by simp [qf, Value.oneCell']) ?_)
  have HN3 := Lib.hid HQU.out.2
  clear HQU HN2 e0 e1 e2 e3 e4 e5 e6
  try simp only [List.toList_toArray]
  generalize w5.setCells (w.heap.size + 1) 0 (qf x.e.q) = w6 at *
  obtain ⟨z, hz⟩ : ∃ z, withQ y x.e.q = z := ⟨_, rfl⟩
  have zq : z.e.q = x.e.q := by subst hz; rfl
  rw [hz] at HN3
  clear hz
  have hIO := ins_old HN3.out.sh.ok x.e z.e now hh2.out hex zq
  have HI2 := Lib.hid (ins_any HN3.out.sh z HN3.out.ry now)
  unfold evV at HI2
  by_cases c1 : z.e.ex ≤ now
  · have d1 : decide ((now : Int) < (z.e.ex : Nat)) = false := by simp; omega
    have p1 : ¬ now < z.e.ex := Nat.not_lt_of_le c1
    have hcd : (insS S2 z.e now).2.2 = 4 := by rw [hIO.1, if_pos c1]
    have hhw : HasE (insS S2 z.e now).1 x.e := by have h := hIO.2; rwa [if_neg (fun hc => Nat.not_lt_of_le c1 hc.1)] at h
    simp only [hcd] at HI2
    clear hcd hIO hh2
    generalize (insS S2 z.e now).1 = S3 at *
    have HC := Lib.hid (And.intro c1 True.intro)
    clear c1 
    go_upto_region 9 with (first | (refine wpList_load_row rfl 39 _ rfl (w.heap.size + 1) rfl 39 _ _ _ HN3.out.by_ Try.underlying39 rfl (infoEa _) ?_) | (go_at_call 19; with_reducible (refine (HI2.out).mono ?_); rintro e w7 ⟨A7, c7, rfl, sl7, nw7, s7, hc7⟩; have HN4 := Lib.hid (HN3.out.deed s7 hc7); clear sl7 nw7 s7 hc7))
    clear HI2 HN3
    have hlk : (lookS S3 x.e.q now).2 = (x.e, true) := ((look_has HN4.out.sh.ok x.e now hhw).1 hex)
    have hhw2 : HasE (lookS S3 x.e.q now).1 x.e := ((look_has HN4.out.sh.ok x.e now hhw).2.2)
    have HLK := Lib.hid (look_any HN4.out.sh x.e.q HN4.out.rx.q now)
    unfold qV evV at HLK
    simp only [hlk] at HLK
    have HHW := Lib.hid hhw2
    clear hlk hhw hhw2
    generalize (lookS S3 x.e.q now).1 = S4 at *
    obtain ⟨e0, e1, e2, e3, e4, e5, e6⟩ := e_cells (x := x) HN4.out.bx
    go_upto_region 10 with (first | (refine wpList_store_row rfl 39 _ _ rfl (w8.heap.size) (evL ⟨x.e, A8, c8⟩).toArray rfl rfl 39 _ HB8.out.1 (infoEa _) rfl (evL_one _) ?_) | (go_at_call 22; with_reducible (refine (HLK.out).mono ?_); rintro e w8 ⟨A8, c8, rfl, sl8, nw8, s8, hc8⟩; have HN5 := Lib.hid (HN4.out.deed s8 hc8); have HS8 := Lib.hid (And.intro sl8 (nw_up2 HN4.out.sh nw8)); have HB8 := Lib.hid (new_en w8 (evL ⟨x.e, A8, c8⟩).toArray); clear sl8 nw8 s8 hc8))
    clear e0 e1 e2 e3 e4 e5 e6 HLK HN4
    have HO6 := Lib.hid (No.mk (HN5.out.low HB8.out.2.2) HB8.out.2.1 (sh_lt HN5.out.sh).1 (HS8.out.1.below' HB8.out.2.2) HS8.out.2)
    clear HS8 HB8 HN5
    generalize (w8.alloc (Obj.cells #[.string ⟨#[]⟩, .int .u16 0, .int .u16 0, .slice none 0 0, .int .i64 0, .int .i64 0, .int .u64 0] 39)).setRow w8.heap.size (evL ⟨x.e, A8, c8⟩).toArray = w9 at *
    generalize w8.heap.size = r15 at *
    have HB9 := Lib.hid (new_en w9 (evL x).toArray)
    go_upto_region 11 with (first | (refine wpList_load_row rfl 39 _ rfl (w.heap.size) rfl 39 _ _ _ (HO6.out.nv.bx) Try.underlying39 rfl (infoEa _) ?_) | (refine wpList_store_row rfl 39 _ _ rfl (w9.heap.size) (evL x).toArray rfl rfl 39 _ HB9.out.1 (infoEa _) rfl (evL_one _) ?_))
    obtain ⟨e0, e1, e2, e3, e4, e5, e6⟩ := e_cells (x := x) (HO6.out.low HB9.out.2.2).nv.bx
    obtain ⟨f0, f1, f2, f3, f4, f5, f6⟩ := e_cells (x := z) (HO6.out.low HB9.out.2.2).nv.by_
    go_upto_region 13 with (fail)
    clear e0 e1 e2 e3 e4 e5 e6 f0 f1 f2 f3 f4 f5 f6
    have HO7 := Lib.hid (HO6.out.low HB9.out.2.2)
    have HUR := Lib.hid (sh_lt HO6.out.nv.sh).1
    have HB17 := Lib.hid HB9.out.2.1
    clear HB9
    generalize (w9.alloc (Obj.cells #[.string ⟨#[]⟩, .int .u16 0, .int .u16 0, .slice none 0 0, .int .i64 0, .int .i64 0, .int .u64 0] 39)).setRow w9.heap.size (evL x).toArray = w10 at *
    generalize w9.heap.size = r17 at *
    clear HO6
    have hlk : (lookS S4 x.e.q x.e.ex).2 = (default, false) := ((look_has HO7.out.nv.sh.ok x.e x.e.ex HHW.out).2.1 (Nat.lt_irrefl _))
    have HLK := Lib.hid (look_any HO7.out.nv.sh x.e.q HO7.out.nv.rx.q x.e.ex)
    unfold qV evV at HLK
    simp only [hlk] at HLK
    clear hlk
    generalize (lookS S4 x.e.q x.e.ex).1 = S5 at *
    obtain ⟨e0, e1, e2, e3, e4, e5, e6⟩ := e_cells (x := x) HO7.out.nv.bx
    obtain ⟨g0, g1, g2, g3, g4, g5, g6⟩ := e_cells (x := x) HB17.out
    go_upto_region 14 with (first | (refine wpList_store_row rfl 39 _ _ rfl (w11.heap.size) (evL ⟨default, A11, c11⟩).toArray rfl rfl 39 _ HB18.out.1 (infoEa _) rfl (evL_one _) ?_) | (go_at_call 22; with_reducible (refine (HLK.out).mono ?_); rintro e w11 ⟨A11, c11, rfl, sl11, nw11, s11, hc11⟩; have HO8 := Lib.hid (HO7.out.deed s11 hc11); have HS11 := Lib.hid sl11; have HB17b := Lib.hid (blk_deed HO7.out.nv.sh HB17.out HUR.out hc11); have HB18 := Lib.hid (new_en w11 (evL ⟨default, A11, c11⟩).toArray); clear sl11 nw11 s11 hc11))
    clear e0 e1 e2 e3 e4 e5 e6 g0 g1 g2 g3 g4 g5 g6 HLK HO7
    have HO9 := Lib.hid (HO8.out.low HB18.out.2.2)
    have HS9 := Lib.hid (HS11.out.below' HB18.out.2.2)
    have HB19 := Lib.hid HB18.out.2.1
    have HB20 := Lib.hid (blk_deed HO8.out.nv.sh HB17b.out HUR.out (Ch.bel HB18.out.2.2))
    clear HO8 HS11 HB18 HB17 HB17b
    generalize (w11.alloc (Obj.cells #[.string ⟨#[]⟩, .int .u16 0, .int .u16 0, .slice none 0 0, .int .i64 0, .int .i64 0, .int .u64 0] 39)).setRow w11.heap.size (evL ⟨default, A11, c11⟩).toArray = w12 at *
    generalize w11.heap.size = r18 at *
    have HBc := Lib.hid (Below.refl w12.heap.size w12)
    have HLO := Lib.hid HO9.out.nv.lo
    have HCX := Lib.hid (fun (Wx : World) (hW : Below w12.heap.size w12 Wx) => And.intro (nv_cells (HO9.out.low hW).nv) (And.intro (e_cells (HO9.out.low hW).bo) (And.intro (e_cells (HB20.out.eq (hW.block _ HB20.out.lt))) (e_cells (HB19.out.eq (hW.block _ HB19.out.lt))))))
    have HSM := Lib.hid (fun (Wx : World) (hW : Below w12.heap.size w12 Wx) => same_2 x A8 c8 HO9.out.nv.rx.sm Wx (HO9.out.low hW).sl (HO9.out.low hW).nv.rx.sl)
    have HSZ := Lib.hid (fun (Wx : World) (hW : Below w12.heap.size w12 Wx) => same_0 A11 c11 Wx (HS9.out.below' hW))
    obtain ⟨⟨x5, z5, z6⟩, ⟨a0, a1, a2, a3, a4, a5, a6⟩, ⟨b0, b1, b2, b3, b4, b5, b6⟩, ⟨g0, g1, g2, g3, g4, g5, g6⟩⟩ := HCX.out _ HBc.out
    unfold evL at HSM HSZ
    clear HO9 HS9 HB19 HB20 zq
    go_wp2_with (first | (go_at_call 23; with_reducible (refine ((HSM.out _ HBc.out)).mono ?_); rintro e w13 ⟨rfl, hb13⟩; have HB2 := Lib.hid (HBc.out.trans (hb13.mono HBc.out.size)); clear HBc hb13 x5 z5 z6 a0 a1 a2 a3 a4 a5 a6 b0 b1 b2 b3 b4 b5 b6 g0 g1 g2 g3 g4 g5 g6; have HBc := Lib.hid HB2.out; clear HB2; obtain ⟨⟨x5, z5, z6⟩, ⟨a0, a1, a2, a3, a4, a5, a6⟩, ⟨b0, b1, b2, b3, b4, b5, b6⟩, ⟨g0, g1, g2, g3, g4, g5, g6⟩⟩ := HCX.out _ HBc.out) | (go_at_call 23; with_reducible (refine ((HSZ.out _ HBc.out)).mono ?_); rintro e w13 ⟨rfl, hb13⟩; have HB2 := Lib.hid (HBc.out.trans (hb13.mono HBc.out.size)); clear HBc hb13 x5 z5 z6 a0 a1 a2 a3 a4 a5 a6 b0 b1 b2 b3 b4 b5 b6 g0 g1 g2 g3 g4 g5 g6; have HBc := Lib.hid HB2.out; clear HB2; obtain ⟨⟨x5, z5, z6⟩, ⟨a0, a1, a2, a3, a4, a5, a6⟩, ⟨b0, b1, b2, b3, b4, b5, b6⟩, ⟨g0, g1, g2, g3, g4, g5, g6⟩⟩ := HCX.out _ HBc.out))
    go_ret
    exact ⟨rfl, HLO.out.trans (HBc.out.mono HLO.out.size)⟩
  · by_cases c2 : x.e.rk ≤ z.e.rk
    · have d1 : decide ((now : Int) < (z.e.ex : Nat)) = true := by simp; omega
      have p1 : now < z.e.ex := Nat.lt_of_not_le c1
      have d2 : decide (x.e.rk ≤ z.e.rk) = true := by simpa using c2
      have p2 : x.e.rk ≤ z.e.rk := c2
      have hcd : (insS S2 z.e now).2.2 = 0 := by rw [hIO.1, if_neg c1, if_pos c2]
      have hhw : HasE (insS S2 z.e now).1 z.e := by have h := hIO.2; rwa [if_pos ⟨by omega, c2⟩] at h
      simp only [hcd] at HI2
      clear hcd hIO hh2
      generalize (insS S2 z.e now).1 = S3 at *
      have HC := Lib.hid (And.intro c1 c2)
      clear c1 c2
      go_upto_region 9 with (first | (refine wpList_load_row rfl 39 _ rfl (w.heap.size + 1) rfl 39 _ _ _ HN3.out.by_ Try.underlying39 rfl (infoEa _) ?_) | (go_at_call 19; with_reducible (refine (HI2.out).mono ?_); rintro e w7 ⟨A7, c7, rfl, sl7, nw7, s7, hc7⟩; have HN4 := Lib.hid (HN3.out.deed s7 hc7); clear sl7 nw7 s7 hc7))
      clear HI2 HN3
      have hlk : (lookS S3 x.e.q now).2 = (z.e, true) := zq ▸ ((look_has HN4.out.sh.ok z.e now hhw).1 (by omega))
      have hhw2 : HasE (lookS S3 x.e.q now).1 z.e := zq ▸ ((look_has HN4.out.sh.ok z.e now hhw).2.2)
      have HLK := Lib.hid (look_any HN4.out.sh x.e.q HN4.out.rx.q now)
      unfold qV evV at HLK
      simp only [hlk] at HLK
      have HHW := Lib.hid hhw2
      clear hlk hhw hhw2
      generalize (lookS S3 x.e.q now).1 = S4 at *
      obtain ⟨e0, e1, e2, e3, e4, e5, e6⟩ := e_cells (x := x) HN4.out.bx
      go_upto_region 10 with (first | (refine wpList_store_row rfl 39 _ _ rfl (w8.heap.size) (evL ⟨z.e, A8, c8⟩).toArray rfl rfl 39 _ HB8.out.1 (infoEa _) rfl (evL_one _) ?_) | (go_at_call 22; with_reducible (refine (HLK.out).mono ?_); rintro e w8 ⟨A8, c8, rfl, sl8, nw8, s8, hc8⟩; have HN5 := Lib.hid (HN4.out.deed s8 hc8); have HS8 := Lib.hid (And.intro sl8 (nw_up2 HN4.out.sh nw8)); have HB8 := Lib.hid (new_en w8 (evL ⟨z.e, A8, c8⟩).toArray); clear sl8 nw8 s8 hc8))
      clear e0 e1 e2 e3 e4 e5 e6 HLK HN4
      have HO6 := Lib.hid (No.mk (HN5.out.low HB8.out.2.2) HB8.out.2.1 (sh_lt HN5.out.sh).1 (HS8.out.1.below' HB8.out.2.2) HS8.out.2)
      clear HS8 HB8 HN5
      generalize (w8.alloc (Obj.cells #[.string ⟨#[]⟩, .int .u16 0, .int .u16 0, .slice none 0 0, .int .i64 0, .int .i64 0, .int .u64 0] 39)).setRow w8.heap.size (evL ⟨z.e, A8, c8⟩).toArray = w9 at *
      generalize w8.heap.size = r15 at *
      have HB9 := Lib.hid (new_en w9 (evL x).toArray)
      go_upto_region 11 with (first | (refine wpList_load_row rfl 39 _ rfl (w.heap.size) rfl 39 _ _ _ (HO6.out.nv.bx) Try.underlying39 rfl (infoEa _) ?_) | (refine wpList_store_row rfl 39 _ _ rfl (w9.heap.size) (evL x).toArray rfl rfl 39 _ HB9.out.1 (infoEa _) rfl (evL_one _) ?_))
      obtain ⟨e0, e1, e2, e3, e4, e5, e6⟩ := e_cells (x := x) (HO6.out.low HB9.out.2.2).nv.bx
      obtain ⟨f0, f1, f2, f3, f4, f5, f6⟩ := e_cells (x := z) (HO6.out.low HB9.out.2.2).nv.by_
      have HB10 := Lib.hid (setRow_below HB9.out.2.2 (Nat.le_refl _) (evL z).toArray)
      have HK10 := Lib.hid (show Blk (((w9.alloc (Obj.cells #[.string ⟨#[]⟩, .int .u16 0, .int .u16 0, .slice none 0 0, .int .i64 0, .int .i64 0, .int .u64 0] 39)).setRow w9.heap.size (evL x).toArray).setRow w9.heap.size (evL z).toArray) w9.heap.size 39 (evL z).toArray from setRow_heap _ _ _ _ _ _ HB9.out.2.1)
      go_upto_region 12 with (fail)
      clear e0 e1 e2 e3 e4 e5 e6 f0 f1 f2 f3 f4 f5 f6
      go_upto_region 13 with (first | (refine wpList_load_row rfl 39 _ rfl (w.heap.size + 1) rfl 39 _ _ _ (HO6.out.low HB9.out.2.2).nv.by_ Try.underlying39 rfl (infoEa _) ?_) | (refine wpList_store_row rfl 39 _ _ rfl (w9.heap.size) (evL z).toArray rfl rfl 39 _ HB9.out.2.1 (infoEa _) rfl (evL_one _) ?_))
      have HO7 := Lib.hid (HO6.out.low HB10.out)
      have HUR := Lib.hid (sh_lt HO6.out.nv.sh).1
      have HB17 := Lib.hid HK10.out
      clear HB9 HB10 HK10
      generalize ((w9.alloc (Obj.cells #[.string ⟨#[]⟩, .int .u16 0, .int .u16 0, .slice none 0 0, .int .i64 0, .int .i64 0, .int .u64 0] 39)).setRow w9.heap.size (evL x).toArray).setRow w9.heap.size (evL z).toArray = w10 at *
      generalize w9.heap.size = r17 at *
      clear HO6
      have hlk : (lookS S4 x.e.q z.e.ex).2 = (default, false) := zq ▸ ((look_has HO7.out.nv.sh.ok z.e z.e.ex HHW.out).2.1 (Nat.lt_irrefl _))
      have HLK := Lib.hid (look_any HO7.out.nv.sh x.e.q HO7.out.nv.rx.q z.e.ex)
      unfold qV evV at HLK
      simp only [hlk] at HLK
      clear hlk
      generalize (lookS S4 x.e.q z.e.ex).1 = S5 at *
      obtain ⟨e0, e1, e2, e3, e4, e5, e6⟩ := e_cells (x := x) HO7.out.nv.bx
      obtain ⟨g0, g1, g2, g3, g4, g5, g6⟩ := e_cells (x := z) HB17.out
      go_upto_region 14 with (first | (refine wpList_store_row rfl 39 _ _ rfl (w11.heap.size) (evL ⟨default, A11, c11⟩).toArray rfl rfl 39 _ HB18.out.1 (infoEa _) rfl (evL_one _) ?_) | (go_at_call 22; with_reducible (refine (HLK.out).mono ?_); rintro e w11 ⟨A11, c11, rfl, sl11, nw11, s11, hc11⟩; have HO8 := Lib.hid (HO7.out.deed s11 hc11); have HS11 := Lib.hid sl11; have HB17b := Lib.hid (blk_deed HO7.out.nv.sh HB17.out HUR.out hc11); have HB18 := Lib.hid (new_en w11 (evL ⟨default, A11, c11⟩).toArray); clear sl11 nw11 s11 hc11))
      clear e0 e1 e2 e3 e4 e5 e6 g0 g1 g2 g3 g4 g5 g6 HLK HO7
      have HO9 := Lib.hid (HO8.out.low HB18.out.2.2)
      have HS9 := Lib.hid (HS11.out.below' HB18.out.2.2)
      have HB19 := Lib.hid HB18.out.2.1
      have HB20 := Lib.hid (blk_deed HO8.out.nv.sh HB17b.out HUR.out (Ch.bel HB18.out.2.2))
      clear HO8 HS11 HB18 HB17 HB17b
      generalize (w11.alloc (Obj.cells #[.string ⟨#[]⟩, .int .u16 0, .int .u16 0, .slice none 0 0, .int .i64 0, .int .i64 0, .int .u64 0] 39)).setRow w11.heap.size (evL ⟨default, A11, c11⟩).toArray = w12 at *
      generalize w11.heap.size = r18 at *
      have HBc := Lib.hid (Below.refl w12.heap.size w12)
      have HLO := Lib.hid HO9.out.nv.lo
      have HCX := Lib.hid (fun (Wx : World) (hW : Below w12.heap.size w12 Wx) => And.intro (nv_cells (HO9.out.low hW).nv) (And.intro (e_cells (HO9.out.low hW).bo) (And.intro (e_cells (HB20.out.eq (hW.block _ HB20.out.lt))) (e_cells (HB19.out.eq (hW.block _ HB19.out.lt))))))
      have HSM := Lib.hid (fun (Wx : World) (hW : Below w12.heap.size w12 Wx) => same_2 z A8 c8 HO9.out.nv.ry.sm Wx (HO9.out.low hW).sl (HO9.out.low hW).nv.ry.sl)
      have HSZ := Lib.hid (fun (Wx : World) (hW : Below w12.heap.size w12 Wx) => same_0 A11 c11 Wx (HS9.out.below' hW))
      obtain ⟨⟨x5, z5, z6⟩, ⟨a0, a1, a2, a3, a4, a5, a6⟩, ⟨b0, b1, b2, b3, b4, b5, b6⟩, ⟨g0, g1, g2, g3, g4, g5, g6⟩⟩ := HCX.out _ HBc.out
      unfold evL at HSM HSZ
      clear HO9 HS9 HB19 HB20 zq
      go_wp2_with (first | (go_at_call 23; with_reducible (refine ((HSM.out _ HBc.out)).mono ?_); rintro e w13 ⟨rfl, hb13⟩; have HB2 := Lib.hid (HBc.out.trans (hb13.mono HBc.out.size)); clear HBc hb13 x5 z5 z6 a0 a1 a2 a3 a4 a5 a6 b0 b1 b2 b3 b4 b5 b6 g0 g1 g2 g3 g4 g5 g6; have HBc := Lib.hid HB2.out; clear HB2; obtain ⟨⟨x5, z5, z6⟩, ⟨a0, a1, a2, a3, a4, a5, a6⟩, ⟨b0, b1, b2, b3, b4, b5, b6⟩, ⟨g0, g1, g2, g3, g4, g5, g6⟩⟩ := HCX.out _ HBc.out) | (go_at_call 23; with_reducible (refine ((HSZ.out _ HBc.out)).mono ?_); rintro e w13 ⟨rfl, hb13⟩; have HB2 := Lib.hid (HBc.out.trans (hb13.mono HBc.out.size)); clear HBc hb13 x5 z5 z6 a0 a1 a2 a3 a4 a5 a6 b0 b1 b2 b3 b4 b5 b6 g0 g1 g2 g3 g4 g5 g6; have HBc := Lib.hid HB2.out; clear HB2; obtain ⟨⟨x5, z5, z6⟩, ⟨a0, a1, a2, a3, a4, a5, a6⟩, ⟨b0, b1, b2, b3, b4, b5, b6⟩, ⟨g0, g1, g2, g3, g4, g5, g6⟩⟩ := HCX.out _ HBc.out))
      go_ret
      exact ⟨rfl, HLO.out.trans (HBc.out.mono HLO.out.size)⟩
    · have d1 : decide ((now : Int) < (z.e.ex : Nat)) = true := by simp; omega
      have p1 : now < z.e.ex := Nat.lt_of_not_le c1
      have d2 : decide (x.e.rk ≤ z.e.rk) = false := by simpa using c2
      have p2 : ¬ x.e.rk ≤ z.e.rk := c2
      have hcd : (insS S2 z.e now).2.2 = 7 := by rw [hIO.1, if_neg c1, if_neg c2]
      have hhw : HasE (insS S2 z.e now).1 x.e := by have h := hIO.2; rwa [if_neg (fun hc => c2 hc.2)] at h
      simp only [hcd] at HI2
      clear hcd hIO hh2
      generalize (insS S2 z.e now).1 = S3 at *
      have HC := Lib.hid (And.intro c1 c2)
      clear c1 c2
      go_upto_region 9 with (first | (refine wpList_load_row rfl 39 _ rfl (w.heap.size + 1) rfl 39 _ _ _ HN3.out.by_ Try.underlying39 rfl (infoEa _) ?_) | (go_at_call 19; with_reducible (refine (HI2.out).mono ?_); rintro e w7 ⟨A7, c7, rfl, sl7, nw7, s7, hc7⟩; have HN4 := Lib.hid (HN3.out.deed s7 hc7); clear sl7 nw7 s7 hc7))
      clear HI2 HN3
      have hlk : (lookS S3 x.e.q now).2 = (x.e, true) := ((look_has HN4.out.sh.ok x.e now hhw).1 hex)
      have hhw2 : HasE (lookS S3 x.e.q now).1 x.e := ((look_has HN4.out.sh.ok x.e now hhw).2.2)
      have HLK := Lib.hid (look_any HN4.out.sh x.e.q HN4.out.rx.q now)
      unfold qV evV at HLK
      simp only [hlk] at HLK
      have HHW := Lib.hid hhw2
      clear hlk hhw hhw2
      generalize (lookS S3 x.e.q now).1 = S4 at *
      obtain ⟨e0, e1, e2, e3, e4, e5, e6⟩ := e_cells (x := x) HN4.out.bx
      go_upto_region 10 with (first | (refine wpList_store_row rfl 39 _ _ rfl (w8.heap.size) (evL ⟨x.e, A8, c8⟩).toArray rfl rfl 39 _ HB8.out.1 (infoEa _) rfl (evL_one _) ?_) | (go_at_call 22; with_reducible (refine (HLK.out).mono ?_); rintro e w8 ⟨A8, c8, rfl, sl8, nw8, s8, hc8⟩; have HN5 := Lib.hid (HN4.out.deed s8 hc8); have HS8 := Lib.hid (And.intro sl8 (nw_up2 HN4.out.sh nw8)); have HB8 := Lib.hid (new_en w8 (evL ⟨x.e, A8, c8⟩).toArray); clear sl8 nw8 s8 hc8))
      clear e0 e1 e2 e3 e4 e5 e6 HLK HN4
      have HO6 := Lib.hid (No.mk (HN5.out.low HB8.out.2.2) HB8.out.2.1 (sh_lt HN5.out.sh).1 (HS8.out.1.below' HB8.out.2.2) HS8.out.2)
      clear HS8 HB8 HN5
      generalize (w8.alloc (Obj.cells #[.string ⟨#[]⟩, .int .u16 0, .int .u16 0, .slice none 0 0, .int .i64 0, .int .i64 0, .int .u64 0] 39)).setRow w8.heap.size (evL ⟨x.e, A8, c8⟩).toArray = w9 at *
      generalize w8.heap.size = r15 at *
      have HB9 := Lib.hid (new_en w9 (evL x).toArray)
      go_upto_region 11 with (first | (refine wpList_load_row rfl 39 _ rfl (w.heap.size) rfl 39 _ _ _ (HO6.out.nv.bx) Try.underlying39 rfl (infoEa _) ?_) | (refine wpList_store_row rfl 39 _ _ rfl (w9.heap.size) (evL x).toArray rfl rfl 39 _ HB9.out.1 (infoEa _) rfl (evL_one _) ?_))
      obtain ⟨e0, e1, e2, e3, e4, e5, e6⟩ := e_cells (x := x) (HO6.out.low HB9.out.2.2).nv.bx
      obtain ⟨f0, f1, f2, f3, f4, f5, f6⟩ := e_cells (x := z) (HO6.out.low HB9.out.2.2).nv.by_
      go_upto_region 13 with (fail)
      clear e0 e1 e2 e3 e4 e5 e6 f0 f1 f2 f3 f4 f5 f6
      have HO7 := Lib.hid (HO6.out.low HB9.out.2.2)
      have HUR := Lib.hid (sh_lt HO6.out.nv.sh).1
      have HB17 := Lib.hid HB9.out.2.1
      clear HB9
      generalize (w9.alloc (Obj.cells #[.string ⟨#[]⟩, .int .u16 0, .int .u16 0, .slice none 0 0, .int .i64 0, .int .i64 0, .int .u64 0] 39)).setRow w9.heap.size (evL x).toArray = w10 at *
      generalize w9.heap.size = r17 at *
      clear HO6
      have hlk : (lookS S4 x.e.q x.e.ex).2 = (default, false) := ((look_has HO7.out.nv.sh.ok x.e x.e.ex HHW.out).2.1 (Nat.lt_irrefl _))
      have HLK := Lib.hid (look_any HO7.out.nv.sh x.e.q HO7.out.nv.rx.q x.e.ex)
      unfold qV evV at HLK
      simp only [hlk] at HLK
      clear hlk
      generalize (lookS S4 x.e.q x.e.ex).1 = S5 at *
      obtain ⟨e0, e1, e2, e3, e4, e5, e6⟩ := e_cells (x := x) HO7.out.nv.bx
      obtain ⟨g0, g1, g2, g3, g4, g5, g6⟩ := e_cells (x := x) HB17.out
      go_upto_region 14 with (first | (refine wpList_store_row rfl 39 _ _ rfl (w11.heap.size) (evL ⟨default, A11, c11⟩).toArray rfl rfl 39 _ HB18.out.1 (infoEa _) rfl (evL_one _) ?_) | (go_at_call 22; with_reducible (refine (HLK.out).mono ?_); rintro e w11 ⟨A11, c11, rfl, sl11, nw11, s11, hc11⟩; have HO8 := Lib.hid (HO7.out.deed s11 hc11); have HS11 := Lib.hid sl11; have HB17b := Lib.hid (blk_deed HO7.out.nv.sh HB17.out HUR.out hc11); have HB18 := Lib.hid (new_en w11 (evL ⟨default, A11, c11⟩).toArray); clear sl11 nw11 s11 hc11))
      clear e0 e1 e2 e3 e4 e5 e6 g0 g1 g2 g3 g4 g5 g6 HLK HO7
      have HO9 := Lib.hid (HO8.out.low HB18.out.2.2)
      have HS9 := Lib.hid (HS11.out.below' HB18.out.2.2)
      have HB19 := Lib.hid HB18.out.2.1
      have HB20 := Lib.hid (blk_deed HO8.out.nv.sh HB17b.out HUR.out (Ch.bel HB18.out.2.2))
      clear HO8 HS11 HB18 HB17 HB17b
      generalize (w11.alloc (Obj.cells #[.string ⟨#[]⟩, .int .u16 0, .int .u16 0, .slice none 0 0, .int .i64 0, .int .i64 0, .int .u64 0] 39)).setRow w11.heap.size (evL ⟨default, A11, c11⟩).toArray = w12 at *
      generalize w11.heap.size = r18 at *
      have HBc := Lib.hid (Below.refl w12.heap.size w12)
      have HLO := Lib.hid HO9.out.nv.lo
      have HCX := Lib.hid (fun (Wx : World) (hW : Below w12.heap.size w12 Wx) => And.intro (nv_cells (HO9.out.low hW).nv) (And.intro (e_cells (HO9.out.low hW).bo) (And.intro (e_cells (HB20.out.eq (hW.block _ HB20.out.lt))) (e_cells (HB19.out.eq (hW.block _ HB19.out.lt))))))
      have HSM := Lib.hid (fun (Wx : World) (hW : Below w12.heap.size w12 Wx) => same_2 x A8 c8 HO9.out.nv.rx.sm Wx (HO9.out.low hW).sl (HO9.out.low hW).nv.rx.sl)
      have HSZ := Lib.hid (fun (Wx : World) (hW : Below w12.heap.size w12 Wx) => same_0 A11 c11 Wx (HS9.out.below' hW))
      obtain ⟨⟨x5, z5, z6⟩, ⟨a0, a1, a2, a3, a4, a5, a6⟩, ⟨b0, b1, b2, b3, b4, b5, b6⟩, ⟨g0, g1, g2, g3, g4, g5, g6⟩⟩ := HCX.out _ HBc.out
      unfold evL at HSM HSZ
      clear HO9 HS9 HB19 HB20 zq
      go_wp2_with (first | (go_at_call 23; with_reducible (refine ((HSM.out _ HBc.out)).mono ?_); rintro e w13 ⟨rfl, hb13⟩; have HB2 := Lib.hid (HBc.out.trans (hb13.mono HBc.out.size)); clear HBc hb13 x5 z5 z6 a0 a1 a2 a3 a4 a5 a6 b0 b1 b2 b3 b4 b5 b6 g0 g1 g2 g3 g4 g5 g6; have HBc := Lib.hid HB2.out; clear HB2; obtain ⟨⟨x5, z5, z6⟩, ⟨a0, a1, a2, a3, a4, a5, a6⟩, ⟨b0, b1, b2, b3, b4, b5, b6⟩, ⟨g0, g1, g2, g3, g4, g5, g6⟩⟩ := HCX.out _ HBc.out) | (go_at_call 23; with_reducible (refine ((HSZ.out _ HBc.out)).mono ?_); rintro e w13 ⟨rfl, hb13⟩; have HB2 := Lib.hid (HBc.out.trans (hb13.mono HBc.out.size)); clear HBc hb13 x5 z5 z6 a0 a1 a2 a3 a4 a5 a6 b0 b1 b2 b3 b4 b5 b6 g0 g1 g2 g3 g4 g5 g6; have HBc := Lib.hid HB2.out; clear HB2; obtain ⟨⟨x5, z5, z6⟩, ⟨a0, a1, a2, a3, a4, a5, a6⟩, ⟨b0, b1, b2, b3, b4, b5, b6⟩, ⟨g0, g1, g2, g3, g4, g5, g6⟩⟩ := HCX.out _ HBc.out))
      go_ret
      exact ⟨rfl, HLO.out.trans (HBc.out.mono HLO.out.size)⟩
end Go.Proofs.Ytjjanogfcfapcaa.D
