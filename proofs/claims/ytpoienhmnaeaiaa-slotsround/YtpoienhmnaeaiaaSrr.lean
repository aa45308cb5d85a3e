/- The law SlotsRound: its walk. -/
import Derived.Test.YtpoienhmnaeaiaaSoq
namespace Go.Proofs.Ytpoienhmnaeaiaa
open Go.RowKit
set_option linter.unusedVariables false

theorem Go1.set {g b B0 sb : Nat} {w0 wr : World} {M : Ms} (h : Go1 g b B0 w0 wr M) (hq : g < sb) (i : Nat) (u : Value) : Go1 g b B0 w0 (wr.setCell ⟨sb, i, none⟩ u) M :=
  ⟨⟨h.sp.gb, h.sp.bg.far _ _ (by simp; omega), h.sp.bb.far _ _ (by have := h.sp.gb; simp; omega), h.sp.ok⟩, h.bl.setCell (p := ⟨sb, i, none⟩) (by have := h.b0; have := h.sp.gb; simp; omega) u, h.b0⟩
theorem Ns.set {k : IntKind} {w : World} {A : Option Addr} {l : List Nat} {sb : Nat} (h : Ns k w A l) (hA : ∀ p, A = some p → l = [] ∨ p.block < sb) (i : Nat) (u : Value) : Ns k (w.setCell ⟨sb, i, none⟩ u) A l := fun j hj => by
  obtain ⟨c, off, h1, h2⟩ := h j hj
  have : c < sb := by
    rcases hA _ h1 with e | e
    · rw [e] at hj; simp at hj
    · exact e
  exact ⟨c, off, h1, (World.cell?_of_block (a := ⟨c, off + j, none⟩) (Below.heap_setCell w ⟨sb, i, none⟩ u c (by simp; omega))).trans h2⟩
/-- The slots and the slice of all, behind some looks. -/
structure Gr (g b B0 : Nat) (w0 wr : World) (M : Ms) (A : Option Addr) (L : List Nat) : Prop where
  go : Go1 g b B0 w0 wr M
  ns : Ns .i64 wr A L
  all : allM M = L
  len : M.c.length = 8
theorem Gr.vic {g b B0 : Nat} {w0 wr w' : World} {M : Ms} {A : Option Addr} {L : List Nat} (h : Gr g b B0 w0 wr M A L) (hs : Sp w' g b (vicM M).1) (hf : Fp g b wr w') (hA : ∀ p, A = some p → g < p.block) : Gr g b B0 w0 w' (vicM M).1 A L :=
  ⟨h.go.fp hs hf, h.ns.fp hf hA, by rw [vicM_all h.go.sp.ok, h.all], by rw [vicM_len h.go.sp.ok, h.len]⟩
theorem Gr.bel {g b B0 : Nat} {w0 wr w' : World} {M : Ms} {A : Option Addr} {L : List Nat} (h : Gr g b B0 w0 wr M A L) (hb : Below wr.heap.size wr w') : Gr g b B0 w0 w' M A L := ⟨h.go.bel hb, h.ns.below hb, h.all, h.len⟩

set_option maxRecDepth 100000 in
set_option maxHeartbeats 4000000 in
theorem round_walk (A : Option Addr) (cap : Nat) (l : List De) (w : World) (hA : Ds w A cap l) : Calls Try.prog 4 #[.slice A l.length cap] w fun e w' => e = .returned (.bool true) ∧ Below w.heap.size w w' := by
  have HC0 := Lib.hid (shown_any w)
  have HA := Lib.hid hA
  clear hA
  go_enter Try.func4, Try.ntmps4
  go_upto_region 3 with (first
    | (go_at_call 18; with_reducible (refine HC1.out.mono ?_); rintro e w1 ⟨g, b, M, rfl, hs1, hM, hb, hb1⟩)
    | (go_at_call 9; with_reducible (refine HC0.out.mono ?_); rintro e w0 ⟨rfl, hb0⟩; have HB0 := Lib.hid hb0; have HC1 := Lib.hid (ran_any A cap l w0 (HA.out.below hb0)); clear hb0))
  have G1 := go1_of HB0.out hs1 hb hb1
  clear HC0 HC1 hs1 hb hb1 HB0 HA
  have HL := Lib.hid (len_any G1.sp)
  have HG := Lib.hid G1
  obtain ⟨L, hL⟩ : ∃ L, allM M = L := ⟨_, rfl⟩
  have h08 : L.length ≤ 8 := by rw [← hL, ← hM]; exact allC_le _ _
  have HLM := Lib.hid (And.intro hL hM)
  rw [hL] at HL
  clear hL hM G1
  go_upto_region 5 with (first
    | (go_at_call 15; with_reducible (refine HL2.out.mono ?_); rintro e w3 ⟨A', cap', rfl, hns, hb3, hfr⟩)
    | (go_at_call 11; with_reducible (refine HL.out.mono ?_); rintro e w2 ⟨rfl, hb2⟩; have HG2 := Lib.hid (HG.out.bel hb2); have HL2 := Lib.hid (all_fresh HG2.out.sp); rw [HLM.out.1] at HL2; clear hb2))
  have hag : ∀ p, A' = some p → g < p.block := fun p hp => Nat.lt_of_lt_of_le HG2.out.sp.bg.lt (hfr p hp)
  have HAG := Lib.hid hag
  have G3 := Lib.hid (show Gr g b w.heap.size w w3 M A' L from ⟨HG2.out.bel hb3, hns, HLM.out.1, HLM.out.2⟩)
  have HP := Lib.hid (show Ph M (L.length - 0) from by have := ph_init M; rw [HLM.out.1] at this; exact this)
  clear hns hb3 hfr hag HG HL HG2 HL2
  obtain ⟨n, hn⟩ : ∃ n, L.length = n := ⟨_, rfl⟩
  have HNL := Lib.hid hn
  rw [hn] at h08 HP ⊢
  clear hn
  go_wp2_with fail
  go_loopw [7] (fun v wr => ∃ (q : Nat) (M' : Ms), v = .int .i64 q ∧ q ≤ n ∧ Gr g b w.heap.size w wr M' A' L ∧ Ph M' (n - q)) (fun v _ => n - (intOf v).toNat)
  case atStart => exact ⟨0, M, rfl, Nat.zero_le _, G3.out, HP.out⟩
  case round =>
    clear G3 HP
    obtain ⟨q, M', rfl, hq, hG, hP⟩ := hrel
    by_cases hlt : q < n
    · have d1 : decide ((q : Int) < (n : Nat)) = true := by simp; omega
      have hne : allM M' ≠ [] := by
        rw [hG.all]
        intro e
        have := HNL.out
        rw [e] at this
        simp at this
        omega
      obtain ⟨v, hv⟩ := vicM_some hG.go.sp.ok hne
      have HV := Lib.hid (vic_any hG.go.sp)
      have HX := Lib.hid (show Ph (vicM M').1 (n - (q + 1)) from ph_vic hG.go.sp.ok (by rw [show n - (q + 1) + 1 = n - q by omega]; exact hP) hv)
      have HG := Lib.hid hG
      clear hG hP hne hv
      go_wp2_with (go_at_call 19; with_reducible (refine HV.out.mono ?_); rintro e w4 ⟨rfl, hs4, hf4⟩; have HG4 := Lib.hid (HG.out.vic hs4 hf4 HAG.out); clear hs4 hf4)
      go_roundw
      case rel => exact ⟨q + 1, (vicM M').1, by go_num, hlt, HG4.out, HX.out⟩
      case measure => simp [intOf]; omega
    · obtain rfl : q = n := by omega
      have d1 : decide ((q : Int) < (q : Nat)) = false := by simp
      have hS := ph_still (by rw [Nat.sub_self] at hP; exact hP)
      have e0 : c8 (fun _ => 0) = #[.int .i64 0, .int .i64 0, .int .i64 0, .int .i64 0, .int .i64 0, .int .i64 0, .int .i64 0, .int .i64 0] := rfl
      have hbk := Blk.new wr 44 (c8 (fun _ => 0))
      have hG5 := hG.bel ((Below.refl _ wr).alloc (Nat.le_refl _) (Obj.cells (c8 (fun _ => 0)) 44))
      rw [e0] at hG5
      rw [e0] at hbk
      have hgs : g < wr.heap.size := hG.go.sp.bg.lt
      have hAs : ∀ p, A' = some p → L = [] ∨ p.block < wr.heap.size := fun p hp => by
        by_cases hl0 : L = []
        · exact .inl hl0
        · right
          obtain ⟨c, off, h1, h2⟩ := hG.ns 0 (List.length_pos_iff.2 hl0)
          rw [hp] at h1
          cases h1
          exact cell_size h2
      have HF := Lib.hid (And.intro hS (And.intro hgs hAs))
      have HG5 := Lib.hid (And.intro hG5 hbk)
      clear hG hP hS hbk hG5 hgs hAs e0
      go_upto_region 10 with (fail)
      generalize wr.alloc (Obj.cells #[.int .i64 0, .int .i64 0, .int .i64 0, .int .i64 0, .int .i64 0, .int .i64 0, .int .i64 0, .int .i64 0] 44) = w5 at *
      generalize wr.heap.size = sb at *
      obtain ⟨F, hF⟩ : ∃ F, fQ (rotQ M') = F := ⟨_, rfl⟩
      have hFn : F.Nodup := by rw [← hF]; exact fq_nodup M'
      have hFm : ∀ j, j ∈ F ↔ j ∈ L := fun j => by rw [← hF, fq_mem, HG5.out.1.all]
      have hFl : F.length = q := by rw [← hF, fQ_rot_len, HG5.out.1.all]; exact HNL.out
      have HR := Lib.hid (show Rd M' F 0 (fun _ => 0) from by rw [← hF]; exact rd_begin HF.out.1)
      have HFF := Lib.hid (And.intro hFn (And.intro hFm hFl))
      clear hF hFn hFm hFl
      go_wp2_with fail
      go_loopw [9, 10, 11] (fun v _ _ wr => ∃ (k : Nat) (N : Ms) (S : Nat → Nat), v = .int .i64 k ∧ k ≤ 3 * q ∧ Gr g b w.heap.size w wr N A' L ∧ Rd N F k S ∧ Blk wr sb 44 (c8 S)) (fun v _ _ _ => 3 * q - (intOf v).toNat)
      case atStart => exact ⟨0, M', fun _ => 0, rfl, Nat.zero_le _, HG5.out.1, HR.out, HG5.out.2⟩
      case round =>
        clear HG5 HR
        obtain ⟨k, N, S, rfl, hk, hG, hR, hB⟩ := hrel
        have hok := hG.go.sp.ok
        by_cases hlt2 : k < 3 * q
        · have d2 : decide ((k : Int) < 3 * (q : Nat)) = true := by simp; omega
          have hne : allM N ≠ [] := by
            rw [hG.all]
            intro e
            have := HNL.out
            rw [e] at this
            simp at this
            omega
          have hFne : F ≠ [] := by
            intro e
            have := HFF.out.2.2
            rw [e] at this
            simp at this
            omega
          obtain ⟨v, hv⟩ := vicM_some hok hne
          have hv8 : v < 8 := by
            have := (all_mem.1 (vicM_mem hok hv)).1
            rw [hG.len] at this
            exact this
          have HV := Lib.hid (vic_any hG.go.sp)
          rw [vicI_of hv, vicB_of hv] at HV
          have e1 : decide ((v : Int) < 0) = false := by simp
          have e2 : decide ((7 : Int) < (v : Nat)) = false := by simp; omega
          have s0 : (0 : Int) ≤ (v : Nat) := by omega
          have s1 : (v : Int) < 8 := by omega
          have hSv : S v ≤ 24 := by have := hR.le v; omega
          have HRR := Lib.hid (rd_step hok HFF.out.1 hFne hR hv)
          have HAt := Lib.hid (c8_at S v hv8)
          have HSet := Lib.hid (c8_set S v hv8)
          have HB := Lib.hid hB
          have HG := Lib.hid hG
          clear hG hR hB hok hne hFne hv
          generalize (fun i => if i = v then S i + 1 else S i) = S2 at *
          generalize c8 S = cs at *
          generalize S v = sv at *
          go_wp2_with (go_at_call 19; with_reducible (refine HV.out.mono ?_); rintro e w6 ⟨rfl, hs6, hf6⟩; have HG6 := Lib.hid (HG.out.vic hs6 hf6 HAG.out); have hb6 := HB.out.eq (hf6.high _ HF.out.2.1 HB.out.lt); have c0 := (hb6.cell v).trans HAt.out; have f0 := hb6.frozen v; have HB6 := Lib.hid hb6; clear hs6 hf6 hb6)
          go_roundw
          case rel =>
            have hset := HB6.out.set_ v (.int .i64 ((sv + 1 : Nat) : Int))
            rw [HSet.out] at hset
            exact ⟨k + 1, (vicM N).1, S2, by go_num, hlt2, ⟨HG6.out.go.set HF.out.2.1 _ _, HG6.out.ns.set HF.out.2.2 _ _, HG6.out.all, HG6.out.len⟩, HRR.out, hset⟩
          case measure => simp [intOf]; omega
        · obtain rfl : k = 3 * q := by omega
          have d2 : decide (((3 * q : Nat) : Int) < 3 * (q : Nat)) = false := by simp
          have h3 : ∀ j ∈ L, S j = 3 ∧ j < 8 := fun j hj => ⟨rd_end (F := F) (M := N) (S := S) (by rw [HFF.out.2.2]; exact hR) j ((HFF.out.2.1 j).2 hj), by
            rw [← hG.all] at hj
            have := (all_mem.1 hj).1
            rw [hG.len] at this
            exact this⟩
          have HV := Lib.hid (vic_any hG.go.sp)
          have hvb := vicB_all hok
          rw [hG.all, HNL.out] at hvb
          rw [hvb] at HV
          have H3 := Lib.hid h3
          have HB := Lib.hid hB
          have HG := Lib.hid hG
          clear hG hR hB hok hvb h3
          obtain ⟨vi, hvi⟩ : ∃ vi, vicI N = vi := ⟨_, rfl⟩
          rw [hvi] at HV
          clear hvi
          go_upto_region 18 with (go_at_call 19; with_reducible (refine HV.out.mono ?_); rintro e w7 ⟨rfl, hs7, hf7⟩; have HG7 := Lib.hid (HG.out.vic hs7 hf7 HAG.out); have HB7 := Lib.hid (HB.out.eq (hf7.high _ HF.out.2.1 HB.out.lt)); clear hs7 hf7)
          clear HV HB HG
          go_wp2_with fail
          go_loopw [14] (fun v wr => ∃ i : Nat, v = .int .i64 i ∧ i ≤ q ∧ wr = w7) (fun v _ => q - (intOf v).toNat)
          case atStart => exact ⟨0, rfl, Nat.zero_le _, rfl⟩
          case round =>
            obtain ⟨i, rfl, hi, rfl⟩ := hrel
            by_cases hli : i < q
            · have d3 : decide ((i : Int) < (q : Nat)) = true := by simp; omega
              have hiL : i < L.length := by rw [HNL.out]; exact hli
              obtain ⟨ab, off, rfl, c0⟩ := HG7.out.ns i hiL
              obtain ⟨t1, t2⟩ := H3.out L[i] (List.getElem_mem hiL)
              generalize L[i] = x at *
              have z0 : wr.cell? ⟨sb, x, none⟩ = some (.int .i64 3) := by rw [HB7.out.cell x, c8_at S x t2, t1]; rfl
              have e1 : decide ((x : Int) < 0) = false := by simp
              have e2 : decide ((7 : Int) < (x : Nat)) = false := by simp; omega
              have s0 : (0 : Int) ≤ (x : Nat) := by omega
              have s1 : (x : Int) < 8 := by omega
              have s2 : (0 : Int) ≤ (i : Nat) := by omega
              have s3 : (i : Int) < (q : Nat) := by omega
              clear t1
              go_wp2_with fail
              go_roundw
              case rel => exact ⟨i + 1, by go_num, hli, by trivial⟩
              case measure => simp [intOf]; omega
            · obtain rfl : i = q := by omega
              have d3 : decide ((i : Int) < (i : Nat)) = false := by simp
              go_wp2_with fail
              go_ret
              exact ⟨rfl, HG7.out.go.bl⟩
end Go.Proofs.Ytpoienhmnaeaiaa
