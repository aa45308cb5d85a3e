/- derricklaw12.ShardDue (written by tools/gen_veb.py). -/
import Derived.Test.YtjjanogfcfapcaaVea
import Derived.Test.YtjjanogfcfapcaaVdv
import Derived.BigQuiet
namespace Go.Proofs.Ytjjanogfcfapcaa.D
open Go.RowKit
set_option linter.unusedVariables false

theorem elU : (Try.prog.info? 37).map (fun i => (i.zero, i.size, i.bytes)) = some (some (.int .u64 0), 1, 8) := by kernel_rfl
def exU (S : Sd) (j : Nat) : List Value := ((allC S.P.c S.P.c.length).take j).map fun k => .int .u64 (exA S.P.c k : Nat)
/-- While the times are gathered. -/
structure Du (w0 wr : World) (h : Nat) (K : Ly) (S : Sd) (B : Nat) (A1 : Option Addr) (cap1 : Nat) (T : Sd) (v : Value) (j : Nat) : Prop where
  sh : Sh wr h K T
  sim : Sim S T
  own : wr.ownsRow B 37 1 v j (exU S j)
  no : NoSR wr 37 v
  ks : Sl qf wr A1 cap1 (keysOf S.P.c)
  lo : Below w0.heap.size w0 wr
  kx : ∀ i, K.X i → w0.heap.size ≤ i
  hb : h < B
  b0 : w0.heap.size ≤ B
  bw : B ≤ wr.heap.size
  ka : ∀ b off, A1 = some ⟨b, off, none⟩ → h < b ∧ (keysOf S.P.c ≠ [] → b < B)
section
variable {w0 wr w' : World} {h : Nat} {K : Ly} {S T T' : Sd} {B : Nat} {A1 : Option Addr} {cap1 : Nat} {v : Value} {j : Nat}
theorem Du.deed (d : Du w0 wr h K S B A1 cap1 T v j) (s : Sh w' h K T') (hs : Sim S T') (hc : Ch K.X wr w') : Du w0 w' h K S B A1 cap1 T' v j := by
  have hx := (sh_lt d.sh).2
  have hb := d.hb
  refine ⟨s, hs, ownR_ch d.own hc (fun i hi => by have := hx i hi; omega), fun g hg => ?_, d.ks.ch hc (fun b off e _ hX => by have := (d.ka b off e).1; have := hx b hX; omega), d.lo.trans (hc.isBelow d.kx d.lo.size), d.kx, d.hb, d.b0, Nat.le_trans d.bw hc.size, d.ka⟩
  obtain ⟨cur, h1, h2⟩ := d.no g hg
  refine ⟨cur, h1.eq (hc.block g h1.lt (fun hX => ?_)), h2⟩
  have := hx g hX
  have := (d.own.lt g hg).1
  omega
theorem Du.low (d : Du w0 wr h K S B A1 cap1 T v j) (hb : Below wr.heap.size wr w') : Du w0 w' h K S B A1 cap1 T v j := d.deed (d.sh.low hb) d.sim (Ch.bel hb)
theorem Du.grown (d : Du w0 wr h K S B A1 cap1 T v j) {v' : Value} (ho : w'.ownsRow B 37 1 v' (j + 1) (exU S (j + 1))) (g : wr.grownBy w' v.ownBlock) (hn : NoSR w' 37 v') : Du w0 w' h K S B A1 cap1 T v' (j + 1) := by
  have hl := fun k hk => (d.own.lt k hk).1
  refine ⟨sh_grown2 d.sh d.own d.hb d.no g, d.sim, ho, hn, ?_, d.lo.grown g d.lo.size (fun k hk => by have := hl k hk; have := d.b0; omega), d.kx, d.hb, d.b0, Nat.le_trans d.bw g.size, d.ka⟩
  have hc : Ch (fun i => B ≤ i) wr w' := ⟨g.os, g.tape, g.output, g.size, fun i hi hx => g.block i hi (fun e => hx (hl i e.symm))⟩
  exact d.ks.ch hc (fun b off e hne hX => by have := (d.ka b off e).2 hne; omega)
theorem Du.key (d : Du w0 wr h K S B A1 cap1 T v j) (i : Nat) (hi : i < (allC S.P.c S.P.c.length).length) : ∃ b off, A1 = some ⟨b, off, Option.none⟩ ∧ b < wr.heap.size ∧
    wr.cell? ⟨b, off + i * 3, Option.none⟩ = some (.string (qAt S.P.c (allC S.P.c S.P.c.length)[i]).n) ∧ wr.cell? ⟨b, off + i * 3 + 1, Option.none⟩ = some (.int .u16 ((qAt S.P.c (allC S.P.c S.P.c.length)[i]).k : Nat)) ∧ wr.cell? ⟨b, off + i * 3 + 2, Option.none⟩ = some (.int .u16 ((qAt S.P.c (allC S.P.c S.P.c.length)[i]).c : Nat)) := by
  have hk : (keysOf S.P.c).length = (allC S.P.c S.P.c.length).length := by rw [keys_all, List.length_map]
  obtain ⟨b, off, h1, h2, h3⟩ := d.ks.ask3 i (by omega)
  have e : (keysOf S.P.c)[i]'(by omega) = qAt S.P.c (allC S.P.c S.P.c.length)[i] := by simp only [keys_all, List.getElem_map]
  rw [e] at h3
  exact ⟨b, off, h1, h2, h3⟩
end
theorem exU_snoc (S : Sd) (j : Nat) (hj : j < (allC S.P.c S.P.c.length).length) : exU S j ++ [.int .u64 (exA S.P.c (allC S.P.c S.P.c.length)[j] : Nat)] = exU S (j + 1) := by
  unfold exU
  rw [List.take_add_one, List.getElem?_eq_getElem hj, List.map_append]
  rfl

def cN (S : Sd) (now i : Nat) : Nat := (((allC S.P.c S.P.c.length).take i).filter fun k => decide (exA S.P.c k ≤ now)).length
theorem cN_succ (S : Sd) (now i : Nat) (hi : i < (allC S.P.c S.P.c.length).length) : cN S now (i + 1) = (if decide (exA S.P.c (allC S.P.c S.P.c.length)[i] ≤ now) = true then cN S now i + 1 else cN S now i) ∧ cN S now i ≤ i := by
  unfold cN
  refine ⟨?_, Nat.le_trans (List.length_filter_le _ _) (by rw [List.length_take]; omega)⟩
  rw [List.take_add_one, List.getElem?_eq_getElem hi, List.filter_append, List.length_append]
  simp only [Option.toList, List.filter_cons, List.filter_nil]
  split <;> simp
theorem key_at {S : Sd} {w : World} {A1 : Option Addr} {cap1 : Nat} (ks : Sl qf w A1 cap1 (keysOf S.P.c)) (i : Nat) (hi : i < (allC S.P.c S.P.c.length).length) : ∃ b off, A1 = some ⟨b, off, Option.none⟩ ∧ b < w.heap.size ∧
    w.cell? ⟨b, off + i * 3, Option.none⟩ = some (.string (qAt S.P.c (allC S.P.c S.P.c.length)[i]).n) ∧ w.cell? ⟨b, off + i * 3 + 1, Option.none⟩ = some (.int .u16 ((qAt S.P.c (allC S.P.c S.P.c.length)[i]).k : Nat)) ∧ w.cell? ⟨b, off + i * 3 + 2, Option.none⟩ = some (.int .u16 ((qAt S.P.c (allC S.P.c S.P.c.length)[i]).c : Nat)) := by
  have hk : (keysOf S.P.c).length = (allC S.P.c S.P.c.length).length := by rw [keys_all, List.length_map]
  obtain ⟨b, off, h1, h2, h3⟩ := ks.ask3 i (by omega)
  have e : (keysOf S.P.c)[i]'(by omega) = qAt S.P.c (allC S.P.c S.P.c.length)[i] := by simp only [keys_all, List.getElem_map]
  rw [e] at h3
  exact ⟨b, off, h1, h2, h3⟩
theorem due_cell {S : Sd} {w : World} {B g n c : Nat} (ho : w.ownsRow B 37 1 (.slice (some ⟨g, 0, none⟩) n c) n (exU S n)) (i : Nat) (hi : i < n) (hia : i < (allC S.P.c S.P.c.length).length) : w.cell? ⟨g, i, none⟩ = some (.int .u64 (exA S.P.c (allC S.P.c S.P.c.length)[i] : Nat)) := by
  rw [ho.cellAt i (by omega)]
  unfold exU
  rw [List.getElem?_map, List.getElem?_take_of_lt hi, List.getElem?_eq_getElem hia]
  rfl

set_option maxRecDepth 100000 in
set_option maxHeartbeats 8000000 in
theorem due_any (A : Option Addr) (cap : Nat) (l : List Dd) (now : Nat) (w : World) (hL : Sl df w A cap l) (hA : ∀ D ∈ l, ArgD w D) : Calls Try.prog 7 #[.slice A l.length cap, .int .u64 (now : Nat)] w fun e w' => e = .returned (.bool true) ∧ Below w.heap.size w w' := by
  obtain ⟨i0, hi, hz0, hz1, hz2⟩ := el_of elU
  have HSH := Lib.hid (shown_any w)
  have HR := Lib.hid (fun W (hW : Below w.heap.size w W) => ran_any A cap l W (hL.below' hW) (fun D hD => argd_low (hA D hD) hW))
  clear hL hA
  go_enter Try.func7, Try.ntmps7
  go_upto_region 3 with (first | (go_at_call 9; with_reducible (refine HSH.out.mono ?_); rintro e w1 ⟨rfl, hb1⟩; have HB1 := Lib.hid hb1; clear hb1) | (go_at_call 18; with_reducible (refine (HR.out _ HB1.out).mono ?_); rintro e w2 ⟨h, K, rfl, hs2, hb2, hk2⟩; have HS2 := Lib.hid (And.intro hs2 (And.intro (HB1.out.trans (hb2.mono HB1.out.size)) (fun i hi => Nat.le_trans HB1.out.size (hk2 i hi)))); clear hs2 hb2 hk2))
  clear HR HSH HB1
  have HKY := Lib.hid (keys_s HS2.out.1)
  generalize runS 4 (l.take 200) = S at *
  have hok := HS2.out.1.ok
  have hal : (keysOf S.P.c).length = (allC S.P.c S.P.c.length).length := by rw [keys_all, List.length_map]
  have hle := keys_le hok
  have HOK := Lib.hid hok
  clear hok
  go_upto_region 5 with ((go_at_call 14; with_reducible (refine HKY.out.mono ?_); rintro e w3 ⟨A1, cap1, rfl, sl3, nw3, hb3⟩; have HD3 := Lib.hid (And.intro sl3 (And.intro nw3 hb3)); clear sl3 nw3 hb3))
  have hs2 := sh_lt HS2.out.1
  have HD := Lib.hid (show Du w w3 h K S w3.heap.size A1 cap1 S (.slice none 0 0) 0 from ⟨HS2.out.1.low HD3.out.2.2, Sim.refl HOK.out, World.ownsRow_nil _ _ _ _, (fun g hg => by cases hg), HD3.out.1, HS2.out.2.1.trans (HD3.out.2.2.mono HS2.out.2.1.size), HS2.out.2.2, Nat.lt_of_lt_of_le hs2.1 HD3.out.2.2.size, Nat.le_trans HS2.out.2.1.size HD3.out.2.2.size, Nat.le_refl _, fun b off e => ⟨Nat.lt_of_lt_of_le hs2.1 (HD3.out.2.1 b off e), fun hne => by rcases HD3.out.1.has with h1 | ⟨b', off', h1, h2, _⟩; (· exact absurd h1 hne); (· rw [h1] at e; cases e; exact h2)⟩⟩)
  clear hs2 HD3 HKY HS2
  generalize w3.heap.size = B at *
  generalize hn : (keysOf S.P.c).length = n at *
  have HNN := Lib.hid hn
  clear hn
  go_wp2_with fail
  go_loopw [8, 9] (fun v x wr => ∃ (j : Nat) (T : Sd), j ≤ n ∧ x = .int .i64 j ∧ Du w wr h K S B A1 cap1 T v j) (fun _ x _ => n - (intOf x).toNat)
  case atStart => exact ⟨0, S, Nat.zero_le _, rfl, HD.out⟩
  case round =>
    clear HD
    obtain ⟨j, T, hj, rfl, hD⟩ := hrel
    obtain ⟨Av, cv, rfl⟩ := ownR_form hD.own
    by_cases hlt : j < n
    · have d1 : decide ((j : Int) < (n : Nat)) = true := by simp; omega
      have hja : j < (allC S.P.c S.P.c.length).length := by omega
      have s0 : (0 : Int) ≤ (j : Nat) := by omega
      have s1 : (j : Int) < (n : Nat) := by omega
      obtain ⟨kb, ko, rfl, _, c0, c1, c2⟩ := hD.key j hja
      obtain ⟨hk, hu⟩ := mem_allC.1 (List.getElem_mem hja)
      have hex := hD.sim.key HOK.out hk hu
      have hsn := exU_snoc S j hja
      have hfq : (qAt S.P.c (allC S.P.c S.P.c.length)[j]).Fine := by
        have h1 := sh_fine hD.sh (allC S.P.c S.P.c.length)[j]
        rw [hD.sim.al.qAt] at h1
        exact h1
      have HLK := Lib.hid (look_0 hD.sh _ hfq)
      have HSM := Lib.hid (hD.sim.look (qAt S.P.c (allC S.P.c S.P.c.length)[j]) 0)
      generalize (allC S.P.c S.P.c.length)[j] = k at *
      generalize qAt S.P.c k = q at *
      have HX := Lib.hid (And.intro hex hsn)
      have HDu := Lib.hid hD
      clear hex hsn hk hu hfq hD
      go_upto_region 9 with (first | (refine wpList_store_row rfl 39 _ _ rfl (w4.heap.size) (evL ⟨(lookS T q 0).2.1, A4, cap4⟩).toArray rfl rfl 39 _ HN4.out.1 (infoEa _) rfl (evL_one _) ?_) | (go_at_call 22; with_reducible (refine (HLK.out).mono ?_); rintro e w4 ⟨A4, cap4, rfl, sl4, nw4, s4, hc4⟩; have HD4 := Lib.hid (HDu.out.deed s4 HSM.out hc4); have HN4 := Lib.hid (new_en w4 (evL ⟨(lookS T q 0).2.1, A4, cap4⟩).toArray); clear sl4 nw4 s4 hc4))
      obtain ⟨_, k5, b5⟩ := HN4.out
      have HD5 := Lib.hid (HD4.out.low b5)
      have r6 := (e_cells (x := ⟨(lookS T q 0).2.1, A4, cap4⟩) k5).2.2.2.2.2.2
      simp only at r6
      rw [HX.out.1] at r6
      have HK5 := Lib.hid k5
      clear k5 b5 HN4 HD4 c0 c1 c2 HLK
      generalize (w4.alloc (Obj.cells #[.string ⟨#[]⟩, .int .u16 0, .int .u16 0, .slice none 0 0, .int .i64 0, .int .i64 0, .int .u64 0] 39)).setRow w4.heap.size (evL ⟨(lookS T q 0).2.1, A4, cap4⟩).toArray = w5 at *
      generalize w4.heap.size = r4 at *
      have HD6 := Lib.hid (HD5.out.low ((Below.refl w5.heap.size w5).alloc (Nat.le_refl _) (Obj.cells #[.int .u64 (exA S.P.c k : Nat)] 37)))
      have HXX := Lib.hid HX.out.2
      clear HX
      generalize exA S.P.c k = ex at *
      go_wp2_with (at_builtin; refine wpList_append_nos rfl _ _ 61 rfl B 37 i0 (.int .u64 0) 8 Try.underlying61 hi hz0 hz1 hz2 rfl (fun n hn => by cases hn) _ j _ rfl HD6.out.own HD6.out.no ⟨w5.heap.size, 0, none⟩ 1 (.int .u64 (ex : Nat)) rfl (newV w5 37 _) rfl (fun n hn => by cases hn) ?q1 ?q2 HD6.out.bw ?_)
      case q1 => unfold maxLen; omega
      case q2 => omega
      intro v' w7 hown hgr hno
      rw [HXX.out] at hown
      have HD7 := Lib.hid (HD6.out.grown hown hgr hno)
      clear hown hgr hno r6
      go_wp2_with fail
      go_roundw
      case rel => exact ⟨j + 1, _, hlt, by go_num, HD7.out⟩
      case measure => simp [intOf]; omega
    · obtain rfl : j = n := by omega
      have d1 : decide ((j : Int) < (j : Nat)) = false := by simp
      have hadv := adv_any hD.sh now
      rw [hD.sim.gone now] at hadv
      have hleft := hD.sim.left now
      rw [hD.sim.keys, HNN.out] at hleft
      have hag := hD.sim.again now
      have HAD := Lib.hid hadv
      have hgl : (goneQ S.P.c (W.dueL S.l now)).length = (W.dueL S.l now).length := goneQ_len _ _
      rw [← hgl] at hleft
      have hcn : ((allC S.P.c S.P.c.length).filter fun k => decide (exA S.P.c k ≤ now)).length = (goneQ S.P.c (W.dueL S.l now)).length := (due_len HOK.out.ti now).trans hgl.symm
      have HMG := Lib.hid (fun k hk hu => mem_gone (now := now) (k := k) HOK.out.ti HOK.out.uq hk hu)
      have HG := Lib.hid (And.intro hleft (And.intro hag hcn))
      clear hadv hleft hag hcn hgl
      generalize goneQ S.P.c (W.dueL S.l now) = gl at *
      generalize advS T now = Z at *
      have HDu := Lib.hid hD
      have hn64 : j ≤ 1000 := hle
      have hgl1 : gl.length ≤ 1000 := by have := HG.out.1; omega
      clear hD
      go_upto_region 11 with (go_at_call 24; with_reducible (refine (HAD.out).mono ?_); rintro e w5 ⟨Ag, capg, rfl, sl5, nw5, s5, hc5⟩; have HA5 := Lib.hid (And.intro sl5 (And.intro s5 hc5)); clear sl5 nw5 s5 hc5)
      have hx := (sh_lt HDu.out.sh).2
      have hhb := HDu.out.hb
      have own5 := ownR_ch HDu.out.own HA5.out.2.2 (fun i hi => by have := hx i hi; omega)
      have ks5 := HDu.out.ks.ch HA5.out.2.2 (fun b off e _ hX => by have := (HDu.out.ka b off e).1; have := hx b hX; omega)
      have lo5 : Below w.heap.size w w5 := HDu.out.lo.trans (HA5.out.2.2.isBelow HDu.out.kx HDu.out.lo.size)
      have HO5 := Lib.hid own5
      have HK5 := Lib.hid ks5
      have HL5 := Lib.hid lo5
      have HS5 := Lib.hid HA5.out.2.1
      have HQ5 := Lib.hid HA5.out.1
      have HKX := Lib.hid HDu.out.kx
      clear own5 ks5 lo5 HA5 HAD HDu hx hhb
      go_wp2_with fail
      go_loopw [13, 14] (fun cv x wr => ∃ i : Nat, i ≤ j ∧ x = .int .i64 i ∧ cv = .int .i64 (cN S now i) ∧ Below w5.heap.size w5 wr) (fun _ x _ => j - (intOf x).toNat)
      case atStart => exact ⟨0, Nat.zero_le _, rfl, rfl, Below.refl _ _⟩
      case round =>
        obtain ⟨i, hij, rfl, rfl, hbi⟩ := hrel
        by_cases hlt2 : i < j
        · have d1 : decide ((i : Int) < (j : Nat)) = true := by simp; omega
          have s0 : (0 : Int) ≤ (i : Nat) := by omega
          have s1 : (i : Int) < (j : Nat) := by omega
          have hia : i < (allC S.P.c S.P.c.length).length := by omega
          obtain ⟨g, rfl, hg⟩ := own_block HO5.out (by omega)
          obtain ⟨kb, ko, rfl, hkb, c0, c1, c2⟩ := key_at HK5.out i hia
          have u0 := due_cell HO5.out i hlt2 hia
          obtain ⟨hk, hu⟩ := mem_allC.1 (List.getElem_mem hia)
          have hm := HMG.out (allC S.P.c S.P.c.length)[i] hk hu
          have hcs := cN_succ S now i hia
          generalize (allC S.P.c S.P.c.length)[i] = k at *
          generalize exA S.P.c k = ex at *
          generalize qAt S.P.c k = q at *
          have HCE := Lib.hid (fun (Wx : World) (hW : Below w5.heap.size w5 Wx) => And.intro ((hW.cell (p := ⟨kb, ko + i * 3, none⟩) hkb).trans c0) (And.intro ((hW.cell (p := ⟨kb, ko + i * 3 + 1, none⟩) hkb).trans c1) (And.intro ((hW.cell (p := ⟨kb, ko + i * 3 + 2, none⟩) hkb).trans c2) ((hW.cell (p := ⟨g, i, none⟩) (cell_size u0)).trans u0))))
          have HHS := Lib.hid (fun (Wx : World) (hW : Below w5.heap.size w5 Wx) => has_q Ag capg gl hgl1 q Wx (HQ5.out.below' hW))
          have hbd := hbi.drew
          have HBc := Lib.hid hbd
          clear c0 c1 c2 u0 hk hu hbd hbi hg
          by_cases hp : ex ≤ now
          · have he : decide (q ∈ gl) = true := decide_eq_true (hm.2 hp)
            simp only [he] at HHS
            rw [decide_eq_true hp] at hcs
            have HC := Lib.hid hcs
            clear hm he hcs
            go_upto_region 15 with (fail)
            go_region_held3 (fun w' => w'.cell? ⟨kb, ko + i * 3, none⟩ = some (.string q.n) ∧ w'.cell? ⟨kb, ko + i * 3 + 1, none⟩ = some (.int .u16 (q.k : Nat)) ∧ w'.cell? ⟨kb, ko + i * 3 + 2, none⟩ = some (.int .u16 (q.c : Nat)) ∧ w'.cell? ⟨g, i, none⟩ = some (.int .u64 (ex : Nat))) (exact HCE.out _ HBc.out) (first
              | (go_at_call 20; (with_reducible (refine (HHS.out _ HBc.out).mono ?_)); rintro e w8 ⟨rfl, hb8⟩; have HB2 := Lib.hid (HBc.out.trans (hb8.mono HBc.out.size)); clear HBc hb8; have HBc := Lib.hid HB2.out; clear HB2))
            obtain ⟨c0, c1, c2, u0⟩ := HCE.out _ HBc.out
            generalize cN S now i = ci at *
            have hci : ci ≤ 1000 := by have := HC.out.2; omega
            go_wp2_with fail
            go_roundw
            case rel => exact ⟨i + 1, hlt2, by go_num, by rw [HC.out.1]; first | rfl | go_num, HBc.out⟩
            case measure => simp [intOf]; omega
          · have he : decide (q ∈ gl) = false := decide_eq_false (fun h => hp (hm.1 h))
            simp only [he] at HHS
            rw [decide_eq_false hp] at hcs
            have HC := Lib.hid hcs
            clear hm he hcs
            go_upto_region 15 with (fail)
            go_region_held3 (fun w' => w'.cell? ⟨kb, ko + i * 3, none⟩ = some (.string q.n) ∧ w'.cell? ⟨kb, ko + i * 3 + 1, none⟩ = some (.int .u16 (q.k : Nat)) ∧ w'.cell? ⟨kb, ko + i * 3 + 2, none⟩ = some (.int .u16 (q.c : Nat)) ∧ w'.cell? ⟨g, i, none⟩ = some (.int .u64 (ex : Nat))) (exact HCE.out _ HBc.out) (first
              | (go_at_call 20; (with_reducible (refine (HHS.out _ HBc.out).mono ?_)); rintro e w8 ⟨rfl, hb8⟩; have HB2 := Lib.hid (HBc.out.trans (hb8.mono HBc.out.size)); clear HBc hb8; have HBc := Lib.hid HB2.out; clear HB2))
            obtain ⟨c0, c1, c2, u0⟩ := HCE.out _ HBc.out
            generalize cN S now i = ci at *
            go_wp2_with fail
            go_roundw
            case rel => exact ⟨i + 1, hlt2, by go_num, by rw [HC.out.1]; simp, HBc.out⟩
            case measure => simp [intOf]; omega
        · obtain rfl : i = j := by omega
          have d1 : decide ((i : Int) < (i : Nat)) = false := by simp
          obtain ⟨hl1, hl2, hl3⟩ := HG.out
          have hcn : cN S now i = gl.length := by
            unfold cN
            rw [List.take_of_length_le (by omega)]
            exact hl3
          rw [hcn]
          have HLE := Lib.hid (len_s (HS5.out.low hbi))
          generalize (keysOf Z.1.P.c).length = lf at *
          generalize gl.length = gn at *
          have hw : ((i : Int) - (gn : Nat)) = (lf : Nat) := by omega
          have HFL := Lib.hid (fun Wx (hW : Sh Wx h K Z.1) => adv_any hW now)
          simp only [hl2, List.length_nil] at HFL
          have HB9 := Lib.hid (And.intro (HL5.out.trans (hbi.mono HL5.out.size)) (And.intro (HS5.out.low hbi) (And.intro HKX.out HL5.out.size)))
          clear hl1 hl2 hl3 hcn hbi HG
          go_wp2_with (first | (go_at_call 16; with_reducible (refine (HLE.out).mono ?_); rintro e w9 ⟨rfl, hb9⟩; have HBA := Lib.hid (And.intro (HB9.out.1.trans (hb9.mono HB9.out.1.size)) (HB9.out.2.1.low hb9)); clear hb9) | (go_at_call 24; with_reducible (refine ((HFL.out _ HBA.out.2)).mono ?_); rintro e w10 ⟨Az, capz, rfl, slz, nwz, sz, hcz⟩; have HZ := Lib.hid (HBA.out.1.trans (hcz.isBelow HKX.out HBA.out.1.size)); clear slz nwz sz hcz))
          go_ret
          exact ⟨rfl, HZ.out⟩
end Go.Proofs.Ytjjanogfcfapcaa.D
