/- The walk of derricklaw04.RdataBack: what was put is taken, at its place, with names that were added ahead, too. -/
import Derived.Test.YtccmppnindkgfaaDoorLve
import Derived.Test.YtccmppnindkgfaaDoorLim
import Derived.Test.YtccmppnindkgfaaDoorLwn
import Derived.Test.YtccmppnindkgfaaDoorLfe
import Derived.Test.YtccmppnindkgfaaDoorWbl
import Derived.Deep.RegionHeld
import Derived.Deep.DeepCutAuto
import Derived.Deep.RegionHeldLaw
namespace Go.Proofs.YtccmppnindkgfaaDoor
open Go.RowKit
set_option linter.unusedVariables false

theorem pt_app {S : List UInt8} {L : Kn} (hG : Good S L) (k : Nat) (d : ByteArray) : ∃ X, (ptS S L k d).1 = S ++ X ∧ X.length ≤ d.size := by
  rw [put_eq]
  split
  · rename_i hm
    exact (putD_good hG hm).1
  · exact ⟨[], by simp, by simp⟩
theorem rput_q (B b : Nat) (S : List UInt8) (L : Kn) (k : Nat) (d : ByteArray) (hd : d.size ≤ 1048576) (hS : S.length ≤ 1073741824) (hk : k < 65536) (w W : World) (hL : Lay w) (h : St B b S L w) (hB : B ≤ w.heap.size) (hW : W = w.drew) :
    Calls Tryd.prog 16 #[.pointer (some ⟨b, 0, none⟩), .int .u16 (k : Nat), .string d] W fun en w' => en = .returned (.int .i64 (ptE k d)) ∧ St B b (ptS S L k d).1 (ptS S L k d).2 w' ∧ Below B w w' ∧ Kp w w' := by
  subst hW
  refine (rput_any B b S L k d hd hS hk w.drew hL ⟨h.is, h.kn, h.good⟩ hB).mono ?_
  rintro e w' ⟨h1, h2, h3, h4⟩
  exact ⟨h1, h2, ⟨h3.os, h3.tape, h3.output, h3.size, h3.block⟩, h4⟩
/-- What was put is there to be taken. -/
def TookD (S : List UInt8) (l : List (Nat × ByteArray)) (ats mans : List Nat) : Prop :=
  ∀ j (h : j < l.length) (h1 : j < ats.length) (h2 : j < mans.length), ats[j] + mans[j] ≤ S.length ∧ l[j].2.size ≤ 700 ∧ (mayD l[j].1 l[j].2 = true → ∀ (s : ByteArray) (Y : List UInt8), s.data.toList = S ++ Y → takeD s ats[j] mans[j] l[j].1 = some l[j].2.data.toList)
theorem TookD.more {S : List UInt8} {L : Kn} {l : List (Nat × ByteArray)} {ats mans : List Nat} (h : TookD S l ats mans) (hG : Good S L) (hl : ats.length = mans.length) (hlt : ats.length < l.length) (h7 : l[ats.length].2.size ≤ 700) :
    TookD (ptS S L l[ats.length].1 l[ats.length].2).1 l (ats ++ [S.length]) (mans ++ [(ptS S L l[ats.length].1 l[ats.length].2).1.length - S.length]) := by
  obtain ⟨X, hX, _⟩ := pt_app hG l[ats.length].1 l[ats.length].2
  intro j hj h1 h2
  by_cases hlt2 : j < ats.length
  · rw [List.getElem_append_left hlt2, List.getElem_append_left (by omega)]
    obtain ⟨g1, g3, g2⟩ := h j hj hlt2 (by omega)
    refine ⟨by rw [hX, List.length_append]; omega, g3, fun hm s Y hs => g2 hm s (X ++ Y) (by rw [hs, hX, List.append_assoc])⟩
  · have : j = ats.length := by simp at h1; omega
    subst this
    rw [List.getElem_concat_length rfl, List.getElem_concat_length (by omega)]
    refine ⟨by rw [hX, List.length_append]; omega, h7, fun hm s Y hs => ?_⟩
    have he : ptS S L l[ats.length].1 l[ats.length].2 = putD S L l[ats.length].1 l[ats.length].2 := by rw [put_eq, if_pos hm]
    rw [he] at hs ⊢
    exact takeD_put hG hm Y hs

theorem Bk.drew {B b : Nat} {S : List UInt8} {L : Kn} {v u : Value} {ats ends : List Nat} {w : World} (h : Bk B b S L v u ats ends w) : Bk B b S L v u ats ends w.drew := ⟨⟨h.st.is, h.st.kn, h.st.good⟩, h.a, h.e, h.apart⟩
theorem len_s (B b : Nat) (S : List UInt8) (L : Kn) (w : World) (h : IsP B b S L w) :
    Calls Tryd.prog 21 #[.pointer (some ⟨b, 0, none⟩)] w fun e w' => e = .returned (.int .i64 (S.length : Nat)) ∧ w' = w := (len_any B b S L w h).mono fun _ _ ⟨h1, h2⟩ => ⟨h1, h2.symm⟩

theorem step_append49 {ops : Array Oper} {o : Oper} {a : Act} {w : World} {K : Act → World → Prop} {Q : Exit → Act → World → Prop} {E : Prop} (hgd : o.guard = none) (s x : Operand)
    (ho : o.op = .call { callee := .builtin .append, args := #[s, x], argTypes := #[49, 49] }) (vs vx : Value) (hs : a.eval s = vs) (hx : a.eval x = vx) (R : Value → World → Prop)
    (hrun : ∃ v' w', (Builtin.append_ #[49, 49] o.type #[vs, vx]).run Tryd.prog w = .ok v' w' ∧ R v' w') (h : ∀ v' w', R v' w' → K (a.put o.dst v') w') :
    if Region.wanted o (yielded ops a.tmps) = true then Oper.wp Tryd.prog o a w K Q else E := by
  have hw : Region.wanted o (yielded ops a.tmps) = true := by simp [Region.wanted, hgd]
  rw [if_pos hw]
  obtain ⟨v', w', hr, hR⟩ := hrun
  unfold Oper.wp
  simp only [execOp, ho, resolve, invoke, builtin, Sem.run_bind, Sem.run_pure, Result.andThen_ok, List.map_toArray, List.map_cons, List.map_nil, hs, hx, hr]
  exact h v' w' hR
theorem ints_cell {B g n cap : Nat} {xs : List Nat} {w : World} (h : Ints B (.slice (some ⟨g, 0, none⟩) n cap) xs w) (j : Nat) {x : Nat} (hj : j < xs.length) (hx : xs[j] = x) : w.cell? ⟨g, j, none⟩ = some (.int .i64 (x : Nat)) := by
  obtain ⟨g', he, _, hc⟩ := h.at j hj
  cases he
  rw [hc, hx]
/-- The cells that rdata.Take's arguments are read from. -/
def Hd3 (ga ge ab o1 o2 o3 aj mj kd : Nat) (w' : World) : Prop :=
  w'.cell? ⟨ga, o1, none⟩ = some (.int .i64 (aj : Nat)) ∧ w'.cell? ⟨ge, o2, none⟩ = some (.int .i64 (mj : Nat)) ∧ w'.cell? ⟨ab, o3, none⟩ = some (.int .u16 (kd : Nat))
theorem Hd3.below {ga ge ab o1 o2 o3 aj mj kd : Nat} {w w' : World} (h : Hd3 ga ge ab o1 o2 o3 aj mj kd w) (hb : Below w.heap.size w w') : Hd3 ga ge ab o1 o2 o3 aj mj kd w' := by
  obtain ⟨h1, h2, h3⟩ := h
  have q1 := World.block_lt_of_cell? w _ h1
  have q2 := World.block_lt_of_cell? w _ h2
  have q3 := World.block_lt_of_cell? w _ h3
  exact ⟨(hb.cell q1).trans h1, (hb.cell q2).trans h2, (hb.cell q3).trans h3⟩
/-- What stands behind 'many = append(many, ..)'. -/
structure Apd (B : Nat) (mans : List Nat) (m : Nat) (v : Value) (W : World) (v' : Value) (w' : World) : Prop where
  own : w'.ownsRow B 3 1 v' (mans.length + 1) (ints mans ++ [.int .i64 (m : Nat)])
  grow : W.grownBy w' v.ownBlock
  loc : v'.ownBlock = v.ownBlock ∨ v'.ownBlock = some W.heap.size
theorem append49 (B : Nat) (mans : List Nat) (m : Nat) (z : Int) (hz : z = (m : Nat)) (v : Value) (w : World) (h : Ints B v mans w) (hB : B ≤ w.heap.size) (hl : mans.length ≤ 1000) (ty : TypeId) :
    ∃ v' w', (Builtin.append_ #[49, 49] ty #[v, .slice (some ⟨w.heap.size, 0, none⟩) 1 1]).run Tryd.prog (w.alloc (.cells #[.int .i64 z] 3)).drew = .ok v' w' ∧ Apd B mans m v (w.alloc (.cells #[.int .i64 z] 3)) v' w' := by
  subst hz
  obtain ⟨i0, hi, hz0, hz1, hz2⟩ := info_parts info3
  obtain ⟨v', w', h1, h2, h3, _, h5⟩ := run_append_own_at (P := Tryd.prog) (w.alloc (.cells #[.int .i64 (m : Nat)] 3)).drew B 49 ty 3 i0 (.int .i64 0) 1 8 Tryd.underlying49 hi hz0 hz1 hz2 rfl (by decide) v mans.length (ints mans) (World.ownsRow.alloc h _) ⟨w.heap.size, 0, none⟩ 1 1 [.int .i64 (m : Nat)] rfl (cell_one_new w _ _) (by simp [Value.oneCell']) (by unfold maxLen; omega) (by omega) (by simp; omega)
  exact ⟨v', w', h1, ⟨h2, ⟨h3.os, h3.tape, h3.output, h3.size, h3.block⟩, h5⟩⟩

set_option maxRecDepth 100000 in
set_option maxHeartbeats 4000000 in
theorem back_walk (A : Option Addr) (cap : Nat) (ls : List ByteArray) (A2 : Option Addr) (cap2 : Nat) (l : List (Nat × ByteArray)) (hls : ls.length ≤ 140737488355328) (hl : l.length ≤ 9223372036854775807) (hsz : ∀ p ∈ l, p.1 < 65536 ∧ p.2.size ≤ 9223372036854775807) (w : World) (hS : Strs w A ls) (hI : Items w A2 l) (hL : Lay w) :
    Calls Tryd.prog 5 #[.slice A ls.length cap, .slice A2 l.length cap2] w fun e w' => e = .returned (.bool true) ∧ Below w.heap.size w w' := by
  have HSz := Lib.hid hsz
  have HL := Lib.hid hL
  have H0 := Lib.hid (lay_lt hL)
  have HSt := Lib.hid hS
  clear hsz hL hS
  go_enter Tryd.func5, Tryd.ntmps5
  go_wp2_with fail
  refine (rshown_any _ HL.out).mono ?_
  rintro e w1 ⟨rfl, hb1⟩
  have HB1 := Lib.hid hb1
  have HL1 := Lib.hid (HL.out.below H0.out hb1)
  have H01 := Lib.hid (Nat.lt_of_lt_of_le H0.out hb1.size)
  have HI := Lib.hid (hI.below hb1)
  have HS1 := Lib.hid (HSt.out.below hb1)
  clear hb1 hI
  go_wp2_with fail
  refine (fewT_any A cap ls _ HS1.out hls).mono ?_
  rintro e w2 ⟨rfl, rfl⟩
  cases hf : fewT ls with
  | false =>
    go_wp2_with fail
    go_ret
    exact ⟨rfl, HB1.out⟩
  | true =>
    obtain ⟨hl60, h700⟩ := fewT_yes hf
    have H700 := Lib.hid h700
    clear hf h700
    go_wp2_with fail
    refine (new_any _).mono ?_
    rintro e w4 ⟨rfl, hI4, hb4⟩
    have HSt4 := Lib.hid (St.new hI4)
    have HB4 := Lib.hid hb4
    clear hI4 hb4
    go_wp2_with fail
    go_loopw [7] (fun i wr => ∃ (j : Nat) (S : List UInt8) (L : Kn), j ≤ ls.length ∧ i = .int .i64 j ∧ St w1.heap.size w1.heap.size S L wr ∧ S.length ≤ 255 * j ∧ Below w1.heap.size w1 wr) (fun i _ => ls.length - (intOf i).toNat)
    case atStart => exact ⟨0, [], [], Nat.zero_le _, rfl, HSt4.out, Nat.zero_le _, HB4.out⟩
    case round =>
      clear HSt4 HB4
      obtain ⟨j, S, L, hj, rfl, hst, hlen, hbel⟩ := hrel
      by_cases hlt : j < ls.length
      · obtain ⟨ad, rfl, hadb, hadc⟩ := (HS1.out.below hbel) j hlt
        have h7 := H700.out ls[j] (List.getElem_mem hlt)
        obtain ⟨X, hX1, _, _, hX2⟩ := (stepped hst.good ls[j]).1.app
        have hlen2 : (stp S L ls[j]).1.length ≤ 255 * (j + 1) := by rw [hX1, List.length_append]; omega
        have HLen := Lib.hid hlen2
        have HSt5 := Lib.hid hst
        have HBel := Lib.hid hbel
        clear hlen2 hX1 hX2 hst hbel
        generalize ls[j] = q at *
        go_wp2_with fail
        refine (name_step _ _ S L q _ HSt5.out HBel.out.size (by omega) (by omega)).mono ?_
        rintro e w6 ⟨rfl, hs6, hb6, _⟩
        generalize stE q = E0
        go_wp2_with fail
        go_roundw
        case rel => exact ⟨j + 1, _, _, hlt, by go_num, hs6, HLen.out, HBel.out.trans hb6⟩
        case measure => simp [intOf]; omega
      · have hlen2 : S.length ≤ 15300 := by omega
        have HSt5 := Lib.hid hst
        have HBel := Lib.hid hbel
        clear hlen hst hbel
        go_wp2_with fail
        obtain ⟨i0, hi, hz0, hz1, hz2⟩ := info_parts info3
        go_loopw [8, 9, 10] (fun v u i wr2 => ∃ (k : Nat) (S : List UInt8) (L : Kn) (ats mans : List Nat), k ≤ l.length ∧ k ≤ 20 ∧ i = .int .i64 k ∧ ats.length = k ∧ mans.length = k ∧ Bk w1.heap.size w1.heap.size S L v u ats mans wr2 ∧ S.length ≤ 15300 + 700 * k ∧ TookD S l ats mans ∧ Below w1.heap.size w1 wr2) (fun _ _ i _ => 20 - (intOf i).toNat)
        case atStart => exact ⟨0, S, L, [], [], Nat.zero_le _, Nat.zero_le _, rfl, rfl, rfl, ⟨HSt5.out, World.ownsRow_nil _ _ _ _, World.ownsRow_nil _ _ _ _, .inl rfl⟩, by omega, (fun j _ h1 => by cases h1), HBel.out⟩
        case round =>
          clear HSt5 HBel hlen2 hlt hj
          obtain ⟨k, S, L, ats, mans, hk, hk20, rfl, hla, hlm, hBk, hlen, htook, hbel⟩ := hrel
          subst hla
          have hsz4 := hbel.size
          have HLM := Lib.hid hlm
          have HTook := Lib.hid htook
          have hml : mans.length ≤ 20 := by omega
          clear htook hlm
          obtain ⟨Av, cv, rfl⟩ := own_form hBk.a
          obtain ⟨Au, cu, rfl⟩ := own_form hBk.e
          by_cases hgo : ats.length < l.length ∧ ats.length < 20
          · obtain ⟨hlt, hk2⟩ := hgo
            obtain ⟨ab, ao, rfl, hab, hcl⟩ := HI.out.cells ats.length hlt
            obtain ⟨hkk, _⟩ := HSz.out l[ats.length] (List.getElem_mem hlt)
            have hc0 := (hcl wr hbel).1
            have hc1 := (hcl wr hbel).2
            have HCl := Lib.hid hcl
            have hnew := HTook.out.more hBk.st.good HLM.out.symm hlt
            have hap := pt_app hBk.st.good l[ats.length].1 l[ats.length].2
            generalize l[ats.length] = q at *
            obtain ⟨kd, d⟩ := q
            simp only at hc0 hc1 hkk HCl hnew hap
            have HNew := Lib.hid hnew
            have HAp := Lib.hid hap
            clear hcl hnew hap
            by_cases hbig : d.size ≤ 700
            · have c1 : decide ((700 : Int) < (d.size : Int)) = false := by simp; omega
              have c2 : ¬ 700 < d.size := by omega
              have HBk := Lib.hid hBk
              have HRow := Lib.hid hBk.a
              have HBel := Lib.hid hbel
              clear hBk hbel
              go_wp2_with fail
              refine (len_any _ _ _ _ _ HBk.out.st.is).mono ?_
              rintro e w5 ⟨rfl, rfl⟩
              go_upto_region 17 with (at_builtin; refine wpList_append_own_at _ rfl _ _ 49 rfl w1.heap.size 3 i0 (.int .i64 0) 1 8 Tryd.underlying49 hi hz0 hz1 hz2 rfl (by decide) (.slice Av ats.length cv) _ _ rfl (World.ownsRow.alloc HRow.out _) ⟨wr.heap.size, 0, none⟩ 1 1 [.int .i64 (S.length : Nat)] rfl rfl (cell_one_new _ _ _) (by simp [Value.oneCell']) (by unfold maxLen; omega) (by omega) (by simp; omega) ?_; intro v' w5 hown' hgrow _ hloc; have HBk5 := Lib.hid (HBk.out.addA S.length hown' hgrow hloc); have HBel5 := Lib.hid (grown_below HBel.out hsz4 hgrow HBk.out.a); clear hown' hgrow hloc; obtain ⟨Av5, cv5, rfl⟩ := own_form HBk5.out.a)
              have hb5 := HBk5.out
              rw [show (ats ++ [S.length]).length = ats.length + 1 by simp] at hb5
              obtain ⟨S2, hS2⟩ : ∃ S2, (ptS S L kd d).1 = S2 := ⟨_, rfl⟩
              obtain ⟨L2, hL2⟩ : ∃ L2, (ptS S L kd d).2 = L2 := ⟨_, rfl⟩
              have hput : ∀ W, W = w5.drew → Calls Tryd.prog 16 #[.pointer (some ⟨w1.heap.size, 0, none⟩), .int .u16 (kd : Nat), .string d] W fun en w' => en = .returned (.int .i64 (ptE kd d)) ∧ St w1.heap.size w1.heap.size S2 L2 w' ∧ Below w1.heap.size w5 w' ∧ Kp w5 w' := fun W hW => by
                have h := rput_q w1.heap.size w1.heap.size S L kd d (by omega) (by omega) hkk w5 W (HL1.out.below H01.out HBel5.out) hb5.st HBel5.out.size hW
                rw [hS2, hL2] at h
                exact h
              have hnew := HNew.out hbig
              have hap := HAp.out
              rw [hS2] at hnew hap
              have HNew2 := Lib.hid hnew
              have HPut := Lib.hid hput
              have HB5 := Lib.hid hb5
              have HC5 := Lib.hid (HCl.out w5 HBel5.out)
              obtain ⟨X, hX1, hX2⟩ := hap
              have hS2l : S.length ≤ S2.length ∧ S2.length ≤ S.length + 700 := by rw [hX1, List.length_append]; omega
              obtain ⟨hS2a, hS2b⟩ := hS2l
              clear hX2
              generalize ptE kd d = E0 at *
              clear hput hb5 hnew hS2 hL2 HNew HAp hX1 HBk5 c1 c2 hc0 hc1 HRow
              go_cut [67] (fun q wx => q = .int .i64 E0 ∧ St w1.heap.size w1.heap.size S2 L2 wx ∧ Below w1.heap.size w5 wx ∧ Kp w5 wx)
              case first =>
                have hc0 := HC5.out.1
                have hc1 := HC5.out.2
                go_region_held (fun w' => w'.cell? ⟨ab, ao + ats.length * 2, none⟩ = some (.int .u16 (kd : Nat)) ∧ w'.cell? ⟨ab, ao + ats.length * 2 + 1, none⟩ = some (.string d))
                  (first | exact HC5.out | exact HC6.out)
                  (first | (go_at_call 16; refine (HPut.out _ rfl).mono ?_; rintro e w6 ⟨rfl, h6⟩; have HC6 := Lib.hid (HCl.out w6 (HBel5.out.trans h6.2.1)); have H6 := Lib.hid h6; clear h6))
                all_goals
                  go_wp2_with fail
                  go_meet
                  case rel => exact ⟨rfl, H6.out⟩
              case rest =>
                obtain ⟨rfl, hSt6, hb6, hk6⟩ := hcut
                have hBk6 := HB5.out.turn hSt6 hk6
                have hbel6 := HBel5.out.trans hb6
                have hsz6 := hbel6.size
                have hja : ats.length < (ats ++ [S.length]).length := by simp
                obtain ⟨ga, rfl, hloop, hca⟩ := hBk6.a.at ats.length hja
                clear hloop
                rw [show (ats ++ [S.length])[ats.length] = S.length by simp] at hca
                have HBk6 := Lib.hid hBk6
                have HBel6 := Lib.hid hbel6
                have hcal := fun o => (((Below.refl _ wc).alloc (Nat.le_refl _) o).cell (p := ⟨ga, ats.length, none⟩) (World.block_lt_of_cell? wc _ hca)).trans hca
                have HCal := Lib.hid hcal
                clear hcal
                clear hja
                clear hBk6 hbel6 hSt6 hb6 hk6 HB5 HBel5 HPut HC5
                go_upto_region 18 with (fail)
                have happ := append49 w1.heap.size mans (S2.length - S.length) (IntKind.i64.wrap ((S2.length : Int) - (S.length : Int))) (by rw [IntWalk.i64_in _ (by omega)]; omega) (.slice Au mans.length cu) wc HBk6.out.e HBel6.out.size (by omega) 49
                have HApp := Lib.hid happ
                clear happ
                go_region_held_law (fun w' => w'.cell? ⟨ga, ats.length, none⟩ = some (.int .i64 (S.length : Nat)))
                  (first | exact hca | exact HCal.out _ | exact HC7.out)
                  (first
                  | (go_at_call 21; refine (len_any _ _ _ _ _ HBk6.out.drew.st.is).mono ?_; rintro e w7 ⟨rfl, rfl⟩)
                  | (refine step_append49 rfl (.tmp 68) (.tmp 76) rfl (.slice Au mans.length cu) (.slice (some ⟨wc.heap.size, 0, none⟩) 1 1) rfl rfl (Apd w1.heap.size mans (S2.length - S.length) (.slice Au mans.length cu) (wc.alloc (.cells #[.int .i64 (IntKind.i64.wrap ((S2.length : Int) - (S.length : Int)))] 3))) HApp.out ?_; rintro v' w7 hA; have HBk7 := Lib.hid (HBk6.out.addE (S2.length - S.length) hA.own hA.grow hA.loc); have HBel7 := Lib.hid (grown_below HBel6.out HBel6.out.size hA.grow HBk6.out.e); have HC7 := Lib.hid (ints_cell (x := S.length) HBk7.out.a ats.length (by simp) (by simp)); clear hA))
                all_goals
                  go_wp2_with fail
                  go_roundw
                  case rel => exact ⟨ats.length + 1, S2, L2, ats ++ [S.length], mans ++ [S2.length - S.length], hlt, hk2, by go_num, by simp, by simp [HLM.out], HBk7.out, by omega, HNew2.out, HBel7.out⟩
                  case measure => simp [intOf]; omega
            · have c1 : decide ((700 : Int) < (d.size : Int)) = true := by simp; omega
              have c2 : 700 < d.size := by omega
              have HBf := Lib.hid (bthen HB1.out hbel)
              go_wp2_with fail
              go_ret
              exact ⟨rfl, HBf.out⟩
          · have HBk := Lib.hid hBk
            have HBel := Lib.hid hbel
            have hS3 : S.length ≤ 29300 := by omega
            have HS3 := Lib.hid hS3
            clear hBk hbel hS3 hlen
            have hcond : decide (ats.length < l.length) = false ∨ (decide (ats.length < l.length) = true ∧ decide ((ats.length : Int) < 20) = false ∧ ats.length < l.length) := by
              by_cases h : ats.length < l.length
              · right; refine ⟨by simpa using h, ?_, h⟩; simp; omega
              · left; simpa using h
            have HC := Lib.hid hcond
            clear hcond hgo
            rcases HC.out with g1 | ⟨g1, g2, g3⟩
            all_goals
              go_wp2_with fail
              refine (out_any _ _ _ _ _ HBk.out.st.is).mono ?_
              rintro e w5 ⟨rfl, rfl⟩
              go_wp2_with fail
              clear g1
              try clear g2 g3
              go_loopw [12] (fun i w5 => ∃ j2 : Nat, j2 ≤ ats.length ∧ i = .int .i64 j2 ∧ Ints w1.heap.size (.slice Av ats.length cv) ats w5 ∧ Ints w1.heap.size (.slice Au mans.length cu) mans w5 ∧ Below w1.heap.size w1 w5) (fun i _ => ats.length - (intOf i).toNat)
              case atStart => exact ⟨0, Nat.zero_le _, rfl, HBk.out.a, HBk.out.e, HBel.out⟩
              case round =>
                clear HBk HBel HC
                obtain ⟨j2, hj2, rfl, hIa, hIe, hbel5⟩ := hrel
                by_cases hlt2 : j2 < ats.length
                · have hjl : j2 < l.length := by omega
                  have hjm : j2 < mans.length := by rw [HLM.out]; exact hlt2
                  obtain ⟨ab, ao, rfl, hab, hcl⟩ := HI.out.cells j2 hjl
                  obtain ⟨hkk, _⟩ := HSz.out l[j2] (List.getElem_mem hjl)
                  obtain ⟨htk1, hd7, htk2⟩ := HTook.out j2 hjl hlt2 hjm
                  obtain ⟨ga, hga, hn1, hca⟩ := hIa.at j2 hlt2
                  obtain ⟨ge, hge, hn2, hce⟩ := hIe.at j2 hjm
                  clear hn1 hn2
                  subst hga hge
                  have HCl := Lib.hid hcl
                  have HIa := Lib.hid hIa
                  have HIe := Lib.hid hIe
                  have HB5 := Lib.hid hbel5
                  clear hcl hIa hIe
                  generalize ats[j2] = aj at *
                  generalize mans[j2] = mj at *
                  obtain ⟨q, hq⟩ : ∃ q, l[j2] = q := ⟨_, rfl⟩
                  rw [hq] at htk2 hkk HCl hd7
                  clear hq
                  obtain ⟨kd, d⟩ := q
                  simp only at htk2 hkk HCl hd7
                  have hS3 := HS3.out
                  have haj : (aj : Int) ≤ maxLen := by unfold maxLen; omega
                  have htd : mayD kd d = true → tdS ⟨S.toArray⟩ aj mj kd = d ∧ tdE ⟨S.toArray⟩ aj mj kd = 0 := fun hm => by
                    have h1 := htk2 hm ⟨S.toArray⟩ [] (by simp)
                    have h2 : tdO ⟨S.toArray⟩ aj mj kd = some d.data.toList := by rw [tdO_eq (by omega), if_pos (by rw [mk_size]; exact htk1)]; exact h1
                    obtain ⟨h3, h4⟩ := td_some h2
                    rw [ba_mk] at h3
                    exact ⟨h3, h4⟩
                  have htake : ∀ W, W = wr.drew → Calls Tryd.prog 9 #[.string ⟨S.toArray⟩, .int .i64 (aj : Nat), .int .i64 (mj : Nat), .int .u16 (kd : Nat)] W fun en w' => en = .returned (.tuple #[.string (tdS ⟨S.toArray⟩ aj mj kd), .int .i64 (tdE ⟨S.toArray⟩ aj mj kd)]) ∧ Below wr.heap.size wr w' := fun W hW => by
                    subst hW
                    refine (rtake_any ⟨S.toArray⟩ aj mj kd (by rw [mk_size]; omega) haj hkk wr.drew (HL1.out.below H01.out HB5.out.drew)).mono ?_
                    rintro e w' ⟨h1, h2⟩
                    exact ⟨h1, ⟨h2.os, h2.tape, h2.output, h2.size, h2.block⟩⟩
                  have hc0 := (HCl.out wr hbel5).1
                  have HTd := Lib.hid htd
                  have HTake := Lib.hid htake
                  generalize tdS ⟨S.toArray⟩ aj mj kd = Ts at *
                  generalize tdE ⟨S.toArray⟩ aj mj kd = Te at *
                  generalize (⟨S.toArray⟩ : ByteArray) = Sb at *
                  have hS4 : Hd3 ga ge ab j2 j2 (ao + j2 * 2) aj mj kd wr := ⟨hca, hce, hc0⟩
                  have HS4 := Lib.hid hS4
                  clear htd htake hS4 htk2 htk1 hbel5 HS3 hS3 haj hca hce hc0
                  go_upto_region 23 with (fail)
                  go_cut [13, 14] (fun t q wx => t = .string Ts ∧ q = .int .i64 Te ∧ Below wr.heap.size wr wx)
                  case first =>
                    go_region_held (fun w' => w'.cell? ⟨ga, j2, none⟩ = some (.int .i64 (aj : Nat)) ∧ w'.cell? ⟨ge, j2, none⟩ = some (.int .i64 (mj : Nat)) ∧ w'.cell? ⟨ab, ao + j2 * 2, none⟩ = some (.int .u16 (kd : Nat)))
                      (first | exact HS4.out | exact HS7.out)
                      (first | (go_at_call 9; refine (HTake.out _ rfl).mono ?_; rintro e w7 ⟨rfl, hb7⟩; have HS7 := Lib.hid (HS4.out.below hb7); have HB7 := Lib.hid hb7; clear hb7))
                    all_goals
                      go_wp2_with fail
                      go_meet
                      case rel => exact ⟨rfl, rfl, HB7.out⟩
                  case rest =>
                    obtain ⟨rfl, rfl, hb7⟩ := hcut
                    have hbw := bthen HB5.out hb7
                    have hc8 := HCl.out wc hbw
                    have HC8 := Lib.hid hc8
                    have hmay : ∀ W, W = wc.drew → Calls Tryd.prog 13 #[.int .u16 (kd : Nat), .string d] W fun en w' => en = .returned (.bool (mayD kd d)) ∧ Below wc.heap.size wc w' := fun W hW => by
                      subst hW
                      refine (rmay_any kd d (by omega) hkk wc.drew (HL1.out.below H01.out hbw.drew)).mono ?_
                      rintro e w' ⟨h1, h2⟩
                      rw [may_eq] at h1
                      exact ⟨h1, ⟨h2.os, h2.tape, h2.output, h2.size, h2.block⟩⟩
                    have HMay := Lib.hid hmay
                    have HBw := Lib.hid hbw
                    have HB7 := Lib.hid hb7
                    have hself := self_is d
                    clear hmay hbw hb7 hc8 HS4 HTake
                    have hc0 := HC8.out.1
                    have hc1 := HC8.out.2
                    go_upto_region 24 with (fail)
                    go_cut [127] (fun q wx => q = .bool false ∧ Below wc.heap.size wc wx)
                    case first =>
                      cases hm : mayD kd d with
                      | true =>
                        obtain ⟨h1, h2⟩ := HTd.out hm
                        subst h1 h2
                        rw [hm] at HMay
                        clear hm HTd
                        go_region_held (fun w' => w'.cell? ⟨ab, ao + j2 * 2, none⟩ = some (.int .u16 (kd : Nat)) ∧ w'.cell? ⟨ab, ao + j2 * 2 + 1, none⟩ = some (.string Ts))
                          (first | exact HC8.out | exact HC9.out)
                          (first | (go_at_call 13; refine (HMay.out _ rfl).mono ?_; rintro e w9 ⟨rfl, hb9⟩; have HC9 := Lib.hid (HCl.out w9 (bthen HBw.out hb9)); have HB9 := Lib.hid hb9; clear hb9))
                        all_goals
                          go_wp2_with fail
                          go_meet
                          case rel => exact ⟨rfl, HB9.out⟩
                      | false =>
                        rw [hm] at HMay
                        clear hm HTd
                        refine wp_region_held_drew (S := fun w' => w'.cell? ⟨ab, ao + j2 * 2, none⟩ = some (.int .u16 (kd : Nat)) ∧ w'.cell? ⟨ab, ao + j2 * 2 + 1, none⟩ = some (.string d)) (by kernel_rfl) HC8.out (fun hHeld => ?_)
                        refine wpAnyH_take (i := 0) (v := ?_) rfl (by kernel_rfl) (by kernel_rfl) (by kernel_rfl) (fun _ _ _ h => h) (Or.inl ⟨by rfl, ?_⟩) (by assumption) ?_
                        rotate_left
                        · (intro w hSw; (try dsimp only at hSw); go_simp; try (with_reducible rfl))
                        simp only [Act.put, List.getElem_toArray, List.getElem_cons_zero, List.setIfInBounds_toArray, List.set_cons_zero, List.set_cons_succ]
                        refine wpAnyH_take (i := 1) (v := ?_) rfl (by kernel_rfl) (by kernel_rfl) (by kernel_rfl) (fun _ _ _ h => h) (Or.inl ⟨by rfl, ?_⟩) (by assumption) ?_
                        rotate_left
                        · (intro w hSw; (try dsimp only at hSw); go_simp; try (with_reducible rfl))
                        simp only [Act.put, List.getElem_toArray, List.getElem_cons_zero, List.getElem_cons_succ, List.setIfInBounds_toArray, List.set_cons_zero, List.set_cons_succ]
                        refine wpAnyH_take (i := 5) (v := ?_) rfl (by kernel_rfl) (by kernel_rfl) (by kernel_rfl) (fun _ _ _ h => h) (Or.inl ⟨by rfl, ?_⟩) (by assumption) ?_
                        rotate_left
                        · (intro w hSw; (try dsimp only at hSw); go_simp; try (with_reducible rfl))
                        simp only [Act.put, List.getElem_toArray, List.getElem_cons_zero, List.getElem_cons_succ, List.setIfInBounds_toArray, List.set_cons_zero, List.set_cons_succ]
                        refine wpAnyH_take (i := 6) (v := ?_) rfl (by kernel_rfl) (by kernel_rfl) (by kernel_rfl) (fun _ _ _ h => h) (Or.inl ⟨by rfl, ?_⟩) (by assumption) ?_
                        rotate_left
                        · (intro w hSw; (try dsimp only at hSw); go_simp; try (with_reducible rfl))
                        simp only [Act.put, List.getElem_toArray, List.getElem_cons_zero, List.getElem_cons_succ, List.setIfInBounds_toArray, List.set_cons_zero, List.set_cons_succ]
                        refine wpAnyH_ready (rs := [2, 7]) (by kernel_rfl) (by simp) ?_
                        refine AllReadyH.cons rfl (fun K hK => ?_) (AllReadyH.cons rfl (fun K hK => ?_) AllReadyH.nil)
                        · go_simp
                          refine hK.out _ _ HC8.out (fun hHeld => ?_)
                          clear hK K
                          refine wpAnyH_take (i := 3) (v := ?_) rfl (by kernel_rfl) (by kernel_rfl) (by kernel_rfl) (fun _ _ _ h => h) (Or.inl ⟨by rfl, ?_⟩) (by assumption) ?_
                          rotate_left
                          · (intro w hSw; (try dsimp only at hSw); go_simp; try (with_reducible rfl))
                          simp only [Act.put, List.getElem_toArray, List.getElem_cons_zero, List.getElem_cons_succ, List.setIfInBounds_toArray, List.set_cons_zero, List.set_cons_succ]
                          refine wpAnyH_take (i := 4) (v := ?_) rfl (by kernel_rfl) (by kernel_rfl) (by kernel_rfl) (fun _ _ _ h => h) (Or.inl ⟨by rfl, ?_⟩) (by assumption) ?_
                          rotate_left
                          · (intro w hSw; (try dsimp only at hSw); go_simp; try (with_reducible rfl))
                          simp only [Act.put, List.getElem_toArray, List.getElem_cons_zero, List.getElem_cons_succ, List.setIfInBounds_toArray, List.set_cons_zero, List.set_cons_succ]
                          refine wpAnyH_ready (rs := [7]) (by kernel_rfl) (by simp) ?_
                          refine AllReadyH.cons rfl (fun K hK => ?_) AllReadyH.nil
                          go_simp
                          refine hK.out _ _ HC8.out (fun hHeld => ?_)
                          clear hK K
                          refine wpAnyH_take (i := 8) (v := ?_) rfl (by kernel_rfl) (by kernel_rfl) (by kernel_rfl) (fun _ _ _ h => h) (Or.inl ⟨by rfl, ?_⟩) (by assumption) ?_
                          rotate_left
                          · (intro w hSw; (try dsimp only at hSw); go_simp; try (with_reducible rfl))
                          simp only [Act.put, List.getElem_toArray, List.getElem_cons_zero, List.getElem_cons_succ, List.setIfInBounds_toArray, List.set_cons_zero, List.set_cons_succ]
                          refine wpAnyH_take (i := 9) (v := ?_) rfl (by kernel_rfl) (by kernel_rfl) (by kernel_rfl) (fun _ _ _ h => h) (Or.inl ⟨by rfl, ?_⟩) (by assumption) ?_
                          rotate_left
                          · (intro w hSw; (try dsimp only at hSw); go_simp; try (with_reducible rfl))
                          simp only [Act.put, List.getElem_toArray, List.getElem_cons_zero, List.getElem_cons_succ, List.setIfInBounds_toArray, List.set_cons_zero, List.set_cons_succ]
                          refine wpAnyH_ready (rs := [10]) (by kernel_rfl) (by simp) ?_
                          refine AllReadyH.cons rfl (fun K hK => ?_) AllReadyH.nil
                          go_simp
                          go_wp2_with (go_at_call 13; refine (HMay.out _ rfl).mono ?_; rintro e w9 ⟨rfl, hb9⟩; have HC9 := Lib.hid (HCl.out w9 (bthen HBw.out hb9)); have HB9 := Lib.hid hb9; clear hb9)
                          refine hK.out _ _ HC9.out (fun hHeld => ?_)
                          clear hK K
                          refine wpAnyH_take (i := 11) (v := ?_) rfl (by kernel_rfl) (by kernel_rfl) (by kernel_rfl) (fun _ _ _ h => h) (Or.inl ⟨by rfl, ?_⟩) (by assumption) ?_
                          rotate_left
                          · (intro w hSw; (try dsimp only at hSw); go_simp; try (with_reducible rfl))
                          simp only [Act.put, List.getElem_toArray, List.getElem_cons_zero, List.getElem_cons_succ, List.setIfInBounds_toArray, List.set_cons_zero, List.set_cons_succ]
                          refine wpAnyH_take (i := 12) (v := undef) rfl (by kernel_rfl) (by kernel_rfl) (by kernel_rfl) (fun _ _ _ h => h) (Or.inr ⟨by rfl, rfl⟩) (by assumption) ?_
                          simp only [Act.put, List.getElem_toArray, List.getElem_cons_zero, List.getElem_cons_succ, List.setIfInBounds_toArray, List.set_cons_zero, List.set_cons_succ]
                          refine wpAnyH_take (i := 13) (v := undef) rfl (by kernel_rfl) (by kernel_rfl) (by kernel_rfl) (fun _ _ _ h => h) (Or.inr ⟨by rfl, rfl⟩) (by assumption) ?_
                          simp only [Act.put, List.getElem_toArray, List.getElem_cons_zero, List.getElem_cons_succ, List.setIfInBounds_toArray, List.set_cons_zero, List.set_cons_succ]
                          refine wpAnyH_take (i := 14) (v := undef) rfl (by kernel_rfl) (by kernel_rfl) (by kernel_rfl) (fun _ _ _ h => h) (Or.inr ⟨by rfl, rfl⟩) (by assumption) ?_
                          simp only [Act.put, List.getElem_toArray, List.getElem_cons_zero, List.getElem_cons_succ, List.setIfInBounds_toArray, List.set_cons_zero, List.set_cons_succ]
                          refine wpAnyH_take (i := 15) (v := undef) rfl (by kernel_rfl) (by kernel_rfl) (by kernel_rfl) (fun _ _ _ h => h) (Or.inr ⟨by rfl, rfl⟩) (by assumption) ?_
                          simp only [Act.put, List.getElem_toArray, List.getElem_cons_zero, List.getElem_cons_succ, List.setIfInBounds_toArray, List.set_cons_zero, List.set_cons_succ]
                          refine wpAnyH_take (i := 16) (v := undef) rfl (by kernel_rfl) (by kernel_rfl) (by kernel_rfl) (fun _ _ _ h => h) (Or.inr ⟨by rfl, rfl⟩) (by assumption) ?_
                          simp only [Act.put, List.getElem_toArray, List.getElem_cons_zero, List.getElem_cons_succ, List.setIfInBounds_toArray, List.set_cons_zero, List.set_cons_succ]
                          refine wpAnyH_take (i := 17) (v := undef) rfl (by kernel_rfl) (by kernel_rfl) (by kernel_rfl) (fun _ _ _ h => h) (Or.inr ⟨by rfl, rfl⟩) (by assumption) ?_
                          simp only [Act.put, List.getElem_toArray, List.getElem_cons_zero, List.getElem_cons_succ, List.setIfInBounds_toArray, List.set_cons_zero, List.set_cons_succ]
                          refine wpAnyH_ready (rs := [18]) (by kernel_rfl) (by simp) ?_
                          refine AllReadyH.cons rfl (fun K hK => ?_) AllReadyH.nil
                          go_simp
                          refine hK.out _ _ HC9.out (fun hHeld => ?_)
                          clear hK K
                          refine wpAnyH_take (i := 19) (v := undef) rfl (by kernel_rfl) (by kernel_rfl) (by kernel_rfl) (fun _ _ _ h => h) (Or.inr ⟨by rfl, rfl⟩) (by assumption) ?_
                          simp only [Act.put, List.getElem_toArray, List.getElem_cons_zero, List.getElem_cons_succ, List.setIfInBounds_toArray, List.set_cons_zero, List.set_cons_succ]
                          refine wpAnyH_take (i := 20) (v := undef) rfl (by kernel_rfl) (by kernel_rfl) (by kernel_rfl) (fun _ _ _ h => h) (Or.inr ⟨by rfl, rfl⟩) (by assumption) ?_
                          simp only [Act.put, List.getElem_toArray, List.getElem_cons_zero, List.getElem_cons_succ, List.setIfInBounds_toArray, List.set_cons_zero, List.set_cons_succ]
                          refine wpAnyH_take (i := 21) (v := undef) rfl (by kernel_rfl) (by kernel_rfl) (by kernel_rfl) (fun _ _ _ h => h) (Or.inr ⟨by rfl, rfl⟩) (by assumption) ?_
                          simp only [Act.put, List.getElem_toArray, List.getElem_cons_zero, List.getElem_cons_succ, List.setIfInBounds_toArray, List.set_cons_zero, List.set_cons_succ]
                          refine wpAnyH_take (i := 22) (v := undef) rfl (by kernel_rfl) (by kernel_rfl) (by kernel_rfl) (fun _ _ _ h => h) (Or.inr ⟨by rfl, rfl⟩) (by assumption) ?_
                          simp only [Act.put, List.getElem_toArray, List.getElem_cons_zero, List.getElem_cons_succ, List.setIfInBounds_toArray, List.set_cons_zero, List.set_cons_succ]
                          refine wpAnyH_take (i := 23) (v := ?_) rfl (by kernel_rfl) (by kernel_rfl) (by kernel_rfl) (fun _ _ _ h => h) (Or.inl ⟨by rfl, ?_⟩) (by assumption) ?_
                          rotate_left
                          · (intro w hSw; (try dsimp only at hSw); go_simp; try (with_reducible rfl))
                          simp only [Act.put, List.getElem_toArray, List.getElem_cons_zero, List.getElem_cons_succ, List.setIfInBounds_toArray, List.set_cons_zero, List.set_cons_succ]
                          refine wpAnyH_done (by kernel_rfl) ?_ _
                          go_wp2_with fail
                          go_meet
                          case rel => exact ⟨rfl, HB9.out⟩
                        · go_simp
                          refine hK.out _ _ HC8.out (fun hHeld => ?_)
                          clear hK K
                          refine wpAnyH_take (i := 8) (v := ?_) rfl (by kernel_rfl) (by kernel_rfl) (by kernel_rfl) (fun _ _ _ h => h) (Or.inl ⟨by rfl, ?_⟩) (by assumption) ?_
                          rotate_left
                          · (intro w hSw; (try dsimp only at hSw); go_simp; try (with_reducible rfl))
                          simp only [Act.put, List.getElem_toArray, List.getElem_cons_zero, List.getElem_cons_succ, List.setIfInBounds_toArray, List.set_cons_zero, List.set_cons_succ]
                          refine wpAnyH_take (i := 9) (v := ?_) rfl (by kernel_rfl) (by kernel_rfl) (by kernel_rfl) (fun _ _ _ h => h) (Or.inl ⟨by rfl, ?_⟩) (by assumption) ?_
                          rotate_left
                          · (intro w hSw; (try dsimp only at hSw); go_simp; try (with_reducible rfl))
                          simp only [Act.put, List.getElem_toArray, List.getElem_cons_zero, List.getElem_cons_succ, List.setIfInBounds_toArray, List.set_cons_zero, List.set_cons_succ]
                          refine wpAnyH_ready (rs := [2]) (by kernel_rfl) (by simp) ?_
                          refine AllReadyH.cons rfl (fun K hK => ?_) AllReadyH.nil
                          go_simp
                          refine hK.out _ _ HC8.out (fun hHeld => ?_)
                          clear hK K
                          refine wpAnyH_take (i := 3) (v := ?_) rfl (by kernel_rfl) (by kernel_rfl) (by kernel_rfl) (fun _ _ _ h => h) (Or.inl ⟨by rfl, ?_⟩) (by assumption) ?_
                          rotate_left
                          · (intro w hSw; (try dsimp only at hSw); go_simp; try (with_reducible rfl))
                          simp only [Act.put, List.getElem_toArray, List.getElem_cons_zero, List.getElem_cons_succ, List.setIfInBounds_toArray, List.set_cons_zero, List.set_cons_succ]
                          refine wpAnyH_take (i := 4) (v := ?_) rfl (by kernel_rfl) (by kernel_rfl) (by kernel_rfl) (fun _ _ _ h => h) (Or.inl ⟨by rfl, ?_⟩) (by assumption) ?_
                          rotate_left
                          · (intro w hSw; (try dsimp only at hSw); go_simp; try (with_reducible rfl))
                          simp only [Act.put, List.getElem_toArray, List.getElem_cons_zero, List.getElem_cons_succ, List.setIfInBounds_toArray, List.set_cons_zero, List.set_cons_succ]
                          refine wpAnyH_ready (rs := [10]) (by kernel_rfl) (by simp) ?_
                          refine AllReadyH.cons rfl (fun K hK => ?_) AllReadyH.nil
                          go_simp
                          go_wp2_with (go_at_call 13; refine (HMay.out _ rfl).mono ?_; rintro e w9 ⟨rfl, hb9⟩; have HC9 := Lib.hid (HCl.out w9 (bthen HBw.out hb9)); have HB9 := Lib.hid hb9; clear hb9)
                          refine hK.out _ _ HC9.out (fun hHeld => ?_)
                          clear hK K
                          refine wpAnyH_take (i := 11) (v := ?_) rfl (by kernel_rfl) (by kernel_rfl) (by kernel_rfl) (fun _ _ _ h => h) (Or.inl ⟨by rfl, ?_⟩) (by assumption) ?_
                          rotate_left
                          · (intro w hSw; (try dsimp only at hSw); go_simp; try (with_reducible rfl))
                          simp only [Act.put, List.getElem_toArray, List.getElem_cons_zero, List.getElem_cons_succ, List.setIfInBounds_toArray, List.set_cons_zero, List.set_cons_succ]
                          refine wpAnyH_take (i := 12) (v := undef) rfl (by kernel_rfl) (by kernel_rfl) (by kernel_rfl) (fun _ _ _ h => h) (Or.inr ⟨by rfl, rfl⟩) (by assumption) ?_
                          simp only [Act.put, List.getElem_toArray, List.getElem_cons_zero, List.getElem_cons_succ, List.setIfInBounds_toArray, List.set_cons_zero, List.set_cons_succ]
                          refine wpAnyH_take (i := 13) (v := undef) rfl (by kernel_rfl) (by kernel_rfl) (by kernel_rfl) (fun _ _ _ h => h) (Or.inr ⟨by rfl, rfl⟩) (by assumption) ?_
                          simp only [Act.put, List.getElem_toArray, List.getElem_cons_zero, List.getElem_cons_succ, List.setIfInBounds_toArray, List.set_cons_zero, List.set_cons_succ]
                          refine wpAnyH_take (i := 14) (v := undef) rfl (by kernel_rfl) (by kernel_rfl) (by kernel_rfl) (fun _ _ _ h => h) (Or.inr ⟨by rfl, rfl⟩) (by assumption) ?_
                          simp only [Act.put, List.getElem_toArray, List.getElem_cons_zero, List.getElem_cons_succ, List.setIfInBounds_toArray, List.set_cons_zero, List.set_cons_succ]
                          refine wpAnyH_take (i := 15) (v := undef) rfl (by kernel_rfl) (by kernel_rfl) (by kernel_rfl) (fun _ _ _ h => h) (Or.inr ⟨by rfl, rfl⟩) (by assumption) ?_
                          simp only [Act.put, List.getElem_toArray, List.getElem_cons_zero, List.getElem_cons_succ, List.setIfInBounds_toArray, List.set_cons_zero, List.set_cons_succ]
                          refine wpAnyH_take (i := 16) (v := undef) rfl (by kernel_rfl) (by kernel_rfl) (by kernel_rfl) (fun _ _ _ h => h) (Or.inr ⟨by rfl, rfl⟩) (by assumption) ?_
                          simp only [Act.put, List.getElem_toArray, List.getElem_cons_zero, List.getElem_cons_succ, List.setIfInBounds_toArray, List.set_cons_zero, List.set_cons_succ]
                          refine wpAnyH_take (i := 17) (v := undef) rfl (by kernel_rfl) (by kernel_rfl) (by kernel_rfl) (fun _ _ _ h => h) (Or.inr ⟨by rfl, rfl⟩) (by assumption) ?_
                          simp only [Act.put, List.getElem_toArray, List.getElem_cons_zero, List.getElem_cons_succ, List.setIfInBounds_toArray, List.set_cons_zero, List.set_cons_succ]
                          refine wpAnyH_ready (rs := [18]) (by kernel_rfl) (by simp) ?_
                          refine AllReadyH.cons rfl (fun K hK => ?_) AllReadyH.nil
                          go_simp
                          refine hK.out _ _ HC9.out (fun hHeld => ?_)
                          clear hK K
                          refine wpAnyH_take (i := 19) (v := undef) rfl (by kernel_rfl) (by kernel_rfl) (by kernel_rfl) (fun _ _ _ h => h) (Or.inr ⟨by rfl, rfl⟩) (by assumption) ?_
                          simp only [Act.put, List.getElem_toArray, List.getElem_cons_zero, List.getElem_cons_succ, List.setIfInBounds_toArray, List.set_cons_zero, List.set_cons_succ]
                          refine wpAnyH_take (i := 20) (v := undef) rfl (by kernel_rfl) (by kernel_rfl) (by kernel_rfl) (fun _ _ _ h => h) (Or.inr ⟨by rfl, rfl⟩) (by assumption) ?_
                          simp only [Act.put, List.getElem_toArray, List.getElem_cons_zero, List.getElem_cons_succ, List.setIfInBounds_toArray, List.set_cons_zero, List.set_cons_succ]
                          refine wpAnyH_take (i := 21) (v := undef) rfl (by kernel_rfl) (by kernel_rfl) (by kernel_rfl) (fun _ _ _ h => h) (Or.inr ⟨by rfl, rfl⟩) (by assumption) ?_
                          simp only [Act.put, List.getElem_toArray, List.getElem_cons_zero, List.getElem_cons_succ, List.setIfInBounds_toArray, List.set_cons_zero, List.set_cons_succ]
                          refine wpAnyH_take (i := 22) (v := undef) rfl (by kernel_rfl) (by kernel_rfl) (by kernel_rfl) (fun _ _ _ h => h) (Or.inr ⟨by rfl, rfl⟩) (by assumption) ?_
                          simp only [Act.put, List.getElem_toArray, List.getElem_cons_zero, List.getElem_cons_succ, List.setIfInBounds_toArray, List.set_cons_zero, List.set_cons_succ]
                          refine wpAnyH_take (i := 23) (v := ?_) rfl (by kernel_rfl) (by kernel_rfl) (by kernel_rfl) (fun _ _ _ h => h) (Or.inl ⟨by rfl, ?_⟩) (by assumption) ?_
                          rotate_left
                          · (intro w hSw; (try dsimp only at hSw); go_simp; try (with_reducible rfl))
                          simp only [Act.put, List.getElem_toArray, List.getElem_cons_zero, List.getElem_cons_succ, List.setIfInBounds_toArray, List.set_cons_zero, List.set_cons_succ]
                          refine wpAnyH_done (by kernel_rfl) ?_ _
                          go_wp2_with fail
                          go_meet
                          case rel => exact ⟨rfl, HB9.out⟩
                    case rest =>
                      obtain ⟨rfl, hb9⟩ := hcut
                      have hb10 := bthen HB7.out hb9
                      have HF := Lib.hid (And.intro (HIa.out.below hb10) (And.intro (HIe.out.below hb10) (bthen HB5.out hb10)))
                      clear hb9 hb10 hc0 hc1 HC8 HMay HBw HB7 HTd
                      go_wp2_with fail
                      go_roundw
                      case rel => exact ⟨j2 + 1, hlt2, by go_num, HF.out.1, HF.out.2.1, HF.out.2.2⟩
                      case measure => simp [intOf]; omega
                · go_wp2_with fail
                  go_ret
                  exact ⟨rfl, bthen HB1.out hbel5⟩
end Go.Proofs.YtccmppnindkgfaaDoor
