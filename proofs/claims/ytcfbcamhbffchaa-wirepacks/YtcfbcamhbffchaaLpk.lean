/- The walk of derricklaw03.WirePacks: it returns true, whatever the arguments. -/
import Derived.Test.YtcfbcamhbffchaaWrn
import Derived.Deep.OwnRows
import Derived.Deep.QuietTactic
import Derived.BigQuiet
namespace Go.Proofs.Ytcfbcamhbffchaa
open Go.RowKit
set_option linter.unusedVariables false

theorem Plc.mono {B B' : Nat} {v : Value} {L : Kn} {w : World} (h : Plc B v L w) (hB : B' ≤ B) : Plc B' v L w := by
  refine ⟨h.1, ?_⟩
  rcases h.2 with hn | ⟨g, cap, cur, rfl, hb, rest⟩
  · exact .inl hn
  · exact .inr ⟨g, cap, cur, rfl, Nat.le_trans hB hb, rest⟩
theorem rname_any (B : Nat) (x n : ByteArray) (v : Value) (L : Kn) (w : World) (hP : Plc B v L w) (hK : KnOk x.data.toList L) (hx : x.size ≤ 1000000) (hn : n.size ≤ 400) (hB : B ≤ w.heap.size) :
    Calls Try.prog 16 #[.agg #[.string x, v], .string n] w fun e w' => ∃ A' m' cap', e = .returned (.tuple #[.agg #[.string ⟨(stp x.data.toList L n).1.toArray⟩, .slice A' m' cap'], .int .i64 (stE n)]) ∧ Plc B (.slice A' m' cap') (stp x.data.toList L n).2 w' ∧ Below w.heap.size w w' := by
  cases hm : mayB n with
  | true =>
    have e1 : stE n = 0 := by simp [stE, hm]
    have e2 : stp x.data.toList L n = put x.data.toList L (labs n) := by simp [stp, hm]
    rw [e2, e1]
    refine (rname_yes B x n v L w hP hK hx hm).mono ?_
    rintro e w' ⟨v', rfl, h1, h2⟩
    obtain ⟨A', cap', rfl⟩ := h1.form
    exact ⟨A', _, cap', rfl, h1.mono hB, h2⟩
  | false =>
    have e1 : stE n = 1 := by simp [stE, hm]
    have e2 : stp x.data.toList L n = (x.data.toList, L) := by simp [stp, hm]
    rw [e2, e1]
    obtain ⟨A, cap, rfl⟩ := hP.form
    refine (rname_no x n _ A _ cap rfl w (by omega) hm).mono ?_
    rintro e w' ⟨rfl, h1⟩
    exact ⟨A, _, cap, rfl, hP.below h1, h1⟩

/-- A pack and the document's, side by side. -/
structure Two (B b bx : Nat) (S : List UInt8) (L : Kn) (s : ByteArray) (v : Value) (w0 w : World) : Prop where
  st : St B b S L w
  box : w.heap[bx]? = some (.cells #[.string s, v] 29 (0, 0))
  plc : Plc B v L w
  bel : Below B w0 w
theorem Two.below {B b bx : Nat} {S : List UInt8} {L : Kn} {s : ByteArray} {v : Value} {w0 w w' : World} (h : Two B b bx S L s v w0 w) (hB : B ≤ w.heap.size) (hb : Below w.heap.size w w') : Two B b bx S L s v w0 w' :=
  ⟨h.st.below hb, (hb.block _ (heap_lt h.box)).trans h.box, h.plc.below hb, h.bel.trans (hb.mono hB)⟩
/-- 'x = ..': the document's pack is stored. -/
theorem Two.set {B b bx : Nat} {S : List UInt8} {L : Kn} {s y : ByteArray} {v u : Value} {w0 w : World} (hst : St B b S L w) (hbox : w.heap[bx]? = some (.cells #[.string s, v] 29 (0, 0))) (hplc : Plc B u L w) (hbel : Below B w0 w) (hB : B ≤ bx) :
    Two B b bx S L y u w0 ((w.setCell ⟨bx, 0, none⟩ (.string y)).setCell ⟨bx, 1, none⟩ u) := by
  have s1 := blk_set hbox 0 (.string y)
  have s2 := blk_set s1 1 u
  have g1 := grown_set w ⟨bx, 0, none⟩ (.string y)
  have g2 := grown_set (w.setCell ⟨bx, 0, none⟩ (.string y)) ⟨bx, 1, none⟩ u
  exact ⟨(hst.kept g1 (fun g e => by cases e; exact ⟨_, _, _, by decide, by decide, hbox⟩)).kept g2 (fun g e => by cases e; exact ⟨_, _, _, by decide, by decide, s1⟩), s2, (hplc.other hbox (by decide) g1).other s1 (by decide) g2, (hbel.setCell (p := ⟨bx, 0, none⟩) hB _).setCell (p := ⟨bx, 1, none⟩) hB _⟩
/-- The program's pack has turned. -/
theorem Two.turn {B b bx : Nat} {S S2 : List UInt8} {L L2 : Kn} {s : ByteArray} {v : Value} {w0 w w' : World} (h : Two B b bx S L s v w0 w) (hst : St B b S2 L2 w') (hb : Below B w w') (hk : Kp w w') :
    w'.heap[bx]? = some (.cells #[.string s, v] 29 (0, 0)) ∧ Plc B v L w' ∧ Below B w0 w' := ⟨hk _ _ _ _ (by decide) (by decide) h.box, h.plc.kp hk, h.bel.trans hb⟩

/-- What stands behind 'next, bad := derrickref03.Name(..)'. -/
def Nx (B b bx : Nat) (S2 : List UInt8) (L2 : Kn) (bx0 : Obj) (y2 : ByteArray) (w0 : World) (t : Value) (wx : World) : Prop :=
  ∃ (y : Nat) (A' : Option Addr) (m' c' : Nat), t = .pointer (some ⟨y, 0, none⟩) ∧ wx.heap[y]? = some (.cells #[.string y2, .slice A' m' c'] 29 (0, 0)) ∧ wx.heap[bx]? = some bx0 ∧ St B b S2 L2 wx ∧ Plc B (.slice A' m' c') L2 wx ∧ Below B w0 wx
theorem nxA {B b bx : Nat} {S2 : List UInt8} {L2 : Kn} {bx0 : Obj} {y2 : ByteArray} {w0 w6 w7 : World} {A' : Option Addr} {m' c' : Nat} (hst : St B b S2 L2 w6) (hbx : w6.heap[bx]? = some bx0) (hbel : Below B w0 w6) (hb : Below w6.heap.size w6 w7) (hP : Plc B (.slice A' m' c') L2 w7) (hB : B ≤ w6.heap.size) :
    Nx B b bx S2 L2 bx0 y2 w0 (.pointer (some ⟨w7.heap.size, 0, none⟩)) (w7.alloc (.cells #[.string y2, .slice A' m' c'] 29)) := by
  have ha : Below w7.heap.size w7 (w7.alloc (.cells #[.string y2, .slice A' m' c'] 29)) := (Below.refl _ w7).alloc (Nat.le_refl _) _
  have hba := bthen hb ha
  exact ⟨w7.heap.size, A', m', c', rfl, heap_alloc_new w7 _, (hba.block _ (heap_lt hbx)).trans hbx, hst.below hba, hP.below ha, hbel.trans (hba.mono hB)⟩
theorem nxB {B b bx : Nat} {S2 : List UInt8} {L2 : Kn} {bx0 : Obj} {y2 : ByteArray} {w0 w6 w7 : World} {A' : Option Addr} {m' c' : Nat} (hst : St B b S2 L2 w6) (hbx : w6.heap[bx]? = some bx0) (hbel : Below B w0 w6) (hb : Below w6.heap.size w6 w7) (hP : Plc B (.slice A' m' c') L2 w7) (hB : B ≤ w6.heap.size)
    (hz : w7.heap[w6.heap.size]? = some (.cells #[.string ⟨#[]⟩, .slice none 0 0] 29 (0, 0))) :
    Nx B b bx S2 L2 bx0 y2 w0 (.pointer (some ⟨w6.heap.size, 0, none⟩)) ((w7.setCell ⟨w6.heap.size, 0, none⟩ (.string y2)).setCell ⟨w6.heap.size, 1, none⟩ (.slice A' m' c')) := by
  have s1 := blk_set hz 0 (.string y2)
  have s2 := blk_set s1 1 (.slice A' m' c')
  have g1 := grown_set w7 ⟨w6.heap.size, 0, none⟩ (.string y2)
  have g2 := grown_set (w7.setCell ⟨w6.heap.size, 0, none⟩ (.string y2)) ⟨w6.heap.size, 1, none⟩ (.slice A' m' c')
  have hba : Below w6.heap.size w6 ((w7.setCell ⟨w6.heap.size, 0, none⟩ (.string y2)).setCell ⟨w6.heap.size, 1, none⟩ (.slice A' m' c')) := (hb.setCell (p := ⟨w6.heap.size, 0, none⟩) (Nat.le_refl _) _).setCell (p := ⟨w6.heap.size, 1, none⟩) (Nat.le_refl _) _
  exact ⟨w6.heap.size, A', m', c', rfl, s2, (hba.block _ (heap_lt hbx)).trans hbx, hst.below hba, (hP.other hz (by decide) g1).other s1 (by decide) g2, hbel.trans (hba.mono hB)⟩
theorem len_q2 (B b : Nat) (S : List UInt8) (L : Kn) (w : World) (m : Nat) (h : IsP B b S L w) :
    Calls Try.prog 17 #[.pointer (some ⟨b, 0, none⟩)] (w.drewN m) fun e w' => e = .returned (.int .i64 (S.length : Nat)) ∧ ∃ m', w' = w.drewN m' :=
  (len_any B b S L (w.drewN m) h).mono fun _ _ ⟨he, hw⟩ => ⟨he, m, hw.symm⟩
theorem out_q2 (B b : Nat) (S : List UInt8) (L : Kn) (w : World) (m : Nat) (h : IsP B b S L w) :
    Calls Try.prog 18 #[.pointer (some ⟨b, 0, none⟩)] (w.drewN m) fun e w' => e = .returned (.string ⟨S.toArray⟩) ∧ ∃ m', w' = w.drewN m' :=
  (out_any B b S L (w.drewN m) h).mono fun _ _ ⟨he, hw⟩ => ⟨he, m, hw.symm⟩

/-- string(make([]byte, 16380)). -/
theorem far_is (n : Nat) (hn : n ≤ 1000000) : ∃ (CS : Array Value) (Z : ByteArray), Z.size = n ∧ (∀ w : World, (Instr.makeSlice 30 (.int .i64 (n : Int)) (.int .i64 (n : Int))).run Try.prog w = .ok (.slice (some ⟨w.heap.size, 0, none⟩) n n) (w.alloc (.cells CS 5))) ∧
    ∀ W : World, (convert 30 9 (.slice (some ⟨W.heap.size, 0, none⟩) n n)).run Try.prog (W.alloc (.cells CS 5)) = .ok (.string Z) (W.alloc (.cells CS 5)) := by
  refine ⟨madeCells #[.int .u8 0] n, ⟨(List.replicate n (0 : UInt8)).toArray⟩, by simp [ByteArray.size], fun w => run_make_row' (P := Try.prog) 30 5 (.int .u8 0) 1 Try.underlying30 info5 rfl .i64 .i64 n (by omega) (by omega) w, fun W => ?_⟩
  have h := run_convert_bytes_back (P := Try.prog) (W.alloc (.cells (madeCells #[.int .u8 0] n) 5)) 30 9 5 ⟨W.heap.size, 0, none⟩ n (List.replicate n (0 : UInt8)) Try.underlying30 Try.underlying5 Try.underlying9 (fun j hj => by
    have hj' : j < n := by simpa using hj
    have hc := (World.rowIs_made W (.int .u8 0) n 5).cell hj'
    have e : (⟨W.heap.size, 0, none⟩ : Addr).add j = ⟨W.heap.size, j, none⟩ := by
      unfold Addr.add
      split
      · rename_i h0; simp_all
      · simp
    rw [e, hc]
    simp)
  rw [List.length_replicate] at h
  exact h

set_option maxRecDepth 100000 in
set_option maxHeartbeats 8000000 in
theorem packs_walk (A : Option Addr) (cap : Nat) (ps : List (ByteArray × Bool)) (far : Bool) (hl : ps.length ≤ 9223372036854775807) (hsz : ∀ p ∈ ps, p.1.size ≤ 9223372036854775807) (w : World) (hP : Parts w A ps) :
    Calls Try.prog 3 #[.slice A ps.length cap, .bool far] w fun e w' => e = .returned (.bool true) ∧ Below w.heap.size w w' := by
  have HS := Lib.hid hsz
  clear hsz
  cases hf : fewB ps with
  | false =>
    go_enter Try.func3, Try.ntmps3
    go_wp2_with fail
    refine (shown_any _).mono ?_; rintro e w1 ⟨rfl, hb1⟩
    go_wp2_with fail
    refine (few_any A cap ps _ (hP.below hb1) hl HS.out).mono ?_; rintro e w2 ⟨rfl, rfl⟩
    rw [hf]
    go_wp2_with fail
    go_ret
    exact ⟨rfl, hb1⟩
  | true =>
    obtain ⟨hl40, hs4⟩ := few_yes hf
    have HF := Lib.hid hf
    have HS4 := Lib.hid hs4
    clear hf hs4
    go_enter Try.func3, Try.ntmps3
    go_wp2_with fail
    refine (shown_any _).mono ?_; rintro e w1 ⟨rfl, hb1⟩
    go_wp2_with fail
    refine (few_any A cap ps _ (hP.below hb1) hl HS.out).mono ?_; rintro e w2 ⟨rfl, rfl⟩
    rw [HF.out]
    have hP3 := hP.below hb1
    clear hP
    go_wp2_with fail
    refine (new_any _).mono ?_; rintro e w4 ⟨rfl, hI4, hb4⟩
    have hSt4 := St.new hI4
    have hs14 : w1.heap.size < w4.heap.size := hI4.lt
    have hTwo : Two w1.heap.size w1.heap.size w4.heap.size [] [] ⟨#[]⟩ (.slice none 0 0) w1 (w4.alloc (.cells #[.string ⟨#[]⟩, .slice none 0 0] 29)) := ⟨hSt4.alloc _, heap_alloc_new w4 _, World.ownsRow_nil _ _ _ _, hb4.alloc hb4.size _⟩
    have HTwo := Lib.hid hTwo
    clear hI4 hSt4 hTwo
    go_upto_if 20 with (fail)
    go_cut [8] (fun _ wx => ∃ (S : List UInt8) (s : ByteArray) (v : Value), Two w1.heap.size w1.heap.size w4.heap.size S [] s v w1 wx ∧ s.data.toList = S ∧ S.length ≤ 16380)
    case first =>
      cases far with
      | false =>
        go_wp2_with fail
        go_meet
        case rel => exact ⟨[], ⟨#[]⟩, _, HTwo.out, rfl, by simp⟩
      | true =>
        obtain ⟨CS, Z, hZ, hmk, hcv⟩ := far_is 16380 (by decide)
        have hmk' : ∀ w : World, (Instr.makeSlice 30 (.int .i64 16380) (.int .i64 16380)).run Try.prog w = .ok (.slice (some ⟨w.heap.size, 0, none⟩) 16380 16380) (w.alloc (.cells CS 5)) := hmk
        have HZ := Lib.hid hZ
        clear hmk hZ
        have hcv2 := hcv (w4.alloc (.cells #[.string ⟨#[]⟩, .slice none 0 0] 29))
        rw [show (w4.alloc (.cells #[.string ⟨#[]⟩, .slice none 0 0] 29)).heap.size = w4.heap.size + 1 by simp] at hcv2
        clear hcv
        have hT5 := HTwo.out.below (by simp; omega) ((Below.refl _ (w4.alloc (.cells #[.string ⟨#[]⟩, .slice none 0 0] 29))).alloc (Nat.le_refl _) (.cells CS 5))
        have HT5 := Lib.hid hT5
        clear hT5
        go_wp2_with fail
        clear hmk' hcv2
        refine (add_step _ _ [] [] Z _ HT5.out.st (by rw [HZ.out]; simp) HT5.out.bel.size).mono ?_; rintro e w6 ⟨rfl, hSt6, hb6, hk6⟩
        obtain ⟨hbox6, hplc6, hbel6⟩ := HT5.out.turn hSt6 hb6 hk6
        have c0 := blk_cell hbox6 0
        have c1 := blk_cell hbox6 1
        have HB6 := Lib.hid hbox6
        have HPl6 := Lib.hid hplc6
        clear hbox6 hplc6 hb6 hk6
        go_wp2_with fail
        refine (radd_any ⟨#[]⟩ Z _ none 0 0 rfl (by rw [HZ.out]; decide) _).mono ?_; rintro e w7 ⟨rfl, hb7⟩
        have hbox7 := (hb7.block _ (heap_lt HB6.out)).trans HB6.out
        have z0 := blk_cell hbox7 0
        have z1 := blk_cell hbox7 1
        have f0 := blk_frozen hbox7 0
        have f1 := blk_frozen hbox7 1
        have HB7 := Lib.hid hbox7
        clear hbox7 c0 c1
        go_wp2_with fail
        go_meet
        case rel =>
          refine ⟨[] ++ Z.data.toList, ⟨#[]⟩ ++ Z, _, Two.set (hSt6.below hb7) HB7.out (HPl6.out.below hb7) (hbel6.trans (hb7.mono hbel6.size)) (by omega), by simp, ?_⟩
          rw [List.nil_append, ba_len, HZ.out]
          exact Nat.le_refl _
    case rest =>
      obtain ⟨S0, s0, v0, hT0, hs0, hl0⟩ := hcut
      have HT0 := Lib.hid hT0
      clear hT0 HTwo
      go_wp2_with fail
      go_loopw [9] (fun i wr => ∃ (k : Nat) (S : List UInt8) (L : Kn) (s : ByteArray) (v : Value), k ≤ ps.length ∧ i = .int .i64 k ∧ Two w1.heap.size w1.heap.size w4.heap.size S L s v w1 wr ∧ s.data.toList = S ∧ S.length ≤ 16380 + 400 * k) (fun i _ => ps.length - (intOf i).toNat)
      case atStart => exact ⟨0, S0, [], s0, v0, Nat.zero_le _, rfl, HT0.out, hs0, by omega⟩
      case round =>
        clear hs0 hl0 HT0
        obtain ⟨k, S, L, s, v, hk, rfl, hT, hsS, hlen⟩ := hrel
        obtain ⟨Av, cv, rfl⟩ := hT.plc.form
        have hsl : s.size = S.length := by rw [← hsS, ba_len]
        have hszr := hT.bel.size
        have HT := Lib.hid hT
        clear hT
        by_cases hlt : k < ps.length
        · have hcells : ∃ ab ao, A = some ⟨ab, ao, none⟩ ∧ ab < w1.heap.size ∧ ∀ w5, Below w1.heap.size w1 w5 → w5.cell? ⟨ab, ao + k * 2, none⟩ = some (.string ps[k].1) ∧ w5.cell? ⟨ab, ao + k * 2 + 1, none⟩ = some (.bool ps[k].2) := by
            obtain ⟨ab, ao, he, hab, _⟩ := hP3 k hlt
            refine ⟨ab, ao, he, hab, fun w5 hb5 => ?_⟩
            obtain ⟨ab', ao', he', _, h1, h2⟩ := (hP3.below hb5) k hlt
            rw [he] at he'
            cases he'
            exact ⟨h1, h2⟩
          obtain ⟨ab, ao, rfl, hab, hcl⟩ := hcells
          have hs4 := HS4.out ps[k] (List.getElem_mem hlt)
          have hc0 := (hcl wr HT.out.bel).1
          have hc1 := (hcl wr HT.out.bel).2
          have HCl := Lib.hid hcl
          generalize ps[k] = q at *
          obtain ⟨qs, qr⟩ := q
          simp only at hc0 hc1 hs4 HCl
          clear hcl
          cases qr with
          | true =>
            go_wp2_with fail
            refine (add_step _ _ S L qs _ HT.out.st (by omega) hszr).mono ?_; rintro e w6 ⟨rfl, hSt6, hb6, hk6⟩
            obtain ⟨hbox6, hplc6, hbel6⟩ := HT.out.turn hSt6 hb6 hk6
            have c0 := blk_cell hbox6 0
            have c1 := blk_cell hbox6 1
            have p0 := (HCl.out w6 hbel6).1
            have HB6 := Lib.hid hbox6
            have HPl6 := Lib.hid hplc6
            have HSt6 := Lib.hid hSt6
            have HBel6 := Lib.hid hbel6
            clear hbox6 hplc6 hb6 hk6 hc0 hc1 hSt6 hbel6
            go_wp2_with fail
            go_region_with (go_at_call 14; refine (radd_any s qs _ Av L.length cv rfl (by omega) _).mono ?_; rintro e w7 ⟨rfl, hb7⟩; have HBe7 := Lib.hid (show Below w6.heap.size w6 w7 from ⟨hb7.os, hb7.tape, hb7.output, hb7.size, hb7.block⟩); have HB7 := Lib.hid ((HBe7.out.block _ (heap_lt HB6.out)).trans HB6.out); have z0 := blk_cell HB7.out 0; have z1 := blk_cell HB7.out 1; have f0 := blk_frozen HB7.out 0; have f1 := blk_frozen HB7.out 1)
            all_goals
              go_wp2_with fail
              go_roundw
              case rel =>
                refine ⟨k + 1, S ++ qs.data.toList, L, s ++ qs, _, hlt, by go_num, Two.set (HSt6.out.below HBe7.out) HB7.out (HPl6.out.below HBe7.out) (HBel6.out.trans (HBe7.out.mono HBel6.out.size)) (by omega), by rw [← hsS]; simp, by rw [List.length_append, ba_len]; omega⟩
              case measure => simp [intOf]; omega
          | false =>
            obtain ⟨X, hX1, hX2, _, _⟩ := (stepped HT.out.st.good qs).1.app
            have hX2l : (stp S L qs).1.length = S.length + X.length := by rw [hX1, List.length_append]
            obtain ⟨S2, hS2⟩ : ∃ S2, (stp S L qs).1 = S2 := ⟨_, rfl⟩
            obtain ⟨L2, hL2⟩ : ∃ L2, (stp S L qs).2 = L2 := ⟨_, rfl⟩
            rw [hS2] at hX2l
            have HS2 := Lib.hid (And.intro hS2 hL2)
            clear hS2 hL2 hX1
            go_wp2_with fail
            refine (name_step _ _ S L qs _ HT.out.st hszr (by omega) (by omega)).mono ?_; rintro e w6 ⟨rfl, hSt6, hb6, hk6⟩
            rw [HS2.out.1, HS2.out.2] at hSt6
            obtain ⟨hbox6, hplc6, hbel6⟩ := HT.out.turn hSt6 hb6 hk6
            have c0 := blk_cell hbox6 0
            have c1 := blk_cell hbox6 1
            have p0 := (HCl.out w6 hbel6).1
            have hkn : KnOk s.data.toList L := by rw [hsS]; exact HT.out.st.kn
            obtain ⟨bad, hbad⟩ : ∃ bad, stE qs = bad := ⟨_, rfl⟩
            have hrn : ∀ W, Below w6.heap.size w6 W → Calls Try.prog 16 #[.agg #[.string s, .slice Av L.length cv], .string qs] W fun e w' => ∃ A' m' cap', e = .returned (.tuple #[.agg #[.string ⟨S2.toArray⟩, .slice A' m' cap'], .int .i64 bad]) ∧ Plc w1.heap.size (.slice A' m' cap') L2 w' ∧ Below W.heap.size W w' := fun W hW => by
              have h := rname_any w1.heap.size s qs _ L W (hplc6.below hW) hkn (by omega) hs4 (Nat.le_trans hbel6.size hW.size)
              rw [hsS, HS2.out.1, HS2.out.2, hbad] at h
              exact h
            rw [hbad]
            have hal : ∀ o, Below w6.heap.size w6 (w6.alloc o) := fun o => (Below.refl _ w6).alloc (Nat.le_refl _) o
            have HBd := Lib.hid (And.intro (show Below w6.heap.size w6 w6.drew from (Below.refl _ w6).drew) (show ∀ o, Below w6.heap.size w6 (w6.alloc o).drew from fun o => (hal o).drew))
            have d0 : ∀ o, (w6.alloc o).cell? ⟨w4.heap.size, 0, none⟩ = some (.string s) := fun o => ((hal o).cell (p := ⟨w4.heap.size, 0, none⟩) (heap_lt hbox6)).trans c0
            have d1 : ∀ o, (w6.alloc o).cell? ⟨w4.heap.size, 1, none⟩ = some (.slice Av L.length cv) := fun o => ((hal o).cell (p := ⟨w4.heap.size, 1, none⟩) (heap_lt hbox6)).trans c1
            have d2 : ∀ o, (w6.alloc o).cell? ⟨ab, ao + k * 2, none⟩ = some (.string qs) := fun o => ((hal o).cell (p := ⟨ab, ao + k * 2, none⟩) (show ab < _ from Nat.lt_of_lt_of_le hab hbel6.size)).trans p0
            have HRn := Lib.hid hrn
            have HB6 := Lib.hid hbox6
            have HSt6 := Lib.hid hSt6
            have HBel6 := Lib.hid hbel6
            clear hbox6 hplc6 hb6 hk6 hc0 hc1 hSt6 hbel6 hrn hkn hbad hal
            go_upto_region 17 with (fail)
            go_cut [11, 12] (fun t q wx => q = .int .i64 bad ∧ Nx w1.heap.size w1.heap.size w4.heap.size S2 L2 (.cells #[.string s, .slice Av L.length cv] 29 (0, 0)) ⟨S2.toArray⟩ w1 t wx)
            case first =>
              go_region_with (first
                | (go_at_call 16; refine (HRn.out _ HBd.out.1).mono ?_; rintro e w7 ⟨A', m', cp', rfl, hP7, hb7⟩; have HB7 := Lib.hid (show Below w6.heap.size w6 w7 from ⟨hb7.os, hb7.tape, hb7.output, hb7.size, hb7.block⟩); have HP7 := Lib.hid hP7; clear hP7 hb7)
                | (go_at_call 16; refine (HRn.out _ (HBd.out.2 _)).mono ?_; rintro e w7 ⟨A', m', cp', rfl, hP7, hb7⟩; have HZ7 := Lib.hid ((hb7.block w6.heap.size (by simp)).trans (heap_alloc_new w6 _)); have HB7 := Lib.hid ((HBd.out.2 _).trans (hb7.mono (by simp))); have HP7 := Lib.hid hP7; have z0 := blk_cell HZ7.out 0; have z1 := blk_cell HZ7.out 1; have f0 := blk_frozen HZ7.out 0; have f1 := blk_frozen HZ7.out 1; clear hP7 hb7))
              all_goals
                go_wp2_with fail
                go_meet
                case rel =>
                  first
                  | exact ⟨rfl, nxA HSt6.out HB6.out HBel6.out HB7.out HP7.out HBel6.out.size⟩
                  | exact ⟨rfl, nxB HSt6.out HB6.out HBel6.out HB7.out HP7.out HBel6.out.size HZ7.out⟩
            case rest =>
              obtain ⟨rfl, y, A', m', c', rfl, hy, hbx, hst, hpl, hbel⟩ := hcut
              have e0 := blk_cell hy 0
              have e1 := blk_cell hy 1
              have z0 := blk_cell hbx 0
              have z1 := blk_cell hbx 1
              have f0 := blk_frozen hbx 0
              have f1 := blk_frozen hbx 1
              have hT8 := Two.set (y := ⟨S2.toArray⟩) hst hbx hpl hbel (by omega)
              have HT8 := Lib.hid hT8
              clear hy hbx hst hpl hbel hT8 c0 c1 d0 d1 d2 p0 HRn HB6 HSt6 HBel6 HBd
              have hS2b : S2.length ≤ 16380 + 400 * (k + 1) := by omega
              clear hX2l hX2
              go_wp2_with fail
              obtain ⟨W8, hW8⟩ : ∃ W8, (wc.setCell ⟨w4.heap.size, 0, none⟩ (.string ⟨S2.toArray⟩)).setCell ⟨w4.heap.size, 1, none⟩ (.slice A' m' c') = W8 := ⟨_, rfl⟩
              have h8 := HT8.out
              rw [hW8] at h8 ⊢
              have m0 : W8.cell? ⟨w4.heap.size, 0, none⟩ = some (.string ⟨S2.toArray⟩) := blk_cell h8.box 0
              have H8 := Lib.hid h8
              clear h8 hW8 HT8 e0 e1 z0 z1 f0 f1
              go_quiet ((go_at_call 17; exact len_q2 _ _ _ _ _ _ H8.out.st.is))
              go_wp2
              go_roundw
              case rel => exact ⟨k + 1, S2, L2, ⟨S2.toArray⟩, _, hlt, by go_num, ⟨⟨H8.out.st.is, H8.out.st.kn, H8.out.st.good⟩, H8.out.box, H8.out.plc, ⟨H8.out.bel.os, H8.out.bel.tape, H8.out.bel.output, H8.out.bel.size, H8.out.bel.block⟩⟩, rfl, hS2b⟩
              case measure => simp [intOf]; omega
        · have m0 : wr.cell? ⟨w4.heap.size, 0, none⟩ = some (.string s) := blk_cell HT.out.box 0
          have hss : ((⟨S.toArray⟩ : ByteArray).toList == s.toList) = true := by rw [ByteArray.toList_eq, ByteArray.toList_eq, hsS]; simp
          have hbw := bthen hb1 HT.out.bel
          have HsS := Lib.hid hsS
          clear hsS hsl hss
          go_wp2_with fail
          go_quiet ((go_at_call 18; exact out_q2 _ _ _ _ _ _ HT.out.st.is))
          go_wp2
          go_ret
          exact ⟨ret_bool (by rw [ByteArray.toList_eq, HsS.out]; simp), ⟨hbw.os, hbw.tape, hbw.output, hbw.size, hbw.block⟩⟩
end Go.Proofs.Ytcfbcamhbffchaa
