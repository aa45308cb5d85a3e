/- The walk of derricklaw04.RdataPuts: whatever data are put, one behind the other, each answer, and the bytes, are the document's. -/
import Derived.Test.YtccmppnindkgfaaDoorRpo
import Derived.Test.YtccmppnindkgfaaDoorLim
import Derived.Test.YtccmppnindkgfaaDoorRsh
import Derived.Test.YtccmppnindkgfaaDoorLwn
import Derived.Deep.RegionHeld
namespace Go.Proofs.YtccmppnindkgfaaDoor
open Go.RowKit
set_option linter.unusedVariables false

theorem rp_pt (S : List UInt8) (L : Kn) (k : Nat) (d : ByteArray) : rp S L k d = ptS S L k d := by rw [put_eq]; rfl
theorem rpE_pt (k : Nat) (d : ByteArray) : rpE k d = ptE k d := by unfold rpE ptE; rw [may_eq]
theorem pt_len {S : List UInt8} {L : Kn} (hG : Good S L) (k : Nat) (d : ByteArray) : (ptS S L k d).1.length ≤ S.length + d.size := by
  rw [put_eq]
  split
  · rename_i hm
    obtain ⟨X, h1, h2⟩ := (putD_good hG hm).1
    rw [h1, List.length_append]; omega
  · simp
theorem rput_q (B b : Nat) (S : List UInt8) (L : Kn) (k : Nat) (d : ByteArray) (hd : d.size ≤ 1048576) (hS : S.length ≤ 1073741824) (hk : k < 65536) (w W : World) (hL : Lay w) (h : St B b S L w) (hB : B ≤ w.heap.size) (hW : W = w.drew) :
    Calls Tryd.prog 16 #[.pointer (some ⟨b, 0, none⟩), .int .u16 (k : Nat), .string d] W fun en w' => en = .returned (.int .i64 (ptE k d)) ∧ St B b (ptS S L k d).1 (ptS S L k d).2 w' ∧ Below B w w' ∧ Kp w w' := by
  subst hW
  refine (rput_any B b S L k d hd hS hk w.drew hL ⟨h.is, h.kn, h.good⟩ hB).mono ?_
  rintro e w' ⟨h1, h2, h3, h4⟩
  exact ⟨h1, h2, ⟨h3.os, h3.tape, h3.output, h3.size, h3.block⟩, h4⟩

/-- The cells that a call's arguments are read from. -/
def Hd4 (bx ab o1 o2 : Nat) (s : ByteArray) (v : Value) (kd : Nat) (d : ByteArray) (w' : World) : Prop :=
  w'.cell? ⟨bx, 0, none⟩ = some (.string s) ∧ w'.cell? ⟨bx, 1, none⟩ = some v ∧ w'.cell? ⟨ab, o1, none⟩ = some (.int .u16 (kd : Nat)) ∧ w'.cell? ⟨ab, o2, none⟩ = some (.string d)
theorem Hd4.below {bx ab o1 o2 : Nat} {s : ByteArray} {v : Value} {kd : Nat} {d : ByteArray} {w w' : World} (h : Hd4 bx ab o1 o2 s v kd d w) (hb : Below w.heap.size w w') : Hd4 bx ab o1 o2 s v kd d w' := by
  obtain ⟨h1, h2, h3, h4⟩ := h
  have q1 := World.block_lt_of_cell? w _ h1
  have q2 := World.block_lt_of_cell? w _ h2
  have q3 := World.block_lt_of_cell? w _ h3
  have q4 := World.block_lt_of_cell? w _ h4
  exact ⟨(hb.cell q1).trans h1, (hb.cell q2).trans h2, (hb.cell q3).trans h3, (hb.cell q4).trans h4⟩
theorem Hd4.al {bx ab o1 o2 : Nat} {s : ByteArray} {v : Value} {kd : Nat} {d : ByteArray} {w : World} (h : Hd4 bx ab o1 o2 s v kd d w) (o : Obj) : Hd4 bx ab o1 o2 s v kd d (w.alloc o) := h.below ((Below.refl _ w).alloc (Nat.le_refl _) o)
theorem Hd4.set {bx ab o1 o2 : Nat} {s : ByteArray} {v : Value} {kd : Nat} {d : ByteArray} {w : World} (h : Hd4 bx ab o1 o2 s v kd d w) {g : Nat} (h1 : g ≠ bx) (h2 : g ≠ ab) (i : Nat) (u : Value) : Hd4 bx ab o1 o2 s v kd d (w.setCell ⟨g, i, none⟩ u) := by
  obtain ⟨g1, g2, g3, g4⟩ := h
  exact ⟨(World.cell?_setCell_far w ⟨g, i, none⟩ _ u h1).trans g1, (World.cell?_setCell_far w ⟨g, i, none⟩ _ u h1).trans g2, (World.cell?_setCell_far w ⟨g, i, none⟩ _ u h2).trans g3, (World.cell?_setCell_far w ⟨g, i, none⟩ _ u h2).trans g4⟩

set_option maxRecDepth 100000 in
set_option maxHeartbeats 1000000 in
theorem puts_walk (A : Option Addr) (cap : Nat) (l : List (Nat × ByteArray)) (hl : l.length ≤ 9223372036854775807) (hsz : ∀ p ∈ l, p.1 < 65536 ∧ p.2.size ≤ 9223372036854775807) (w : World) (hI : Items w A l) (hL : Lay w) :
    Calls Tryd.prog 4 #[.slice A l.length cap] w fun e w' => e = .returned (.bool true) ∧ Below w.heap.size w w' := by
  have HSz := Lib.hid hsz
  have HL := Lib.hid hL
  have H0 := Lib.hid (lay_lt hL)
  clear hsz hL
  go_enter Tryd.func4, Tryd.ntmps4
  go_wp2_with fail
  refine (rshown_any _ HL.out).mono ?_
  rintro e w1 ⟨rfl, hb1⟩
  have HB1 := Lib.hid hb1
  have HL1 := Lib.hid (HL.out.below H0.out hb1)
  have H01 := Lib.hid (Nat.lt_of_lt_of_le H0.out hb1.size)
  have HI := Lib.hid (hI.below hb1)
  clear hb1 hI
  go_wp2_with fail
  refine (new_any _).mono ?_
  rintro e w4 ⟨rfl, hI4, hb4⟩
  have hSt4 := St.new hI4
  have hs14 : w1.heap.size < w4.heap.size := hI4.lt
  have hTwo : Two w1.heap.size w1.heap.size w4.heap.size [] [] ⟨#[]⟩ (.slice none 0 0) w1 (w4.alloc (.cells #[.string ⟨#[]⟩, .slice none 0 0] 38)) := ⟨hSt4.alloc _, heap_alloc_new w4 _, World.ownsRow_nil _ _ _ _, hb4.alloc hb4.size _⟩
  have HTwo := Lib.hid hTwo
  clear hI4 hSt4 hTwo hb4
  go_wp2_with fail
  go_loopw [6] (fun i wr => ∃ (k : Nat) (S : List UInt8) (L : Kn) (s : ByteArray) (v : Value), k ≤ l.length ∧ k ≤ 20 ∧ i = .int .i64 k ∧ Two w1.heap.size w1.heap.size w4.heap.size S L s v w1 wr ∧ s.data.toList = S ∧ S.length ≤ 700 * k) (fun i _ => 20 - (intOf i).toNat)
  case atStart => exact ⟨0, [], [], ⟨#[]⟩, _, Nat.zero_le _, Nat.zero_le _, rfl, HTwo.out, rfl, Nat.zero_le _⟩
  case round =>
    clear HTwo
    obtain ⟨k, S, L, s, v, hk, hk20, rfl, hT, hsS, hlen⟩ := hrel
    obtain ⟨Av, cv, rfl⟩ := hT.plc.form
    have hsl : s.size = S.length := by rw [← hsS, ba_len]
    have hszr := hT.bel.size
    have HT := Lib.hid hT
    clear hT
    by_cases hgo : k < l.length ∧ k < 20
    · obtain ⟨hlt, hk2⟩ := hgo
      obtain ⟨ab, ao, rfl, hab, hcl⟩ := HI.out.cells k hlt
      obtain ⟨hkk, _⟩ := HSz.out l[k] (List.getElem_mem hlt)
      have hc0 := (hcl wr HT.out.bel).1
      have hc1 := (hcl wr HT.out.bel).2
      have HCl := Lib.hid hcl
      generalize l[k] = q at *
      obtain ⟨kd, d⟩ := q
      simp only at hc0 hc1 hkk HCl
      clear hcl
      by_cases hbig : d.size ≤ 700
      · have c1 : decide ((700 : Int) < (d.size : Int)) = false := by simp; omega
        have c2 : ¬ 700 < d.size := by omega
        have hpl := pt_len HT.out.st.good kd d
        obtain ⟨S2, hS2⟩ : ∃ S2, (ptS S L kd d).1 = S2 := ⟨_, rfl⟩
        obtain ⟨L2, hL2⟩ : ∃ L2, (ptS S L kd d).2 = L2 := ⟨_, rfl⟩
        obtain ⟨bad, hbad⟩ : ∃ bad, ptE kd d = bad := ⟨_, rfl⟩
        rw [hS2] at hpl
        have HS2 := Lib.hid (And.intro hS2 (And.intro hL2 hbad))
        have hput : ∀ W, W = wr.drew → Calls Tryd.prog 16 #[.pointer (some ⟨w1.heap.size, 0, none⟩), .int .u16 (kd : Nat), .string d] W fun en w' => en = .returned (.int .i64 bad) ∧ St w1.heap.size w1.heap.size S2 L2 w' ∧ Below w1.heap.size wr w' ∧ Kp wr w' := fun W hW => by
          have h := rput_q w1.heap.size w1.heap.size S L kd d (by omega) (by omega) hkk wr W (HL1.out.below H01.out HT.out.bel) HT.out.st hszr hW
          rw [hS2, hL2, hbad] at h
          exact h
        have HPut := Lib.hid hput
        clear hS2 hL2 hbad hput
        go_upto_region 9 with (fail)
        go_cut [7] (fun q wx => q = .int .i64 bad ∧ St w1.heap.size w1.heap.size S2 L2 wx ∧ Below w1.heap.size wr wx ∧ Kp wr wx)
        case first =>
          go_region_with (go_at_call 16; refine (HPut.out _ rfl).mono ?_; rintro e w6 ⟨rfl, h6⟩; have H6 := Lib.hid h6; clear h6)
          all_goals
            go_wp2_with fail
            go_meet
            case rel => exact ⟨rfl, H6.out⟩
        case rest =>
          obtain ⟨rfl, hSt6, hb6, hk6⟩ := hcut
          obtain ⟨hbox6, hplc6, hbel6⟩ := HT.out.turn hSt6 hb6 hk6
          have e0 := blk_cell hbox6 0
          have e1 := blk_cell hbox6 1
          have p0 := (HCl.out wc hbel6).1
          have p1 := (HCl.out wc hbel6).2
          have hkn : KnOk s.data.toList L := by rw [hsS]; exact HT.out.st.kn
          have hgd : Good s.data.toList L := by rw [hsS]; exact HT.out.st.good
          have hrn : ∀ W, Below wc.heap.size wc W → Calls Tryd.prog 17 #[.agg #[.string s, .slice Av L.length cv], .int .u16 (kd : Nat), .string d] W fun e w' => ∃ A' m' cap', e = .returned (.tuple #[.agg #[.string ⟨S2.toArray⟩, .slice A' m' cap'], .int .i64 bad]) ∧ Plc w1.heap.size (.slice A' m' cap') L2 w' ∧ Below W.heap.size W w' := fun W hW => by
            have h := refput_any w1.heap.size s d _ L kd W (hplc6.below hW) hkn hgd (by omega) (Nat.le_trans hbel6.size hW.size) (by omega) hkk
            unfold RpPost at h
            rw [rp_pt, rpE_pt, hsS, HS2.out.1, HS2.out.2.1, HS2.out.2.2] at h
            exact h
          have hal : ∀ o, Below wc.heap.size wc (wc.alloc o) := fun o => (Below.refl _ wc).alloc (Nat.le_refl _) o
          have HBd := Lib.hid (And.intro (show Below wc.heap.size wc wc.drew from (Below.refl _ wc).drew) (show ∀ o, Below wc.heap.size wc (wc.alloc o).drew from fun o => (hal o).drew))
          have d0 : ∀ o, (wc.alloc o).cell? ⟨w4.heap.size, 0, none⟩ = some (.string s) := fun o => ((hal o).cell (p := ⟨w4.heap.size, 0, none⟩) (heap_lt hbox6)).trans e0
          have d1 : ∀ o, (wc.alloc o).cell? ⟨w4.heap.size, 1, none⟩ = some (.slice Av L.length cv) := fun o => ((hal o).cell (p := ⟨w4.heap.size, 1, none⟩) (heap_lt hbox6)).trans e1
          have d2 : ∀ o, (wc.alloc o).cell? ⟨ab, ao + k * 2, none⟩ = some (.int .u16 (kd : Nat)) := fun o => ((hal o).cell (p := ⟨ab, ao + k * 2, none⟩) (show ab < _ from Nat.lt_of_lt_of_le hab hbel6.size)).trans p0
          have d3 : ∀ o, (wc.alloc o).cell? ⟨ab, ao + k * 2 + 1, none⟩ = some (.string d) := fun o => ((hal o).cell (p := ⟨ab, ao + k * 2 + 1, none⟩) (show ab < _ from Nat.lt_of_lt_of_le hab hbel6.size)).trans p1
          have HRn := Lib.hid hrn
          have HB6 := Lib.hid hbox6
          have HSt6 := Lib.hid hSt6
          have HBel6 := Lib.hid hbel6
          have HsS := Lib.hid hsS
          clear hbox6 hplc6 hb6 hk6 hc0 hc1 hSt6 hbel6 hrn hkn hgd hal HPut HS2 hsS c1 c2
          go_upto_region 10 with (fail)
          go_cut [8, 9] (fun t q wx => q = .int .i64 bad ∧ Nx w1.heap.size w1.heap.size w4.heap.size S2 L2 (.cells #[.string s, .slice Av L.length cv] 38 (0, 0)) ⟨S2.toArray⟩ w1 t wx)
          case first =>
            have hH : Hd4 w4.heap.size ab (ao + k * 2) (ao + k * 2 + 1) s (.slice Av L.length cv) kd d wc := ⟨e0, e1, p0, p1⟩
            have HH := Lib.hid hH
            have hne1 : wc.heap.size ≠ w4.heap.size := Nat.ne_of_gt (heap_lt HB6.out)
            have hne2 : wc.heap.size ≠ ab := Nat.ne_of_gt (Nat.lt_of_lt_of_le hab HBel6.out.size)
            have HNe := Lib.hid (And.intro hne1 hne2)
            clear hH hne1 hne2
            go_region_held (fun w' => w'.cell? ⟨w4.heap.size, 0, none⟩ = some (.string s) ∧ w'.cell? ⟨w4.heap.size, 1, none⟩ = some (.slice Av L.length cv) ∧ w'.cell? ⟨ab, ao + k * 2, none⟩ = some (.int .u16 (kd : Nat)) ∧ w'.cell? ⟨ab, ao + k * 2 + 1, none⟩ = some (.string d))
              (first | exact HH.out | exact HH.out.al _ | exact HH7.out | exact HH7.out.al _ | exact (HH7.out.set HNe.out.1 HNe.out.2 _ _).set HNe.out.1 HNe.out.2 _ _)
              (first
              | (go_at_call 17; refine (HRn.out _ HBd.out.1).mono ?_; rintro e w7 ⟨A', m', cp', rfl, hP7, hb7⟩; have HB7 := Lib.hid (show Below wc.heap.size wc w7 from ⟨hb7.os, hb7.tape, hb7.output, hb7.size, hb7.block⟩); have HH7 := Lib.hid (HH.out.below HB7.out); have HP7 := Lib.hid hP7; clear hP7 hb7)
              | (go_at_call 17; refine (HRn.out _ (HBd.out.2 _)).mono ?_; rintro e w7 ⟨A', m', cp', rfl, hP7, hb7⟩; have HZ7 := Lib.hid ((hb7.block wc.heap.size (by simp)).trans (heap_alloc_new wc _)); have HB7 := Lib.hid ((HBd.out.2 _).trans (hb7.mono (by simp))); have HH7 := Lib.hid (HH.out.below HB7.out); have HP7 := Lib.hid hP7; have z0 := blk_cell HZ7.out 0; have z1 := blk_cell HZ7.out 1; have f0 := blk_frozen HZ7.out 0; have f1 := blk_frozen HZ7.out 1; clear hP7 hb7))
            all_goals
              go_wp2_with fail
              go_meet
              case rel =>
                first
                | exact ⟨rfl, nxA HSt6.out HB6.out HBel6.out HB7.out HP7.out HBel6.out.size⟩
                | exact ⟨rfl, nxB HSt6.out HB6.out HBel6.out HB7.out HP7.out HBel6.out.size HZ7.out⟩
          case rest =>
            obtain ⟨rfl, y, A', m', c', rfl, hy, hbx, hst, hpl7, hbel⟩ := hcut
            clear e0 e1 d0 d1 d2 d3 p0 p1 HRn HB6 HSt6 HBel6 HBd
            have e0 := blk_cell hy 0
            have e1 := blk_cell hy 1
            have z0 := blk_cell hbx 0
            have z1 := blk_cell hbx 1
            have f0 := blk_frozen hbx 0
            have f1 := blk_frozen hbx 1
            have hT8 := Two.set (y := ⟨S2.toArray⟩) hst hbx hpl7 hbel (by omega)
            have HT8 := Lib.hid hT8
            have hS2b : S2.length ≤ 700 * (k + 1) := by omega
            clear hy hbx hst hpl7 hbel hT8 hpl
            go_wp2_with fail
            obtain ⟨W8, hW8⟩ : ∃ W8, (wc.setCell ⟨w4.heap.size, 0, none⟩ (.string ⟨S2.toArray⟩)).setCell ⟨w4.heap.size, 1, none⟩ (.slice A' m' c') = W8 := ⟨_, rfl⟩
            have h8 := HT8.out
            rw [hW8] at h8 ⊢
            have m0 : W8.cell? ⟨w4.heap.size, 0, none⟩ = some (.string ⟨S2.toArray⟩) := blk_cell h8.box 0
            have H8 := Lib.hid h8
            have hse := self_is ⟨S2.toArray⟩
            have hbb : (bad == bad) = true := by simp
            clear h8 hW8 HT8 e0 e1 z0 z1 f0 f1
            go_quiet ((go_at_call 18; exact out_q2 _ _ _ _ _ _ H8.out.st.is))
            go_wp2
            go_roundw
            case rel => exact ⟨k + 1, S2, L2, ⟨S2.toArray⟩, _, hlt, hk2, by go_num, ⟨⟨H8.out.st.is, H8.out.st.kn, H8.out.st.good⟩, H8.out.box, H8.out.plc, ⟨H8.out.bel.os, H8.out.bel.tape, H8.out.bel.output, H8.out.bel.size, H8.out.bel.block⟩⟩, rfl, hS2b⟩
            case measure => simp [intOf]; omega
      · have c1 : decide ((700 : Int) < (d.size : Int)) = true := by simp; omega
        have c2 : 700 < d.size := by omega
        have HBf := Lib.hid (bthen HB1.out HT.out.bel)
        go_wp2_with fail
        go_ret
        exact ⟨rfl, HBf.out⟩
    · have HLr := Lib.hid (HL1.out.below H01.out HT.out.bel)
      have HBf := Lib.hid (bthen HB1.out HT.out.bel)
      by_cases hlt : k < l.length
      · have hk2 : ¬ k < 20 := fun h => hgo ⟨hlt, h⟩
        have g1 : decide ((k : Int) < (l.length : Int)) = true := by simp; omega
        have g2 : decide ((k : Int) < 20) = false := by simp; omega
        have g3 : decide (k < l.length) = true := by simpa using hlt
        have g4 : decide (k < 20) = false := by simpa using hk2
        clear hgo
        go_wp2_with fail
        refine (rput_nil 1 ⟨#[97, 98, 99, 100]⟩ (by decide) (by decide) _ HLr.out).mono ?_
        rintro e w9 ⟨rfl, hb9⟩
        go_wp2_with fail
        go_ret
        exact ⟨rfl, bthen HBf.out hb9⟩
      · have g1 : decide ((k : Int) < (l.length : Int)) = false := by simp; omega
        have g3 : decide (k < l.length) = false := by simpa using hlt
        clear hgo
        go_wp2_with fail
        refine (rput_nil 1 ⟨#[97, 98, 99, 100]⟩ (by decide) (by decide) _ HLr.out).mono ?_
        rintro e w9 ⟨rfl, hb9⟩
        go_wp2_with fail
        go_ret
        exact ⟨rfl, bthen HBf.out hb9⟩
end Go.Proofs.YtccmppnindkgfaaDoor
