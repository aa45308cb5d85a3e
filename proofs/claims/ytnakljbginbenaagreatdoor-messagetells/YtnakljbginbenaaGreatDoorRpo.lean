/- The contract of the document's answer for record data: derrickref04.Put, of SOA data; and of all data. -/
import Derived.Test.YtnakljbginbenaaGreatDoorRpn
namespace Go.Proofs.YtnakljbginbenaaGreatDoor
open Go.RowKit
set_option linter.unusedVariables false

set_option maxRecDepth 100000 in
set_option maxHeartbeats 1000000 in
theorem refput_S (B : Nat) (x d : ByteArray) (v : Value) (L : Kn) (w : World) (hP : Plc B v L w) (hK : KnOk x.data.toList L) (hx : x.size ≤ 900000) (hB : B ≤ w.heap.size) (hd : d.size ≤ 1000) (hm : mayD 6 d = true) (a b : Nat) (S1 S2 : List UInt8 × Kn) (hS : Soa x d L a b S1 S2) :
    Calls Tryz.prog 109 #[.agg #[.string x, v], .int .u16 6, .string d] w fun e w' => RpPost B x L 6 d w e w' := by
  obtain ⟨A, cap, rfl⟩ := hP.form
  have HE := Lib.hid (show rpE 6 d = 0 by unfold rpE; rw [if_pos hm])
  have HM := Lib.hid hm
  have HP := Lib.hid hP
  have HK := Lib.hid hK
  have HS := Lib.hid hS
  have HBx := Lib.hid (Bx.new w x (.slice A L.length cap))
  have hz1 := fun w' => rsize_any d (by omega) w'
  have hz2 := fun w' => rsize_any (d.extract (szN d) d.size) (by rw [ByteArray.size_extract]; omega) w'
  rw [hS.sa] at hz2
  rw [hS.sb] at hz2
  rw [hS.sa] at hz1
  have HZ1 := Lib.hid hz1
  have HZ2 := Lib.hid hz2
  obtain ⟨q1, q2, q3⟩ := hS.le
  have sl1 := sl_from d a q1
  clear hz1 hz2 hm hP hS hK
  go_enter Tryz.func109, Tryz.ntmps109
  go_wp2_with fail
  refine (refmay_any 6 d (by omega) (by decide) _).mono ?_
  rintro e w1 ⟨rfl, hb1⟩
  rw [HM.out]
  have HB1 := Lib.hid (HBx.out.below hb1)
  have HP1 := Lib.hid ((HP.out.below (HBx.out.bel)).below hb1)
  clear hb1
  go_wp2_with fail
  refine (HZ1.out _).mono ?_
  rintro e w2 ⟨rfl, hb2⟩
  have HB2 := Lib.hid (HB1.out.below hb2)
  have HP2 := Lib.hid (HP1.out.below hb2)
  clear hb2
  go_wp2_with fail
  refine (HZ2.out _).mono ?_
  rintro e w3 ⟨rfl, hb3⟩
  have HB3 := Lib.hid (HB2.out.below hb3)
  have HP3 := Lib.hid (HP2.out.below hb3)
  clear hb3 sl1 HB1 HP1 HB2 HP2 HZ1 HZ2 HM HP HBx
  have hn2 := HS.out.n2
  have hs2 := HS.out.s2
  have hq := HS.out.eq
  obtain ⟨c, hc⟩ : ∃ c, a + b = c := ⟨_, rfl⟩
  rw [hc] at hn2 hs2 hq q2 q3
  have hac : a ≤ c := by omega
  have H2 := Lib.hid (And.intro hn2 (And.intro hs2 hq))
  clear hn2 hs2 hq
  go_upto_region 15 with (fail)
  rw [show (a : Int) + (b : Int) = ((c : Nat) : Int) by omega]
  clear hc
  have hB3 := HB3.out
  have hP3 := HP3.out
  have hsB : B ≤ w3.heap.size := by have := hB3.bel.size; omega
  have c0 := blk_cell hB3.box 0
  have c1 := blk_cell hB3.box 1
  have d0 := fun o => blk_cell (hB3.al o).box 0
  have d1 := fun o => blk_cell (hB3.al o).box 1
  have hname : ∀ W, Below w3.heap.size w3 W → Calls Tryz.prog 85 #[.agg #[.string x, .slice A L.length cap], .string (d.extract 0 a)] W fun e w' => ∃ A' m' c', e = .returned (.tuple #[.agg #[.string ⟨S1.1.toArray⟩, .slice A' m' c'], .int .i64 (stE (d.extract 0 a))]) ∧ Plc B (.slice A' m' c') S1.2 w' ∧ Below W.heap.size W w' ∧ Below w3.heap.size w3 w' := fun W hW => by
    have h := rname_any B x (d.extract 0 a) _ L W (hP3.below hW) HK.out (by omega) (by have := HS.out.n1; omega) (by have := hW.size; omega)
    rw [HS.out.s1] at h
    exact h.mono fun e w' ⟨A', m', c', h1, h2, h3⟩ => ⟨A', m', c', h1, h2, h3, hW.trans (h3.mono hW.size)⟩
  have hal : ∀ o, Below w3.heap.size w3 (w3.alloc o) := fun o => (Below.refl _ w3).alloc (Nat.le_refl _) o
  have HBd := Lib.hid (And.intro (show Below w3.heap.size w3 w3.drew from (Below.refl _ w3).drew) (show ∀ o, Below w3.heap.size w3 (w3.alloc o).drew from fun o => (hal o).drew))
  generalize stE (d.extract 0 a) = E1 at *
  have HName := Lib.hid hname
  clear hname hB3 hP3 hal
  go_cut [14, 15] (fun t q wx => q = .int .i64 E1 ∧ Ny B w x (.slice A L.length cap) ⟨S1.1.toArray⟩ S1.2 t wx)
  case first =>
    clear H2 HS HE HK
    go_region_with (first
      | (go_at_call 85; refine (HName.out _ HBd.out.1).mono ?_; rintro e w8 ⟨A', m', c', rfl, hP8, hb8, hb8'⟩; have HB8 := Lib.hid hb8'; have HP8 := Lib.hid hP8; clear hP8 hb8 hb8')
      | (go_at_call 85; refine (HName.out _ (HBd.out.2 _)).mono ?_; rintro e w8 ⟨A', m', c', rfl, hP8, hb8, hb8'⟩; have HY8 := Lib.hid ((hb8.block w3.heap.size (by simp)).trans (heap_alloc_new w3 _)); have z0 := blk_cell HY8.out 0; have z1 := blk_cell HY8.out 1; have f0 := blk_frozen HY8.out 0; have f1 := blk_frozen HY8.out 1; have HB8 := Lib.hid hb8'; have HP8 := Lib.hid hP8; clear hP8 hb8 hb8'))
    all_goals
      go_wp2_with fail
      go_meet
      case rel =>
        first
        | exact ⟨rfl, nyA (HB3.out.below HB8.out) HP8.out⟩
        | exact ⟨rfl, nyB (HB3.out.below HB8.out) HP8.out HB3.out.big HY8.out⟩
  case rest =>
    obtain ⟨rfl, y, A1, m1, p1, rfl, hy, hBx, hpl⟩ := hcut
    have hs4 : B ≤ wc.heap.size := by have := hBx.bel.size; omega
    have e0 := blk_cell hy 0
    have e1 := blk_cell hy 1
    have hya : ∀ o, (wc.alloc o).heap[y]? = some (.cells #[.string ⟨S1.1.toArray⟩, .slice A1 m1 p1] 94 (0, 0)) := fun o => (((Below.refl _ wc).alloc (Nat.le_refl _) o).block y (heap_lt hy)).trans hy
    have k0 := fun o => blk_cell (hya o) 0
    have k1 := fun o => blk_cell (hya o) 1
    have hz1 : (⟨S1.1.toArray⟩ : ByteArray).size ≤ 900255 := by rw [mk_size]; have := HS.out.l1; omega
    have hname : ∀ W, Below wc.heap.size wc W → Calls Tryz.prog 85 #[.agg #[.string ⟨S1.1.toArray⟩, .slice A1 m1 p1], .string (d.extract a c)] W fun e w' => ∃ A' m' c', e = .returned (.tuple #[.agg #[.string ⟨S2.1.toArray⟩, .slice A' m' c'], .int .i64 (stE (d.extract a c))]) ∧ Plc B (.slice A' m' c') S2.2 w' ∧ Below W.heap.size W w' ∧ Below wc.heap.size wc w' := fun W hW => by
      have h := rname_any B ⟨S1.1.toArray⟩ (d.extract a c) _ S1.2 W (hpl.below hW) HS.out.k1 (by omega) (by have := H2.out.1; omega) (by have := hW.size; omega)
      rw [mk_list, H2.out.2.1] at h
      exact h.mono fun e w' ⟨A', m', c', h1, h2, h3⟩ => ⟨A', m', c', h1, h2, h3, hW.trans (h3.mono hW.size)⟩
    have hal : ∀ o, Below wc.heap.size wc (wc.alloc o) := fun o => (Below.refl _ wc).alloc (Nat.le_refl _) o
    have HBd2 := Lib.hid (And.intro (show Below wc.heap.size wc wc.drew from (Below.refl _ wc).drew) (show ∀ o, Below wc.heap.size wc (wc.alloc o).drew from fun o => (hal o).drew))
    have HName2 := Lib.hid hname
    have HBc := Lib.hid hBx
    clear hname hBx hpl hy hya hal c0 c1 d0 d1 HName HBd HB3 HP3 HK
    have HSl2 := Lib.hid (HS.out.l2)
    clear HS hz1
    generalize (⟨S1.1.toArray⟩ : ByteArray) = Y1 at *
    generalize stE (d.extract a c) = E2 at *
    obtain ⟨w5, hw5⟩ : ∃ w5, wc = w5 := ⟨_, rfl⟩
    subst hw5
    go_upto_region 16 with (fail)
    go_cut [16, 17] (fun t q wx => q = .int .i64 E2 ∧ Ny B w x (.slice A L.length cap) ⟨S2.1.toArray⟩ S2.2 t wx)
    case first =>
      clear H2 HE HSl2
      go_region_with (first
        | (go_at_call 85; refine (HName2.out _ HBd2.out.1).mono ?_; rintro e w8 ⟨A', m', c', rfl, hP8, hb8, hb8'⟩; have HB8 := Lib.hid hb8'; have HP8 := Lib.hid hP8; clear hP8 hb8 hb8')
        | (go_at_call 85; refine (HName2.out _ (HBd2.out.2 _)).mono ?_; rintro e w8 ⟨A', m', c', rfl, hP8, hb8, hb8'⟩; have HY8 := Lib.hid ((hb8.block wc.heap.size (by simp)).trans (heap_alloc_new wc _)); have z0 := blk_cell HY8.out 0; have z1 := blk_cell HY8.out 1; have f0 := blk_frozen HY8.out 0; have f1 := blk_frozen HY8.out 1; have HB8 := Lib.hid hb8'; have HP8 := Lib.hid hP8; clear hP8 hb8 hb8'))
      all_goals
        go_wp2_with fail
        go_meet
        case rel =>
          first
          | exact ⟨rfl, nyA (HBc.out.below HB8.out) HP8.out⟩
          | exact ⟨rfl, nyB (HBc.out.below HB8.out) HP8.out HBc.out.big HY8.out⟩
    case rest =>
      obtain ⟨rfl, y2, A2, m2, p2, rfl, hy2, hBx2, hpl2⟩ := hcut
      clear e0 e1 k0 k1 HName2 HBd2 HBc
      have e0 := blk_cell hy2 0
      have e1 := blk_cell hy2 1
      have hz2 : (⟨S2.1.toArray⟩ : ByteArray).size ≤ 900510 := by rw [mk_size]; have := HSl2.out; omega
      have hzT : (d.extract c d.size).size ≤ 1000 := by rw [ByteArray.size_extract]; omega
      have hrY : (⟨S2.1.toArray⟩ : ByteArray) ++ d.extract c d.size = ⟨(rp x.data.toList L 6 d).1.toArray⟩ := by rw [H2.out.2.2]; apply ba_ext; simp
      have hrL : S2.2 = (rp x.data.toList L 6 d).2 := by rw [H2.out.2.2]
      have HRY := Lib.hid (And.intro hrY hrL)
      have HBc2 := Lib.hid hBx2
      have HPc2 := Lib.hid hpl2
      have q4 : (c : Int) ≤ (d.size : Int) := by omega
      clear hrY hrL hy2 hBx2 hpl2 H2 HSl2
      generalize (⟨S2.1.toArray⟩ : ByteArray) = Y2 at *
      go_wp2_with fail
      go_region_with (go_at_call 86; refine (radd_any Y2 (d.extract c d.size) _ A2 m2 p2 rfl (by omega) _).mono ?_; rintro e w9 ⟨rfl, hb9⟩; have HBe9 := Lib.hid (show Below wc.heap.size wc w9 from ⟨hb9.os, hb9.tape, hb9.output, hb9.size, hb9.block⟩); have HB9 := Lib.hid (HBc2.out.below HBe9.out); have z0 := blk_cell HB9.out.res 0; have z1 := blk_cell HB9.out.res 1; have f0 := blk_frozen HB9.out.res 0; have f1 := blk_frozen HB9.out.res 1; clear hb9)
      all_goals
        go_wp2_with fail
        obtain ⟨t1, t2, t3⟩ := Bx.done (y := Y2 ++ d.extract c d.size) HB9.out (HPc2.out.below HBe9.out)
        refine ret_pack2 rfl rfl rfl rfl t1 ⟨A2, m2, p2, ?_, ?_, t3⟩
        · rw [← HRY.out.1, HE.out]; rfl
        · rw [← HRY.out.2]; exact t2

set_option maxHeartbeats 1000000 in
theorem refput_any (B : Nat) (x d : ByteArray) (v : Value) (L : Kn) (k : Nat) (w : World) (hP : Plc B v L w) (hK : KnOk x.data.toList L) (hG : Good x.data.toList L) (hx : x.size ≤ 900000) (hB : B ≤ w.heap.size) (hd : d.size ≤ 1000) (hk : k < 65536) :
    Calls Tryz.prog 109 #[.agg #[.string x, v], .int .u16 (k : Nat), .string d] w fun e w' => RpPost B x L k d w e w' := by
  cases hm : mayD k d with
  | false => exact refput_no B x d v L k w hP (by omega) hk hm
  | true =>
    by_cases hN : k = 2 ∨ k = 5 ∨ k = 12
    · exact refput_N B x d v L k w hP hK (by omega) hB (by omega) hN hm
    · by_cases h15 : k = 15
      · subst h15; exact refput_M B x d v L w hP hK hx hB hd hm
      · by_cases h6 : k = 6
        · subst h6
          obtain ⟨a, b, S1, S2, hS⟩ := soa_parts hK hG hm
          exact refput_S B x d v L w hP hK hx hB hd hm a b S1 S2 hS
        · exact refput_O B x d v L k w hP (by omega) (by omega) hk hN h15 h6 hm
end Go.Proofs.YtnakljbginbenaaGreatDoor
