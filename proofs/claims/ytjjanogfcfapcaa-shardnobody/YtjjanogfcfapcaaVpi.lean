/- The contracts of the program's shard: makeRoom. -/
import Derived.Test.YtjjanogfcfapcaaVph
namespace Go.Proofs.Ytjjanogfcfapcaa
open Go.RowKit
set_option linter.unusedVariables false

theorem pure_cnt {M : Ms Ev} {P : Ms En} (h : pure M = P) : cnt M.c = cnt P.c := by rw [← h, pure_c, cnt_pc]
theorem pure_first {M : Ms Ev} {P : Ms En} (h : pure M = P) : firstC M.c = firstC P.c := by rw [← h, pure_c, firstC_pc]
theorem pure_vic {M : Ms Ev} {P : Ms En} (h : pure M = P) : pure (vicM M).1 = (vicM P).1 ∧ (vicM M).2 = (vicM P).2 := by
  have := vicM_pure M
  rw [h] at this
  rw [this]
  exact ⟨rfl, rfl⟩
theorem sl_one {w : World} {g : Nat} {q : Qu} (h : Blk w g 35 (qf q).toArray) : Sl qf w (some ⟨g, 0, none⟩) 1 [q] := by
  refine ⟨(fun e => by cases e), Nat.le_refl _, .inr ⟨g, 0, rfl, h.lt, fun j u hj => ?_⟩⟩
  rw [Nat.zero_add, h.cell j]
  simp only [List.flatMap_cons, List.flatMap_nil, List.append_nil] at hj
  rw [List.getElem?_toArray]
  exact hj
set_option maxRecDepth 100000 in
set_option maxHeartbeats 4000000 in
theorem room_free {w : World} {h : Nat} {K : Ly} {d : Sd} (H : Sh w h K d) (now : Nat) (hf : (firstC d.P.c).isSome = true) :
    Calls Try.prog 40 #[.pointer (some ⟨h, 0, none⟩), .int .u64 (now : Nat)] w fun e w' => e = .returned (.slice none 0 0) ∧ Below w.heap.size w w' := by
  obtain ⟨M, hp, v⟩ := H.ex
  have HL := Lib.hid (len_any_s v)
  have HR := Lib.hid (fun W hb => room_any (v.low (w' := W) hb))
  rw [pure_cnt hp] at HL
  rw [pure_len hp] at HR
  rw [first_cnt] at hf
  have hlt : cnt d.P.c < d.P.c.length := by simpa using hf
  have d1 : decide ((cnt d.P.c : Int) < (d.P.c.length : Nat)) = true := by simp; omega
  clear v hp H hf
  generalize cnt d.P.c = a at *
  generalize d.P.c.length = b at *
  go_enter Try.func40, Try.ntmps40
  go_wp2_with (first
    | (go_at_call 16; (with_reducible (refine HL.out.mono ?_)); rintro e w1 ⟨rfl, hb1⟩; have HB := Lib.hid hb1; clear hb1)
    | (go_at_call 17; (with_reducible (refine (HR.out _ HB.out).mono ?_)); rintro e w2 ⟨rfl, rfl⟩))
  go_ret
  exact ⟨rfl, HB.out⟩
set_option maxRecDepth 100000 in
set_option maxHeartbeats 4000000 in
theorem room_due {w : World} {h : Nat} {K : Ly} {d : Sd} (H : Sh w h K d) (now : Nat) (hf : (firstC d.P.c).isSome = false) (hd : (advS d now).2.length ≠ 0) :
    Calls Try.prog 40 #[.pointer (some ⟨h, 0, none⟩), .int .u64 (now : Nat)] w fun e w' => ∃ A cap, e = .returned (.slice A (advS d now).2.length cap) ∧ Sl qf w' A cap (advS d now).2 ∧ Nw w.heap.size A ∧ Sh w' h K (advS d now).1 ∧ Ch K.X w w' := by
  obtain ⟨M, hp, v⟩ := H.ex
  have HL := Lib.hid (len_any_s v)
  have HR := Lib.hid (fun W hb => room_any (v.low (w' := W) hb))
  have HA := Lib.hid (fun W hb => adv_any (H.low (w' := W) hb) now)
  rw [pure_cnt hp] at HL
  rw [pure_len hp] at HR
  rw [first_cnt] at hf
  have hlt : ¬ cnt d.P.c < d.P.c.length := by simpa using hf
  have d1 : decide ((cnt d.P.c : Int) < (d.P.c.length : Nat)) = false := by simp; omega
  clear v hp H hf
  generalize cnt d.P.c = a at *
  generalize d.P.c.length = b at *
  obtain ⟨G, HG⟩ : ∃ G, Hid (advS d now = G) := ⟨_, Lib.hid rfl⟩
  simp only [HG.out] at HA hd ⊢
  obtain ⟨n, hn⟩ : ∃ n, G.2.length = n := ⟨_, rfl⟩
  have HN := Lib.hid hn
  rw [hn] at hd HA ⊢
  have d2 : decide ((0 : Int) < (n : Nat)) = true := by simp; omega
  have d3 : 0 < n := by omega
  clear hn hd
  go_enter Try.func40, Try.ntmps40
  go_wp2_with (first
    | (go_at_call 16; (with_reducible (refine HL.out.mono ?_)); rintro e w1 ⟨rfl, hb1⟩; have HB := Lib.hid hb1; clear hb1)
    | (go_at_call 17; (with_reducible (refine (HR.out _ HB.out).mono ?_)); rintro e w2 ⟨rfl, rfl⟩)
    | (go_at_call 24; (with_reducible (refine (HA.out _ HB.out).mono ?_)); rintro e w3 ⟨A3, c3, rfl, s3, n3, h3, k3⟩; have HF := Lib.hid (And.intro s3 (And.intro n3 (And.intro h3 k3))); clear s3 n3 h3 k3))
  go_ret
  exact ⟨A3, c3, rfl, HF.out.1, (fun b off e => Nat.le_trans HB.out.size (HF.out.2.1 b off e)), HF.out.2.2.1, (Ch.bel HB.out).trans HF.out.2.2.2⟩
set_option maxRecDepth 100000 in
set_option maxHeartbeats 4000000 in
theorem room_vic {w : World} {h : Nat} {K : Ly} {d : Sd} (H : Sh w h K d) (now : Nat) (hf : (firstC d.P.c).isSome = false) (hd : W.dueL d.l now = []) :
    Calls Try.prog 40 #[.pointer (some ⟨h, 0, none⟩), .int .u64 (now : Nat)] w fun e w' => ∃ A cap, e = .returned (.slice A 1 cap) ∧ Sl qf w' A cap [qAt d.P.c (vicS d).2] ∧ Nw w.heap.size A ∧ Sh w' h K (freeS (vicS d).1 (vicS d).2) ∧ Ch K.X w w' := by
  obtain ⟨M, hp, v⟩ := H.ex
  have HL := Lib.hid (len_any_s v)
  have HR := Lib.hid (fun W hb => room_any (v.low (w' := W) hb))
  have HA := Lib.hid (fun W hb => adv_any (H.low (w' := W) hb) now)
  rw [advS_none hd] at HA
  simp only [List.length_nil] at HA
  rw [pure_cnt hp] at HL
  rw [pure_len hp] at HR
  have hfn : firstC d.P.c = none := by cases hq : firstC d.P.c with | none => rfl | some i => rw [hq] at hf; cases hf
  obtain ⟨vi, hv, hvl, hvu⟩ := vicS_slot H.ok hfn
  rw [first_cnt] at hf
  have hlt : ¬ cnt d.P.c < d.P.c.length := by simpa using hf
  have d1 : decide ((cnt d.P.c : Int) < (d.P.c.length : Nat)) = false := by simp; omega
  have al := vic_alike H.ok.ok
  have hv2 : (vicS d).2 = vi := by unfold vicS; rw [hv]; rfl
  rw [hv2]
  obtain ⟨q, HQE⟩ : ∃ q, Hid (qAt d.P.c vi = q) := ⟨_, Lib.hid rfl⟩
  rw [HQE.out]
  have HVO := Lib.hid (vicS_ok H.ok)
  have hlen : (vicS d).1.P.c.length = d.P.c.length := al.len
  have hvk : vi < (vicS d).1.P.c.length := by rw [hlen]; exact hvl
  have hu2 : us (vicS d).1.P.c vi = true := by rw [show us (vicS d).1.P.c vi = us d.P.c vi from al.us vi]; exact hvu
  have HK := Lib.hid (And.intro hvk (And.intro hu2 (And.intro (freeS_ok (vicS_ok H.ok) hvk) (And.intro hv al))))
  have HSl := Lib.hid (fun q => (show slotOf (vicM d.P).1.c q = slotOf d.P.c q from al.slot H.ok.uq q))
  have HCn := Lib.hid (show cnt (vicM d.P).1.c = cnt d.P.c by
    have e1 : ∀ P : Ms En, cnt P.c = (allM P).length := fun P => by
      rw [← keys_len, keys_all, List.length_map]; rfl
    rw [e1, e1, vicM_all H.ok.ok])
  clear v hp H hf hfn hv hvl hvu hvk hu2 hlen al hd hv2
  generalize cnt d.P.c = a at HL d1 hlt
  generalize d.P.c.length = b at HR d1 hlt
  go_enter Try.func40, Try.ntmps40
  go_upto_region 6 with (first
    | (go_at_call 16; (with_reducible (refine HL.out.mono ?_)); rintro e w1 ⟨rfl, hb1⟩; have HB := Lib.hid hb1; clear hb1)
    | (go_at_call 17; (with_reducible (refine (HR.out _ HB.out).mono ?_)); rintro e w2 ⟨rfl, rfl⟩)
    | (go_at_call 24; (with_reducible (refine (HA.out _ HB.out).mono ?_)); rintro e w3 ⟨A3, c3, rfl, s3, n3, h3, k3⟩; have HF := Lib.hid (And.intro h3 ((Ch.bel HB.out).trans k3)); clear s3 n3 h3 k3))
  obtain ⟨M3, hp3, v3⟩ := HF.out.1.ex
  have hpv := pure_vic hp3
  have hvi : vicI M3 = vi := by unfold vicI; rw [hpv.2, HK.out.2.2.2.1]
  have hvc := vic_sv v3
  rw [hvi] at hvc
  have HVC := Lib.hid hvc
  have HP := Lib.hid hpv.1
  have c0 := v3.c0
  clear hvc hpv hvi hp3 v3
  generalize (vicB M3) = bb at *
  go_upto_region 7 with (go_at_call 53; (with_reducible (refine HVC.out.mono ?_)); rintro e w4 ⟨rfl, v4, k4⟩; have HV4 := Lib.hid (And.intro (v4.fun (fun q => (HSl.out q).symm) HCn.out.symm rfl) (HF.out.2.trans k4)); clear v4 k4)
  have hk4 : vi < (vicM M3).1.c.length := by rw [pure_len HP.out]; exact HK.out.1
  have hu4 : us (vicM M3).1.c vi = true := by rw [pure_us HP.out]; exact HK.out.2.1
  have hR := remove_any HV4.out.1 hk4 hu4
  have hq4 : ((vicM M3).1.c.getD vi Z0).x.e.q = qAt d.P.c vi := by
    rw [pure_x HP.out]
    have := HK.out.2.2.2.2.qAt vi
    exact this
  rw [hq4] at hR
  have hqq : ((vicM d.P).1.c.getD vi Z0).x.q = qAt d.P.c vi := HK.out.2.2.2.2.qAt vi
  have HSH := Lib.hid (fun (w5 : World) (v5 : Sv w5 h K ⟨(vicM M3).1.c.set vi Z0, (vicM M3).1.h⟩ (fun x => if x = qAt d.P.c vi then none else slotOf (vicM d.P).1.c x) (if (slotOf (vicM d.P).1.c (qAt d.P.c vi)).isSome then cnt (vicM d.P).1.c - 1 else cnt (vicM d.P).1.c) (W.delL d.l vi)) => (show Sh w5 h K (freeS (vicS d).1 vi) from ⟨HK.out.2.2.1, _, pure_set HP.out vi Z0, v5.fun (fun q => by rw [← hqq]; exact free_places HVO.out.uq HK.out.1 HK.out.2.1 q) (by rw [← hqq]; exact free_count HVO.out.uq HK.out.1 HK.out.2.1) rfl⟩))
  unfold qV at hR
  have HR5 := Lib.hid hR
  have HX := Lib.hid (fun (i : Nat) (hi : w4.heap.size ≤ i) => HV4.out.1.notX hi)
  clear hR hqq hq4 hu4 hk4 c0
  simp only [HQE.out] at HR5 HSH
  go_wp2_with (go_at_call 42; (with_reducible (refine HR5.out.mono ?_)); rintro e w5 ⟨rfl, v5, k5⟩; have HV5 := Lib.hid (And.intro v5 (And.intro (HV4.out.2.trans k5) k5)); clear v5 k5)
  go_ret
  have hb6 := (Below.refl w5.heap.size w5).alloc (Nat.le_refl _) (Obj.cells (qf q).toArray 35)
  exact ⟨_, 1, rfl, sl_one (blk_new_eq w5 35 (qf q).toArray), (fun b off e => by cases e; exact HV5.out.2.1.size), (HSH.out w5 HV5.out.1).low hb6, HV5.out.2.1.below hb6⟩
end Go.Proofs.Ytjjanogfcfapcaa
