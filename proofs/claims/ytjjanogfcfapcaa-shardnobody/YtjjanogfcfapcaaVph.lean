/- A shard: what its memory and its mathematics say; Advance. -/
import Derived.Test.YtjjanogfcfapcaaVpg
import Derived.Test.YtjjanogfcfapcaaVmd
import Derived.Test.YtjjanogfcfapcaaVwd
namespace Go.Proofs.Ytjjanogfcfapcaa
open Go.RowKit
set_option linter.unusedVariables false

/-- The program's shard h is d. -/
structure Sh (w : World) (h : Nat) (K : Ly) (d : Sd) : Prop where
  ok : d.Ok
  ex : ∃ M : Ms Ev, pure M = d.P ∧ Sv w h K M (slotOf d.P.c) (cnt d.P.c) d.l
theorem Sv.fun {w : World} {h : Nat} {K : Ly} {M : Ms Ev} {f f' : Qu → Option Nat} {N N' : Nat} {l l' : List W.Ti} (v : Sv w h K M f N l) (hf : ∀ q, f q = f' q) (hN : N = N') (hl : l = l') : Sv w h K M f' N' l' := by
  subst hN
  subst hl
  exact ⟨v.up, v.bh, v.sp, v.pm.congr hf, v.wl, v.re⟩
theorem Sh.low {w w' : World} {h : Nat} {K : Ly} {d : Sd} (s : Sh w h K d) (hb : Below w.heap.size w w') : Sh w' h K d := ⟨s.ok, let ⟨M, h1, h2⟩ := s.ex; ⟨M, h1, h2.low hb⟩⟩
theorem pure_len {M : Ms Ev} {P : Ms En} (h : pure M = P) : M.c.length = P.c.length := by rw [← h, pure_c, pc_len]
theorem pure_us {M : Ms Ev} {P : Ms En} (h : pure M = P) (k : Nat) : us M.c k = us P.c k := by rw [← h, pure_c, us_pc]
theorem pure_x {M : Ms Ev} {P : Ms En} (h : pure M = P) (k : Nat) : (M.c.getD k Z0).x.e = (P.c.getD k Z0).x := by rw [← h, pure_c, pc_getD]; rfl
theorem pure_set {M : Ms Ev} {P : Ms En} (h : pure M = P) (k : Nat) (e : Ce Ev) : pure ⟨M.c.set k e, M.h⟩ = ⟨P.c.set k (e.map Ev.e), P.h⟩ := by
  rw [← h]
  show (⟨pc (M.c.set k e), M.h⟩ : Ms En) = ⟨(pc M.c).set k (e.map Ev.e), M.h⟩
  rw [pc_set]
/-- The places behind a slot that was freed. -/
theorem free_places {c : List (Ce En)} (hu : Uq c) {k : Nat} (hk : k < c.length) (huk : us c k = true) (q : Qu) : (if q = (c.getD k Z0).x.q then none else slotOf c q) = slotOf (c.set k Z0) q := (slot_free hu hk huk (e := Z0) rfl q).symm
theorem free_count {c : List (Ce En)} (hu : Uq c) {k : Nat} (hk : k < c.length) (huk : us c k = true) : (if (slotOf c (c.getD k Z0).x.q).isSome then cnt c - 1 else cnt c) = cnt (c.set k Z0) := by
  have h1 : slotOf c (c.getD k Z0).x.q = some k := (slot_some hu).2 ⟨hk, huk, rfl⟩
  have h2 := cnt_set (Z0 : Ce En) c k hk
  rw [huk] at h2
  simp only [if_true, show (Z0 : Ce En).u = false from rfl, Bool.false_eq_true, if_false] at h2
  rw [h1]
  simp only [Option.isSome_some, if_true]
  omega
theorem ownR_ch {X : Nat → Prop} {w w' : World} {B : Nat} {e : TypeId} {k : Nat} {v : Value} {n : Nat} {xs : List Value} (h : w.ownsRow B e k v n xs) (hc : Ch X w w') (hX : ∀ i, X i → i < B) : w'.ownsRow B e k v n xs := by
  refine ⟨h.1, ?_⟩
  rcases h.2 with h1 | ⟨g, cap, cur, h1, h2, h3, h4⟩
  · exact .inl h1
  · exact .inr ⟨g, cap, cur, h1, h2, (hc.block g (heap_lt h3) (fun e => by have := hX g e; omega)).trans h3, h4⟩

set_option maxHeartbeats 1000000 in
theorem adv_nil (now : Nat) (w : World) : Calls Try.prog 24 #[.pointer none, .int .u64 (now : Nat)] w fun e w' => e = .returned (.slice none 0 0) ∧ w' = w := by
  go_enter Try.func24, Try.ntmps24
  go_wp2_with fail
  go_ret
  exact ⟨rfl, rfl⟩
/-- The shard while what is due goes. -/
structure Go1 (w1 wr : World) (h : Nat) (K : Ly) (c0 : List (Ce En)) (hand : Nat) (D : List W.Ti) (lr : List W.Ti) (j : Nat) : Prop where
  ex : ∃ M : Ms Ev, pure M = ⟨freeAll c0 (D.take j), hand⟩ ∧ Sv wr h K M (slotOf (freeAll c0 (D.take j))) (cnt (freeAll c0 (D.take j))) lr ∧ ∀ w', Ch K.X w1 w' → ∀ i, Re K.X w' (M.c.getD i Z0).x
  ch : Ch K.X w1 wr
/-- One more goes. -/
theorem Go1.next {w1 w2 : World} {h : Nat} {K : Ly} {c0 : List (Ce En)} {hand : Nat} {D lr : List W.Ti} {j k : Nat} (hj : j < D.length) (hid : D[j].id = k) (hu0 : Uq c0) (hat : (freeAll c0 (D.take j)).getD k Z0 = c0.getD k Z0) (hk : k < c0.length) (hu : us c0 k = true) (hd : W.delL lr k = lr)
    {M : Ms Ev} (hp : pure M = ⟨freeAll c0 (D.take j), hand⟩) (hre : ∀ w', Ch K.X w1 w' → ∀ i, Re K.X w' (M.c.getD i Z0).x) (v2 : Sv w2 h K ⟨M.c.set k Z0, M.h⟩ (fun x => if x = (M.c.getD k Z0).x.e.q then none else slotOf (freeAll c0 (D.take j)) x) (if (slotOf (freeAll c0 (D.take j)) (M.c.getD k Z0).x.e.q).isSome then cnt (freeAll c0 (D.take j)) - 1 else cnt (freeAll c0 (D.take j))) (W.delL lr k)) (hc : Ch K.X w1 w2) :
    Go1 w1 w2 h K c0 hand D lr (j + 1) := by
  have hx := pure_x hp k
  simp only at hx
  have hs : freeAll c0 (D.take (j + 1)) = (freeAll c0 (D.take j)).set k Z0 := by
    rw [List.take_add_one, List.getElem?_eq_getElem hj]
    show freeAll c0 (D.take j ++ [D[j]]) = _
    rw [freeAll_snoc, hid]
    rfl
  have hk2 : k < (freeAll c0 (D.take j)).length := by rw [freeAll_len]; exact hk
  have hu2 : us (freeAll c0 (D.take j)) k = true := by unfold us at hu ⊢; rw [hat]; exact hu
  refine ⟨⟨⟨M.c.set k Z0, M.h⟩, ?_, ?_, fun w' hw i => ?_⟩, hc⟩
  · rw [hs, pure_set hp k Z0]
    rfl
  · rw [hs]
    refine v2.fun (fun q => ?_) ?_ hd
    · rw [hx]
      exact free_places (freeAll_uq hu0) hk2 hu2 q
    · rw [hx]
      exact free_count (freeAll_uq hu0) hk2 hu2
  · rw [getD_set _ _ _ _ (by rw [pure_len hp]; exact hk2)]
    split
    · exact Re.zero _ _
    · exact hre w' hw i
/-- What the loop makes is no part of the shard's. -/
theorem Go1.junk {w1 wr w2 : World} {h : Nat} {K : Ly} {c0 : List (Ce En)} {hand : Nat} {D lr : List W.Ti} {j : Nat} (g : Go1 w1 wr h K c0 hand D lr j) {M0 : Ms Ev} {f0 : Qu → Option Nat} {N0 : Nat} {l0 : List W.Ti} (v0 : Sv w1 h K M0 f0 N0 l0) (hb : Below w1.heap.size wr w2) : Go1 w1 w2 h K c0 hand D lr j := by
  obtain ⟨M, hp, v, hre⟩ := g.ex
  have hc := g.ch.tail hb
  exact ⟨⟨M, hp, v.junk v0 hb (hre w2 hc), hre⟩, hc⟩
set_option maxRecDepth 100000 in
set_option maxHeartbeats 4000000 in
theorem adv_any {w : World} {h : Nat} {K : Ly} {d : Sd} (H : Sh w h K d) (now : Nat) :
    Calls Try.prog 24 #[.pointer (some ⟨h, 0, none⟩), .int .u64 (now : Nat)] w fun e w' => ∃ A cap, e = .returned (.slice A (advS d now).2.length cap) ∧ Sl qf w' A cap (advS d now).2 ∧ Nw w.heap.size A ∧ Sh w' h K (advS d now).1 ∧ Ch K.X w w' := by
  obtain ⟨i0, hi, hz0, hz1, hz2⟩ := el_of elQ
  obtain ⟨M, hp, v⟩ := H.ex
  have hl64 : d.l.length ≤ 64 := Nat.le_trans (ti_le H.ok.ti) H.ok.ok.n64
  have HC := Lib.hid (W.due_new 200 W.sort200 (by omega) now v.wl (Nat.le_trans (List.takeWhile_sublist _).length_le (by omega)) (by omega))
  have HV := Lib.hid (And.intro v hp)
  have HX := Lib.hid (fun (i : Nat) (hi : K.X i) => v.xlt hi)
  have HO := Lib.hid H.ok
  have c2 := v.c2
  have HD := Lib.hid (fun j hj => And.intro (due_at H.ok.ti now j hj) (due_slot H.ok.ti now j hj))
  have HRD := Lib.hid (fun x hx => rest_del H.ok.ti.ord now (x := x) hx)
  have HA := Lib.hid (advS_ok H.ok now)
  have hD64 : (W.dueL d.l now).length ≤ 64 := Nat.le_trans (List.takeWhile_sublist _).length_le hl64
  have HL := Lib.hid (show (advS d now).2.length = (W.dueL d.l now).length by unfold advS goneQ; rw [List.length_map])
  have HQ := Lib.hid (show ∀ j (hj : j < (W.dueL d.l now).length), (advS d now).2[j]? = some (qAt d.P.c (W.dueL d.l now)[j].id.toNat) from fun j hj => by
    show (goneQ d.P.c (W.dueL d.l now))[j]? = _
    unfold goneQ
    rw [List.getElem?_map, List.getElem?_eq_getElem hj]
    rfl)
  rw [HL.out]
  clear v hp H hl64
  go_enter Try.func24, Try.ntmps24
  go_wp2_with (go_at_call 44; (with_reducible (refine HC.out.mono ?_)); rintro e w1 ⟨A1, k1, rfl, hn1, hnw, hw1, hf1⟩; have HN := Lib.hid (And.intro hn1 hnw); have HV1 := Lib.hid (HV.out.1.wheel hw1 hf1); clear hn1 hnw hw1 hf1)
  go_loopw [5, 7, 17] (fun v _ x wr => ∃ j : Nat, j ≤ (W.dueL d.l now).length ∧ x = .int .i64 j ∧ wr.ownsRow w1.heap.size 35 3 v j (((advS d now).2.take j).flatMap qf) ∧ Go1 w1 wr h K d.P.c d.P.h (W.dueL d.l now) (W.restL d.l now) j) (fun _ _ x _ => (W.dueL d.l now).length - (intOf x).toNat)
  case atStart => exact ⟨0, Nat.zero_le _, rfl, World.ownsRow_nil _ _ _ _, ⟨⟨M, HV.out.2, HV1.out.1, fun w' hw i => (HV1.out.1.re i).ch hw⟩, Ch.refl _ _⟩⟩
  case round =>
    obtain ⟨j, hj, rfl, hown, hgo⟩ := hrel
    obtain ⟨Av, cv, rfl⟩ := ownR_form hown
    by_cases hlt : j < (W.dueL d.l now).length
    · have d1 : decide ((j : Int) < ((W.dueL d.l now).length : Nat)) = true := by simp; omega
      obtain ⟨b, off, hA1, hbs, hcb⟩ := HN.out.1 j (by rw [List.length_map]; exact hlt)
      subst hA1
      have e0 := hgo.ch.cell hcb (fun e => by have := HX.out b e; have := HN.out.2 b off rfl; omega)
      rw [List.getElem_map] at e0
      obtain ⟨hat, k, hid, hk, hu⟩ := HD.out j hlt
      rw [hid] at e0 hat
      rw [Int.toNat_natCast] at hat
      have s0 : (0 : Int) ≤ (j : Nat) := by omega
      have s1 : (j : Int) < ((W.dueL d.l now).length : Nat) := by omega
      obtain ⟨M1, hp1, v1, hre1⟩ := hgo.ex
      have hk1 : k < M1.c.length := by rw [pure_len hp1]; show k < (freeAll _ _).length; rw [freeAll_len]; exact hk
      have hu1 : us M1.c k = true := by rw [pure_us hp1]; show us (freeAll _ _) k = true; unfold us at hu ⊢; rw [hat]; exact hu
      have hq1 : (M1.c.getD k Z0).x.e.q = qAt d.P.c k := by rw [pure_x hp1]; show ((freeAll _ _).getD k Z0).x.q = _; rw [hat]; rfl
      have hdel : W.delL (W.restL d.l now) k = W.restL d.l now := by rw [← hid]; exact HRD.out _ (List.getElem_mem hlt)
      have HG := Lib.hid (fun w2 v2 hc => Go1.next (w1 := w1) (w2 := w2) (h := h) (K := K) (hand := d.P.h) hlt hid HO.out.uq hat hk hu hdel hp1 hre1 v2 hc)
      have hR := remove_any v1 hk1 hu1
      rw [hq1] at hR HG
      have hQ := HQ.out j hlt
      rw [hid, Int.toNat_natCast] at hQ
      have HQ2 := Lib.hid hQ
      unfold qV at hR
      have HR := Lib.hid hR
      have HOC := Lib.hid (And.intro hown hgo.ch)
      clear hR hQ hq1 hu1 hk1 v1 hp1 hown hgo hat hid hk hu hdel hcb hbs hre1
      generalize qAt d.P.c k = q at *
      go_upto_region 7 with (fail)
      go_wp2_with (first
        | (go_at_call 42; (with_reducible (refine HR.out.mono ?_)); rintro e w2 ⟨rfl, v2, hc2⟩; have HG2 := Lib.hid (HG.out w2 v2 (HOC.out.2.trans hc2)); have HO5 := Lib.hid ((ownR_ch HOC.out.1 hc2 (fun i hi => Nat.lt_of_lt_of_le (HX.out i hi) HV1.out.2.size)).alloc (Obj.cells #[.string q.n, .int .u16 (q.k : Nat), .int .u16 (q.c : Nat)] 35)); have HB5 := Lib.hid (HOC.out.2.trans hc2).size; clear v2 hc2)
        | (at_builtin; (refine wpList_append_own _ rfl _ _ 43 rfl w1.heap.size 35 i0 (qV ⟨⟨#[]⟩, 0, 0⟩) 3 24 Try.underlying43 hi hz0 hz1 hz2 rfl (by decide) _ _ _ rfl HO5.out ⟨w2.heap.size, 0, none⟩ 1 1 (qf q) rfl rfl (newQ w2 q) ?q3 ?q4 ?q5 ?q6 ?_)))
      case q3 => intro u hu; simp [qf] at hu; rcases hu with rfl | rfl | rfl <;> rfl
      case q4 => unfold maxLen; omega
      case q5 => omega
      case q6 => have := HB5.out; simp; omega
      intro v' w6 hown2 hgrow hnil
      have ht : (advS d now).2.take (j + 1) = (advS d now).2.take j ++ [q] := by rw [List.take_add_one, HQ2.out]; rfl
      rw [show ((advS d now).2.take j).flatMap qf ++ qf q = ((advS d now).2.take (j + 1)).flatMap qf by rw [ht, List.flatMap_append]; simp] at hown2
      have hb6 := ((Below.refl w1.heap.size w2).alloc HB5.out (Obj.cells #[.string q.n, .int .u16 (q.k : Nat), .int .u16 (q.c : Nat)] 35)).grown hgrow (by have := HB5.out; simp; omega) (fun r hr => (HO5.out.lt r hr).1)
      have HF := Lib.hid (And.intro hown2 (HG2.out.junk HV1.out.1 hb6))
      clear hown2 hgrow hnil hb6 ht
      go_wp2_with fail
      go_roundw
      case rel => exact ⟨j + 1, hlt, by go_num, HF.out.1, HF.out.2⟩
      case measure => simp [intOf]; omega
    · obtain rfl : j = (W.dueL d.l now).length := by omega
      have d1 : decide (((W.dueL d.l now).length : Int) < ((W.dueL d.l now).length : Nat)) = false := by simp
      have hs := hgo.ex
      rw [List.take_length] at hs
      rw [← HL.out, List.take_length] at hown
      have HF := Lib.hid (And.intro (Sl.owned qf_len hown) (And.intro (show Sh wr h K (advS d now).1 from ⟨HA.out, let ⟨M, a, b, _⟩ := hs; ⟨M, a, b⟩⟩) (HV1.out.2.trans hgo.ch)))
      clear hown hgo hs
      go_wp2_with fail
      go_ret
      rw [← HL.out]
      exact ⟨Av, cv, rfl, HF.out.1.1, (fun b off e => Nat.le_trans HV1.out.2.size (HF.out.1.2 b off e)), HF.out.2.1, HF.out.2.2⟩
end Go.Proofs.Ytjjanogfcfapcaa
