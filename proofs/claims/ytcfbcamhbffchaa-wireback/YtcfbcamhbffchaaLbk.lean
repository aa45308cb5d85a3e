/- The walk of derricklaw03.WireBack: it returns true, whatever the argument. -/
import Derived.Test.YtcfbcamhbffchaaWbk
namespace Go.Proofs.Ytcfbcamhbffchaa
open Go.RowKit
set_option linter.unusedVariables false

/-- A pack with two slices of numbers. -/
structure Bk (B b : Nat) (S : List UInt8) (L : Kn) (v u : Value) (ats ends : List Nat) (w : World) : Prop where
  st : St B b S L w
  a : Ints B v ats w
  e : Ints B u ends w
  apart : Apart v u
theorem Bk.below {B b : Nat} {S : List UInt8} {L : Kn} {v u : Value} {ats ends : List Nat} {w w' : World} (h : Bk B b S L v u ats ends w) (hb : Below w.heap.size w w') : Bk B b S L v u ats ends w' := ⟨h.st.below hb, h.a.below hb, h.e.below hb, h.apart⟩
theorem Bk.addA {B b : Nat} {S : List UInt8} {L : Kn} {v u v' : Value} {ats ends : List Nat} {w w' : World} {o : Obj} (h : Bk B b S L v u ats ends w) (x : Nat) (hown : w'.ownsRow B 3 1 v' (ats.length + 1) (ints ats ++ [.int .i64 (x : Nat)])) (hg : (w.alloc o).grownBy w' v.ownBlock)
    (hloc : v'.ownBlock = v.ownBlock ∨ v'.ownBlock = some (w.alloc o).heap.size) : Bk B b S L v' u (ats ++ [x]) ends w' := by
  refine ⟨(h.st.alloc o).kept hg (fun g e => ?_), ?_, (h.e.alloc o).other hg h.apart.symm.ne, h.apart.step h.e (by simpa using hloc)⟩
  · obtain ⟨_, cur, h1⟩ := ints_is (h.a.alloc o) g e
    exact ⟨cur, 3, (0, 0), by decide, by decide, h1⟩
  · unfold Ints
    rw [ints_snoc, List.length_append]
    exact hown
theorem Bk.addE {B b : Nat} {S : List UInt8} {L : Kn} {v u u' : Value} {ats ends : List Nat} {w w' : World} {o : Obj} (h : Bk B b S L v u ats ends w) (x : Nat) (hown : w'.ownsRow B 3 1 u' (ends.length + 1) (ints ends ++ [.int .i64 (x : Nat)])) (hg : (w.alloc o).grownBy w' u.ownBlock)
    (hloc : u'.ownBlock = u.ownBlock ∨ u'.ownBlock = some (w.alloc o).heap.size) : Bk B b S L v u' ats (ends ++ [x]) w' := by
  refine ⟨(h.st.alloc o).kept hg (fun g e => ?_), (h.a.alloc o).other hg h.apart.ne, ?_, (h.apart.symm.step h.a (by simpa using hloc)).symm⟩
  · obtain ⟨_, cur, h1⟩ := ints_is (h.e.alloc o) g e
    exact ⟨cur, 3, (0, 0), by decide, by decide, h1⟩
  · unfold Ints
    rw [ints_snoc, List.length_append]
    exact hown
theorem Bk.turn {B b : Nat} {S S2 : List UInt8} {L L2 : Kn} {v u : Value} {ats ends : List Nat} {w w' : World} (h : Bk B b S L v u ats ends w) (hs : St B b S2 L2 w') (hk : Kp w w') : Bk B b S2 L2 v u ats ends w' := ⟨hs, h.a.kp hk, h.e.kp hk, h.apart⟩
theorem grown_below {B : Nat} {w0 w w' : World} {v : Value} {xs : List Nat} {o : Obj} (hb : Below B w0 w) (hB : B ≤ w.heap.size) (hg : (w.alloc o).grownBy w' v.ownBlock) (h : Ints B v xs w) : Below B w0 w' :=
  (hb.alloc hB o).grown hg (by simp; omega) (fun k e => (ints_is h k e).1)

theorem cell_lt0 {w : World} {p : Addr} {v : Value} (h : w.cell? p = some v) : p.block < w.heap.size := World.block_lt_of_cell? w p h
set_option maxRecDepth 100000 in
set_option maxHeartbeats 4000000 in
theorem back_walk (A : Option Addr) (cap : Nat) (ps : List (ByteArray × Bool)) (hl : ps.length ≤ 9223372036854775807) (hsz : ∀ p ∈ ps, p.1.size ≤ 9223372036854775807) (w : World) (hP : Parts w A ps) :
    Calls Try.prog 5 #[.slice A ps.length cap] w fun e w' => e = .returned (.bool true) ∧ Below w.heap.size w w' := by
  have HS := Lib.hid hsz
  clear hsz
  cases hf : fewB ps with
  | false =>
    go_enter Try.func5, Try.ntmps5
    go_wp2_with fail
    refine (shown_any _).mono ?_; rintro e w1 ⟨rfl, hb1⟩
    go_wp2_with fail
    refine (few_any A cap ps _ (hP.below hb1) hl HS.out).mono ?_; rintro e w2 ⟨rfl, rfl⟩
    rw [hf]
    go_wp2_with fail
    go_ret
    exact ⟨rfl, hb1⟩
  | true =>
    obtain ⟨hl40, hs4⟩ := few_yes hf
    have HF := Lib.hid hf
    have HS4 := Lib.hid hs4
    clear hf hs4
    obtain ⟨i0, hi, hz0, hz1, hz2⟩ := info_parts info3
    go_enter Try.func5, Try.ntmps5
    go_wp2_with fail
    refine (shown_any _).mono ?_; rintro e w1 ⟨rfl, hb1⟩
    go_wp2_with fail
    refine (few_any A cap ps _ (hP.below hb1) hl HS.out).mono ?_; rintro e w2 ⟨rfl, rfl⟩
    rw [HF.out]
    have hP3 := hP.below hb1
    clear hP
    go_wp2_with fail
    refine (new_any _).mono ?_; rintro e w4 ⟨rfl, hI4, hb4⟩
    have hSt4 := St.new hI4
    clear hI4
    go_wp2_with fail
    go_loopw [5, 6, 7] (fun v u i wr => ∃ (k : Nat) (S : List UInt8) (L : Kn) (ats ends : List Nat), k ≤ ps.length ∧ i = .int .i64 k ∧ ats.length = k ∧ ends.length = k ∧ Bk w1.heap.size w1.heap.size S L v u ats ends wr ∧ S.length ≤ 400 * k ∧ Took S ps ats ends ∧ (∀ x ∈ ats, x ≤ 16000) ∧ Below w1.heap.size w1 wr) (fun _ _ i _ => ps.length - (intOf i).toNat)
    case atStart => exact ⟨0, [], [], [], [], Nat.zero_le _, rfl, rfl, rfl, ⟨hSt4, World.ownsRow_nil _ _ _ _, World.ownsRow_nil _ _ _ _, .inl rfl⟩, by simp, (fun j _ h1 => by cases h1), (fun x hx => by cases hx), hb4⟩
    case round =>
      obtain ⟨k, S, L, ats, ends, hk, rfl, hla, hle, hBk, hlen, htook, hsm, hbel⟩ := hrel
      subst hla
      have hsz4 := hbel.size
      have HLE := Lib.hid hle
      clear hle
      have HTook := Lib.hid htook
      have HSm := Lib.hid hsm
      clear htook hsm
      by_cases hlt : ats.length < ps.length
      · have hcells : ∃ ab ao, A = some ⟨ab, ao, none⟩ ∧ ∀ w5, Below w1.heap.size w1 w5 → w5.cell? ⟨ab, ao + ats.length * 2, none⟩ = some (.string ps[ats.length].1) ∧ w5.cell? ⟨ab, ao + ats.length * 2 + 1, none⟩ = some (.bool ps[ats.length].2) := by
          obtain ⟨ab, ao, he, _, _⟩ := hP3 ats.length hlt
          refine ⟨ab, ao, he, fun w5 hb5 => ?_⟩
          obtain ⟨ab', ao', he', _, h1, h2⟩ := (hP3.below hb5) ats.length hlt
          rw [he] at he'
          cases he'
          exact ⟨h1, h2⟩
        obtain ⟨ab, ao, rfl, hcl⟩ := hcells
        have HCl := Lib.hid hcl
        have hs4 := HS4.out ps[ats.length] (List.getElem_mem hlt)
        have hst := hBk.st
        obtain ⟨Av, cv, rfl⟩ := own_form hBk.a
        obtain ⟨Au, cu, rfl⟩ := own_form hBk.e
        obtain ⟨q, hq⟩ : ∃ q, ps[ats.length] = q := ⟨_, rfl⟩
        rw [hq] at hs4 HCl
        have HQ := Lib.hid hq
        have hrow := hBk.a
        unfold Ints at hrow
        clear hcl hq
        obtain ⟨qs, qr⟩ := q
        simp only at hs4 HCl
        go_wp2_with fail
        refine (len_any _ _ _ _ _ hst.is).mono ?_; rintro e w5 ⟨rfl, rfl⟩
        have HRow := Lib.hid hrow
        clear hst hrow
        have hsm2 : ∀ x ∈ ats ++ [S.length], x ≤ 16000 := fun x hx => by
          rcases List.mem_append.1 hx with h | h
          · exact HSm.out x h
          · rw [List.mem_singleton.1 h]; omega
        have HSm2 := Lib.hid hsm2
        clear hsm2
        cases qr with
        | true =>
          obtain ⟨S2, hS2⟩ : ∃ S2, S ++ qs.data.toList = S2 := ⟨_, rfl⟩
          have hnew : Took S2 ps (ats ++ [S.length]) (ends ++ [S2.length]) := HTook.out.more hS2.symm _ _ HLE.out.symm (fun h hr => by rw [HQ.out] at hr; cases hr)
          have hlen2 : S2.length ≤ 400 * (ats.length + 1) := by rw [← hS2, List.length_append, ba_len]; omega
          have HNew := Lib.hid hnew
          have HLen := Lib.hid hlen2
          have HS2 := Lib.hid hS2
          clear hnew hlen2 hS2
          go_wp2_with (at_builtin; refine wpList_append_own_at _ rfl _ _ 47 rfl w1.heap.size 3 i0 (.int .i64 0) 1 8 Try.underlying47 hi hz0 hz1 hz2 rfl (by decide) (.slice Av ats.length cv) _ _ rfl (HRow.out.alloc _) ⟨wr.heap.size, 0, none⟩ 1 1 [.int .i64 (S.length : Nat)] rfl rfl (cell_one_new _ _ _) (by simp [Value.oneCell']) (by unfold maxLen; omega) (by omega) (by simp; omega) ?_; intro v' w5 hown' hgrow _ hloc; have hBk5 := hBk.addA S.length hown' hgrow hloc; have hbel5 := grown_below hbel hsz4 hgrow hBk.a; have hc0 := (HCl.out w5 hbel5).1; have hc1 := (HCl.out w5 hbel5).2; clear hown' hgrow hloc)
          refine (add_step _ _ S L qs _ hBk5.st (by omega) hbel5.size).mono ?_
          rintro e w6 ⟨rfl, hSt6, hb6, hk6⟩
          rw [HS2.out] at hSt6
          obtain ⟨L2, hL2⟩ : ∃ L2, L = L2 := ⟨_, rfl⟩
          rw [hL2] at hSt6
          have hel : ends.length ≤ 40 := by rw [HLE.out]; omega
          have hBk6 := hBk5.turn hSt6 hk6
          have hbel6 := hbel5.trans hb6
          have hsz6 := hbel6.size
          have HE6 := Lib.hid hBk6.e
          clear hc0 hc1 hBk5 hbel5 hSt6 hk6 hb6 hBk hbel
          go_wp2_with fail
          refine (len_any _ _ _ _ _ hBk6.st.is).mono ?_; rintro e w7 ⟨rfl, rfl⟩
          go_wp2_with (at_builtin; refine wpList_append_own_at _ rfl _ _ 47 rfl w1.heap.size 3 i0 (.int .i64 0) 1 8 Try.underlying47 hi hz0 hz1 hz2 rfl (by decide) (.slice Au ends.length cu) _ _ rfl (World.ownsRow.alloc HE6.out _) ⟨w6.heap.size, 0, none⟩ 1 1 [.int .i64 (S2.length : Nat)] rfl rfl (cell_one_new _ _ _) (by simp [Value.oneCell']) (by unfold maxLen; omega) (by omega) (by simp; omega) ?_; intro u' w7 hown' hgrow _ hloc; have hBk7 := hBk6.addE S2.length hown' hgrow hloc; have hbel7 := grown_below hbel6 hsz6 hgrow hBk6.e; clear hown' hgrow hloc)
          go_roundw
          case rel => exact ⟨ats.length + 1, S2, L2, ats ++ [S.length], ends ++ [S2.length], hlt, by go_num, by simp, by simp [HLE.out], hBk7, HLen.out, HNew.out, HSm2.out, hbel7⟩
          case measure => simp [intOf]; omega
        | false =>
          obtain ⟨X, hX1, hX2, hX3, _⟩ := (stepped hBk.st.good qs).1.app
          have hback := (stepped hBk.st.good qs).1.back
          obtain ⟨S2, hS2⟩ : ∃ S2, (stp S L qs).1 = S2 := ⟨_, rfl⟩
          rw [hS2] at hX1 hback
          have hnew : Took S2 ps (ats ++ [S.length]) (ends ++ [S2.length]) := HTook.out.more hX1 _ _ HLE.out.symm (fun h hr hm => by rw [HQ.out] at hm ⊢; exact hback hm)
          have hlen2 : S2.length ≤ 400 * (ats.length + 1) := by rw [hX1, List.length_append]; omega
          have HNew := Lib.hid hnew
          have HLen := Lib.hid hlen2
          have HS2 := Lib.hid hS2
          clear hnew hlen2 hS2 hX1 hX2 hX3 hback
          go_wp2_with (at_builtin; refine wpList_append_own_at _ rfl _ _ 47 rfl w1.heap.size 3 i0 (.int .i64 0) 1 8 Try.underlying47 hi hz0 hz1 hz2 rfl (by decide) (.slice Av ats.length cv) _ _ rfl (HRow.out.alloc _) ⟨wr.heap.size, 0, none⟩ 1 1 [.int .i64 (S.length : Nat)] rfl rfl (cell_one_new _ _ _) (by simp [Value.oneCell']) (by unfold maxLen; omega) (by omega) (by simp; omega) ?_; intro v' w5 hown' hgrow _ hloc; have hBk5 := hBk.addA S.length hown' hgrow hloc; have hbel5 := grown_below hbel hsz4 hgrow hBk.a; have hc0 := (HCl.out w5 hbel5).1; have hc1 := (HCl.out w5 hbel5).2; clear hown' hgrow hloc)
          refine (name_step _ _ S L qs _ hBk5.st hbel5.size (by omega) (by omega)).mono ?_
          rintro e w6 ⟨rfl, hSt6, hb6, hk6⟩
          rw [HS2.out] at hSt6
          obtain ⟨L2, hL2⟩ : ∃ L2, (stp S L qs).2 = L2 := ⟨_, rfl⟩
          rw [hL2] at hSt6
          have hel : ends.length ≤ 40 := by rw [HLE.out]; omega
          have hBk6 := hBk5.turn hSt6 hk6
          have hbel6 := hbel5.trans hb6
          have hsz6 := hbel6.size
          have HE6 := Lib.hid hBk6.e
          clear hc0 hc1 hBk5 hbel5 hSt6 hk6 hb6 hBk hbel
          go_wp2_with fail
          refine (len_any _ _ _ _ _ hBk6.st.is).mono ?_; rintro e w7 ⟨rfl, rfl⟩
          go_wp2_with (at_builtin; refine wpList_append_own_at _ rfl _ _ 47 rfl w1.heap.size 3 i0 (.int .i64 0) 1 8 Try.underlying47 hi hz0 hz1 hz2 rfl (by decide) (.slice Au ends.length cu) _ _ rfl (World.ownsRow.alloc HE6.out _) ⟨w6.heap.size, 0, none⟩ 1 1 [.int .i64 (S2.length : Nat)] rfl rfl (cell_one_new _ _ _) (by simp [Value.oneCell']) (by unfold maxLen; omega) (by omega) (by simp; omega) ?_; intro u' w7 hown' hgrow _ hloc; have hBk7 := hBk6.addE S2.length hown' hgrow hloc; have hbel7 := grown_below hbel6 hsz6 hgrow hBk6.e; clear hown' hgrow hloc)
          go_roundw
          case rel => exact ⟨ats.length + 1, S2, L2, ats ++ [S.length], ends ++ [S2.length], hlt, by go_num, by simp, by simp [HLE.out], hBk7, HLen.out, HNew.out, HSm2.out, hbel7⟩
          case measure => simp [intOf]; omega
      · have hkk : ats.length = ps.length := by omega
        have hst := hBk.st
        obtain ⟨Av, cv, rfl⟩ := own_form hBk.a
        obtain ⟨Au, cu, rfl⟩ := own_form hBk.e
        have HA := Lib.hid hBk.a
        have HE := Lib.hid hBk.e
        have HKK := Lib.hid hkk
        have hS16 : S.length ≤ 16000 := by omega
        clear hBk hkk
        go_wp2_with fail
        refine (out_any _ _ _ _ _ hst.is).mono ?_; rintro e w5 ⟨rfl, rfl⟩
        clear hst
        go_wp2_with fail
        go_loopw [9] (fun i w5 => ∃ j : Nat, j ≤ ps.length ∧ i = .int .i64 j ∧ Ints w1.heap.size (.slice Av ats.length cv) ats w5 ∧ Ints w1.heap.size (.slice Au ends.length cu) ends w5 ∧ Below w1.heap.size w1 w5) (fun i _ => ps.length - (intOf i).toNat)
        case atStart => exact ⟨0, Nat.zero_le _, rfl, HA.out, HE.out, hbel⟩
        case round =>
          obtain ⟨j, hj, rfl, hIa, hIe, hbel5⟩ := hrel
          clear hbel hsz4
          have hsz5 := hbel5.size
          by_cases hlt2 : j < ps.length
          · obtain ⟨ab, ao, rfl, hb, hc0, hc1⟩ := (hP3.below hbel5) j hlt2
            have hs4 := HS4.out ps[j] (List.getElem_mem hlt2)
            have hja : j < ats.length := by rw [HKK.out]; exact hlt2
            have hje : j < ends.length := by rw [HLE.out, HKK.out]; exact hlt2
            have htk := HTook.out j hlt2 hja hje
            obtain ⟨ga, hga, _, hca⟩ := hIa.at j hja
            obtain ⟨ge, hge, _, hce⟩ := hIe.at j hje
            have ha16 := HSm.out ats[j] (List.getElem_mem hja)
            have hja2 : (j : Int) < (ats.length : Int) := by omega
            have hje2 : (j : Int) < (ends.length : Int) := by omega
            subst hga hge
            have HIa := Lib.hid hIa
            have HIe := Lib.hid hIe
            have hP9 : ∀ w9, Below wr.heap.size wr w9 → w9.cell? ⟨ab, ao + j * 2, none⟩ = some (.string ps[j].1) := fun w9 hb9 => by
              obtain ⟨ab', ao', he, _, hc, _⟩ := (hP3.below (bthen hbel5 hb9)) j hlt2
              cases he
              exact hc
            have HP9 := Lib.hid hP9
            clear hP9 hIa hIe
            generalize ats[j] = aj at *
            generalize ends[j] = ej at *
            obtain ⟨q, hq⟩ : ∃ q, ps[j] = q := ⟨_, rfl⟩
            rw [hq] at hc0 hc1 hs4 htk HP9
            have HTk := Lib.hid htk
            clear hq htk
            obtain ⟨qs, qr⟩ := q
            simp only at hc0 hc1 hs4 HTk HP9
            cases qr with
            | true =>
              go_wp2_with fail
              go_roundw
              case rel => exact ⟨j + 1, hlt2, by go_num, HIa.out, HIe.out, hbel5⟩
              case measure => simp [intOf]; omega
            | false =>
              go_wp2_with fail
              refine (may_any qs (by omega) _).mono ?_; rintro e w6 ⟨rfl, hb6⟩
              cases hm : mayB qs with
              | false =>
                go_wp2_with fail
                go_roundw
                case rel => exact ⟨j + 1, hlt2, by go_num, HIa.out.below hb6, HIe.out.below hb6, bthen hbel5 hb6⟩
                case measure => simp [intOf]; omega
              | true =>
                have ht := tk_name hm (HTk.out (by first | rfl | trivial) hm ⟨S.toArray⟩ [] (by simp))
                have HT := Lib.hid ht
                have hca6 : w6.cell? ⟨ga, j, none⟩ = some (.int .i64 (aj : Nat)) := (hb6.cell (by exact cell_lt0 hca)).trans hca
                clear ht hm hc0 hc1
                go_wp2_with fail
                refine (take_any ⟨S.toArray⟩ (aj : Nat) (by show S.length ≤ _; omega) (by unfold maxLen; omega) _).mono ?_; rintro e w7 ⟨rfl, hb7⟩
                rw [HT.out.1, HT.out.2.1, HT.out.2.2]
                have hb67 := bthen hb6 hb7
                have hc7 := HP9.out w7 hb67
                have hce7 : w7.cell? ⟨ge, j, none⟩ = some (.int .i64 (ej : Nat)) := (hb67.cell (by exact cell_lt0 hce)).trans hce
                have hss : (qs.toList == qs.toList) = true := by simp
                clear hca6
                go_wp2_with fail
                go_roundw
                case rel => exact ⟨j + 1, hlt2, by go_num, HIa.out.below hb67, HIe.out.below hb67, bthen hbel5 hb67⟩
                case measure => simp [intOf]; omega
          · go_wp2_with fail
            go_ret
            exact ⟨rfl, bthen hb1 hbel5⟩
end Go.Proofs.Ytcfbcamhbffchaa
