/- The document's Insert whole; its Due (written by tools/gen_emr.py). -/
import Derived.Test.YtnmgeoeppfdnhaaEmq
namespace Go.Proofs.Ytnmgeoeppfdnhaa.D
open Go.RowKit
set_option linter.unusedVariables false
set_option linter.unusedSimpArgs false

theorem rins_any (A : Option Addr) (cap : Nat) (l : List Ev) (hl : l.length ≤ 1000) (room : Int) (x : Ev) (now : Nat) (w : World) (hI : Sl evL w A cap l) :
    Calls Try.prog 23 #[.slice A l.length cap, .int .i64 room, .agg (evL x).toArray, .int .u64 (now : Nat)] w fun e w' => ∃ A' cap', e = .returned (.tuple #[.slice A' (insV l room x now).1.length cap', .int .i64 (insV l room x now).2]) ∧ Sl evL w' A' cap' (insV l room x now).1 ∧ Below w.heap.size w w' := by
  unfold insV
  by_cases hd : x.e.ex ≤ now
  · simp only [if_pos hd]
    exact (ins_late A cap l hl room x now w hI hd).mono (by rintro e w' ⟨h1, h2⟩; exact ⟨A, cap, h1, hI.below' h2, h2⟩)
  · simp only [if_neg hd]
    cases hk : findL (pm l) x.e.q with
    | none =>
      by_cases hr : room ≤ (l.length : Int)
      · simp only [if_pos hr]
        exact (ins_full A cap l hl room x now w hI hd hk hr).mono (by rintro e w' ⟨h1, h2⟩; exact ⟨A, cap, h1, hI.below' h2, h2⟩)
      · simp only [if_neg hr]
        exact ins_new A cap l hl room x now w hI hd hk hr
    | some k =>
      cases hbt : btE (l.getD k default).e x.e now with
      | false =>
        simp only [hbt, Bool.false_eq_true, if_false]
        exact (ins_low A cap l hl room x now w hI hd hk hbt).mono (by rintro e w' ⟨h1, h2⟩; exact ⟨A, cap, h1, hI.below' h2, h2⟩)
      | true =>
        simp only [hbt, if_true]
        exact ins_rep A cap l hl room x now w hI hd hk hbt

theorem tw_take {p : Qu → Bool} : ∀ (l : List Qu) (k : Nat), k ≤ l.length → (∀ i (h : i < l.length), i < k → p l[i] = true) → (∀ h : k < l.length, p l[k] = false) → l.takeWhile p = l.take k ∧ l.dropWhile p = l.drop k
  | [], k, hk, _, _ => by simp
  | a :: l, 0, _, _, h => by
    have h0 : p a = false := h (by simp)
    simp [h0]
  | a :: l, k + 1, hk, h1, h2 => by
    have h0 : p a = true := h1 0 (by simp) (by omega)
    have ih := tw_take l k (by simpa using hk) (fun i hi hik => h1 (i + 1) (by simpa using hi) (by omega)) (fun hlt => h2 (by simpa using hlt))
    simp [h0, ih.1, ih.2]
theorem insQ_at {l : List Qu} {q : Qu} {k : Nat} (hk : k ≤ l.length) (h1 : ∀ i (h : i < l.length), i < k → lessQ l[i] q = true) (h2 : ∀ h : k < l.length, lessQ l[k] q = false) : insQ l q = l.take k ++ [q] ++ l.drop k := by
  have h := tw_take (p := (lessQ · q)) l k hk h1 h2
  unfold insQ
  rw [h.1, h.2]
  simp
def leftV (l : List Ev) (now : Nat) : List Ev := l.filter fun x => decide (now < x.e.ex)
theorem leftV_pure (l : List Ev) (now : Nat) : pm (leftV l now) = leftL (pm l) now := by
  unfold leftV leftL pm
  rw [List.filter_map]
  rfl
theorem leftV_succ (l : List Ev) (now : Nat) (j : Nat) (hj : j < l.length) : leftV (l.take (j + 1)) now = if now < l[j].e.ex then leftV (l.take j) now ++ [l[j]] else leftV (l.take j) now := by
  unfold leftV
  rw [List.take_succ_eq_append_getElem hj, List.filter_append, List.filter_cons]
  by_cases h : now < l[j].e.ex
  · rw [if_pos (by simpa using h), if_pos h]; rfl
  · rw [if_neg (by simpa using h), if_neg h]; simp
def goneV (l : List Ev) (now : Nat) : List Qu := goneL (pm l) now
theorem goneV_succ (l : List Ev) (now : Nat) (j : Nat) (hj : j < l.length) : goneV (l.take (j + 1)) now = if now < l[j].e.ex then goneV (l.take j) now else insQ (goneV (l.take j) now) l[j].e.q := by
  unfold goneV goneL pm
  rw [List.take_succ_eq_append_getElem hj, List.map_append, List.filter_append, List.foldl_append]
  by_cases h : now < l[j].e.ex
  · simp [h]
  · simp [h]
theorem leftV_le (l : List Ev) (now : Nat) (j : Nat) : (leftV (l.take j) now).length ≤ l.length := by
  unfold leftV
  exact Nat.le_trans (List.length_filter_le _ _) (by simp; omega)
theorem goneV_le (l : List Ev) (now : Nat) (j : Nat) : (goneV (l.take j) now).length ≤ l.length := by
  have h := gone_len (pm (l.take j)) now
  have h2 : (pm (l.take j)).length ≤ l.length := by rw [pm_len]; simp; omega
  unfold goneV
  omega
theorem elemQ : (Try.prog).elem 51 = 25 := by kernel_rfl
theorem undQ : (Try.prog).underlying 51 = some (.slice ((Try.prog).elem 51)) := by rw [elemQ]; exact Try.underlying51
theorem sl_to {w : World} {A : Option Addr} {cap k : Nat} {l : List Qu} (h : Sl qf w A cap l) (hk : k ≤ l.length) (W : World) : (Instr.slice 51 (.slice A l.length cap) none (some (.int .i64 (k : Nat))) none).run Try.prog W = .ok (.slice A k cap) W := by
  have hle := h.le
  rw [run_slice_h W 51 A l.length cap undQ .i64 (k : Nat) (by omega) (by omega)]
  have hsz := Try.sizeOf25 W
  rw [elemQ, hsz]
  simp only [Result.andThen, sliced]
  cases A with
  | none => simp
  | some a => simp [Addr.add]
theorem sl_from {w : World} {A : Option Addr} {cap k : Nat} {l : List Qu} (h : Sl qf w A cap l) (hk : k ≤ l.length) : ∃ A' cap', (∀ W, (Instr.slice 51 (.slice A l.length cap) (some (.int .i64 (k : Nat))) none none).run Try.prog W = .ok (.slice A' (l.length - k) cap') W) ∧ ∀ w', Sl qf w' A cap l → Sl qf w' A' cap' (l.drop k) := by
  have hle := h.le
  refine ⟨if cap = k then A else A.map (·.add (k * 3)), cap - k, fun W => ?_, fun w' h => ?_⟩
  · rw [run_slice_l W 51 A l.length cap undQ .i64 (k : Nat) (by omega) (by omega)]
    have hsz := Try.sizeOf25 W
    rw [elemQ, hsz]
    simp only [Result.andThen, sliced]
    simp
  · refine ⟨fun e => ?_, by rw [List.length_drop]; omega, ?_⟩
    · by_cases hc : cap = k
      · omega
      · rw [if_neg hc] at e
        cases A with
        | none => have := h.nl rfl; omega
        | some a => cases e
    · by_cases hd : l.drop k = []
      · exact .inl hd
      · have hlt : k < l.length := by
          by_cases c : k < l.length
          · exact c
          · exact absurd (List.drop_eq_nil_of_le (by omega)) hd
        rcases h.has with h0 | ⟨b, off, rfl, hb, hc⟩
        · rw [h0] at hlt; exact absurd hlt (by simp)
        · refine .inr ⟨b, off + k * 3, ?_, hb, fun j u hu => ?_⟩
          · rw [if_neg (by omega)]
            simp [Addr.add]
          · have hjl : j < (l.drop k).length * 3 := by
              rw [← flat_len (f := qf) (k := 3) qf_len (l.drop k)]
              exact (List.getElem?_eq_some_iff.1 hu).1
            have h3 : ((l.drop k).flatMap qf)[j]? = (l.flatMap qf)[k * 3 + j]? := by
              have e1 : l.flatMap qf = (l.take k).flatMap qf ++ (l.drop k).flatMap qf := by rw [← List.flatMap_append, List.take_append_drop]
              have e2 : ((l.take k).flatMap qf).length = k * 3 := by rw [flat_len qf_len, List.length_take]; congr 1; omega
              rw [e1, List.getElem?_append_right (by omega), e2]
              congr 1
              omega
            rw [h3] at hu
            have h4 := hc _ _ hu
            rw [← Nat.add_assoc] at h4
            exact h4
set_option maxRecDepth 100000 in
set_option maxHeartbeats 4000000 in
theorem rdue_any (A : Option Addr) (cap : Nat) (l : List Ev) (hl : l.length ≤ 1000) (now : Nat) (w : World) (hI : Sl evL w A cap l) :
    Calls Try.prog 26 #[.slice A l.length cap, .int .u64 (now : Nat)] w fun e w' => ∃ A1 c1 A2 c2, e = .returned (.tuple #[.slice A1 (leftV l now).length c1, .slice A2 (goneV l now).length c2]) ∧ Sl evL w' A1 c1 (leftV l now) ∧ Sl qf w' A2 c2 (goneV l now) ∧ Below w.heap.size w w' := by
  obtain ⟨i0, hi, hz0, hz1, hz2⟩ := el_of elT
  obtain ⟨iq, hiq, hq0, hq1, hq2⟩ := el_of elQ
  have HI := Lib.hid hI
  clear hI
  go_enter Try.func26, Try.ntmps26
  go_wp2_with fail
  go_loopw [6, 7, 8] (fun vl vo x wr => ∃ j : Nat, j ≤ l.length ∧ x = .int .i64 j ∧ wr.ownsRow w.heap.size 35 7 vl (leftV (l.take j) now).length ((leftV (l.take j) now).flatMap evL) ∧ wr.ownsRow w.heap.size 25 3 vo (goneV (l.take j) now).length ((goneV (l.take j) now).flatMap qf) ∧ Below w.heap.size w wr) (fun _ _ x _ => l.length - (intOf x).toNat)
  case atStart => exact ⟨0, Nat.zero_le _, rfl, World.ownsRow_nil _ _ _ _, World.ownsRow_nil _ _ _ _, Below.refl _ _⟩
  case round =>
    obtain ⟨j, hj, rfl, hL, hO, hB⟩ := hrel
    obtain ⟨Al, cl, rfl⟩ := ownR_form hL
    obtain ⟨Ao, co, rfl⟩ := ownR_form hO
    by_cases hlt : j < l.length
    · have d1 : decide ((j : Int) < (l.length : Nat)) = true := by simp; omega
      have s0 : (0 : Int) ≤ (j : Nat) := by omega
      have s1 : (j : Int) < (l.length : Nat) := by omega
      obtain ⟨b, off, rfl, hbl, hr⟩ := sl_ev (HI.out.below' hB) j hlt
      have HS := Lib.hid (And.intro (leftV_succ l now j hlt) (goneV_succ l now j hlt))
      have hle := leftV_le l now j
      have hge := goneV_le l now j
      have HRA := Lib.hid (And.intro hr hbl)
      have HL := Lib.hid hL
      have HO := Lib.hid hO
      have HB := Lib.hid hB
      clear hL hO hB hr hbl
      generalize l[j] = x at *
      generalize leftV (l.take j) now = lf at *
      generalize goneV (l.take j) now = out at *
      obtain ⟨c0, c1, c2, c3, c4, c5, c6⟩ := ev_cells HRA.out.1
      by_cases hn : now < x.e.ex
      · have hn2 : ¬ x.e.ex ≤ now := by omega
        have d2 : decide (((now : Nat) : Int) < (x.e.ex : Nat)) = true := by simp; omega
        have d3 : decide ((x.e.ex : Nat) ≤ ((now : Nat) : Int)) = false := by simp; omega
        have HO5 := Lib.hid (HL.out.alloc (Obj.cells #[.string x.e.q.n, .int .u16 (x.e.q.k : Nat), .int .u16 (x.e.q.c : Nat), .slice x.A x.e.l.length x.cap, .int .i64 x.e.rc, .int .i64 x.e.rk, .int .u64 (x.e.ex : Nat)] 35))
        have HB5 := Lib.hid (HB.out.alloc HB.out.size (Obj.cells #[.string x.e.q.n, .int .u16 (x.e.q.k : Nat), .int .u16 (x.e.q.c : Nat), .slice x.A x.e.l.length x.cap, .int .i64 x.e.rc, .int .i64 x.e.rk, .int .u64 (x.e.ex : Nat)] 35))
        go_wp2_with ((at_builtin; (refine wpList_append_own _ rfl _ _ 29 rfl w.heap.size 35 i0 (evV default) 7 72 Try.underlying29 hi hz0 hz1 hz2 rfl (by decide) _ _ _ rfl HO5.out ⟨wr.heap.size, 0, none⟩ 1 1 (evL x) rfl rfl (newE wr x) ?q3 ?q4 ?q5 HB5.out.size ?_)))
        case q3 => exact evL_each x
        case q4 => unfold maxLen; omega
        case q5 => omega
        intro v' w6 hown2 hgrow hnil
        have hb6 := HB5.out.grown hgrow HB5.out.size (fun k hk => (HO5.out.lt k hk).1)
        have ho6 := own_keep (w' := w6) (HO.out.alloc (Obj.cells #[.string x.e.q.n, .int .u16 (x.e.q.k : Nat), .int .u16 (x.e.q.c : Nat), .slice x.A x.e.l.length x.cap, .int .i64 x.e.rc, .int .i64 x.e.rk, .int .u64 (x.e.ex : Nat)] 35)) (fun g hg => hgrow.block g ((HO.out.alloc _).lt g hg).2 (fun e => own_two (HO.out.alloc _) HO5.out (by decide) hg e.symm))
        rw [show lf.length + 1 = (leftV (l.take (j + 1)) now).length by rw [HS.out.1, if_pos hn]; simp, show lf.flatMap evL ++ evL x = (leftV (l.take (j + 1)) now).flatMap evL by rw [HS.out.1, if_pos hn]; simp] at hown2
        have HF := Lib.hid (And.intro hown2 (And.intro ho6 hb6))
        clear hown2 hgrow hnil hb6 ho6
        go_wp2_with fail
        go_roundw
        case rel => exact ⟨j + 1, hlt, by go_num, HF.out.1, by rw [HS.out.2, if_pos hn]; exact HF.out.2.1, HF.out.2.2⟩
        case measure => simp [intOf]; omega
      · have hn2 : x.e.ex ≤ now := by omega
        have d2 : decide (((now : Nat) : Int) < (x.e.ex : Nat)) = false := by simp; omega
        have d3 : decide ((x.e.ex : Nat) ≤ ((now : Nat) : Int)) = true := by simp; omega
        have HLs := Lib.hid (fun a W => less_any a x.e.q W)
        have h1000 : out.length ≤ 1000 := by omega
        go_wp2_with fail
        clear c0 c1 c2 c3 c4 c5 c6 hn2 d2 d3
        generalize wr = w1 at *
        go_loopw [9] (fun xx wq => ∃ k : Nat, k ≤ out.length ∧ xx = .int .i64 k ∧ (∀ i (h : i < out.length), i < k → lessQ out[i] x.e.q = true) ∧ Below w1.heap.size w1 wq) (fun xx _ => out.length - (intOf xx).toNat)
        case atStart => exact ⟨0, Nat.zero_le _, rfl, fun i _ h => by omega, Below.refl _ _⟩
        case round =>
          obtain ⟨k, hk, rfl, hpre, hB1⟩ := hrel
          have hBq := HB.out.trans (hB1.mono HB.out.size)
          have hOut := ownR_below HO.out hB1
          have hLf := ownR_below HL.out hB1
          have HRA1 := Lib.hid (show wr.rangeAt b (off + j * 7) (evL x) ∧ b < wr.heap.size from ⟨fun i u hi => (hB1.cell (p := ⟨b, off + j * 7 + i, none⟩) HRA.out.2).trans (HRA.out.1 i u hi), Nat.lt_of_lt_of_le HRA.out.2 hB1.size⟩)
          have HBq := Lib.hid hBq
          have HOut := Lib.hid hOut
          have HLf := Lib.hid hLf
          have HB1 := Lib.hid hB1
          clear hBq hLf hB1 HO HL HB HRA
          by_cases hkl : k < out.length
          · have d4 : decide ((k : Int) < (out.length : Nat)) = true := by simp; omega
            have g0 : (0 : Int) ≤ (k : Nat) := by omega
            have g1 : (k : Int) < (out.length : Nat) := by omega
            obtain ⟨b2, off2, hAo, hb2, a0, a1, a2⟩ := (Sl.owned qf_len hOut).1.ask3 k hkl
            subst hAo
            obtain ⟨c0, c1, c2⟩ := q_at HRA1.out.1
            have HL1 := Lib.hid (fun W => less_any out[k] x.e.q W)
            clear hOut
            cases hle2 : lessQ out[k] x.e.q with
            | true =>
              rw [hle2] at HL1
              have HP := Lib.hid (show ∀ i (h : i < out.length), i < k + 1 → lessQ out[i] x.e.q = true from fun i h hi => by
                by_cases e : i = k
                · subst e; exact hle2
                · exact hpre i h (by omega))
              clear hpre hle2
              generalize out[k] = oq at *
              go_upto_region 9 with (fail)
              go_still_tail 14, (by kernel_rfl)
              change wpList _ _ _ _ _ wr.drew
              have hd := (Below.refl wr.heap.size wr).drew
              have HB2 := Lib.hid (HB1.out.trans (hd.mono HB1.out.size))
              clear hd a0 a1 a2 c0 c1 c2 HRA1 HBq HOut HLf HB1
              generalize wr.drew = w2 at *
              go_wp2_with (go_at_call 22; (with_reducible (refine (HL1.out _).mono ?_)); rintro e w8 ⟨rfl, hb8⟩; have HB8 := Lib.hid (HB2.out.trans (hb8.mono HB2.out.size)); clear hb8)
              go_roundw
              case rel => exact ⟨k + 1, hkl, by go_num, HP.out, HB8.out⟩
              case measure => simp [intOf]; omega
            | false =>
              rw [hle2] at HL1
              have HIns := Lib.hid (insQ_at hk hpre (fun _ => hle2))
              clear hpre hle2
              generalize out[k] = oq at *
              go_upto_region 9 with (fail)
              go_still_tail 14, (by kernel_rfl)
              change wpList _ _ _ _ _ wr.drew
              have hd := (Below.refl wr.heap.size wr).drew
              have HB2 := Lib.hid (And.intro (HBq.out.trans (hd.mono HBq.out.size)) (And.intro (ownR_below HOut.out hd) (And.intro (ownR_below HLf.out hd) HRA1.out)))
              clear hd a0 a1 a2 c0 c1 c2 HRA1 HBq HOut HLf HB1
              have HB2' := Lib.hid (show wr.drew.rangeAt b (off + j * 7) (evL x) ∧ b < wr.drew.heap.size from HB2.out.2.2.2)
              generalize wr.drew = w2 at *
              go_upto_region 11 with (go_at_call 22; (with_reducible (refine (HL1.out _).mono ?_)); rintro e w8 ⟨rfl, hb8⟩; have HBq := Lib.hid (HB2.out.1.trans (hb8.mono HB2.out.1.size)); have HOut := Lib.hid (ownR_below HB2.out.2.1 hb8); have HLf := Lib.hid (ownR_below HB2.out.2.2.1 hb8); have HRA := Lib.hid (show w8.rangeAt b (off + j * 7) (evL x) ∧ b < w8.heap.size from ⟨fun i u hi => (hb8.cell (p := ⟨b, off + j * 7 + i, none⟩) HB2'.out.2).trans (HB2'.out.1 i u hi), Nat.lt_of_lt_of_le HB2'.out.2 hb8.size⟩); clear hb8)
              clear HB2 HB2' HL1 HLs d4 g0 g1
              have HSQ := Lib.hid (Sl.owned qf_len HOut.out).1
              obtain ⟨A2, cap2, hfr, hsf⟩ := sl_from HSQ.out hk
              have HSF := Lib.hid hsf
              have hto := sl_to HSQ.out hk
              have HO := Lib.hid (World.ownsRow_made (e := 25) (size := 3) w8 #[] 0 (Nat.le_refl _) (Nat.zero_le _) (by simp))
              have hb4 := (Below.refl w8.heap.size w8).alloc (Nat.le_refl _) (Obj.cells #[] 25)
              have HI4 := Lib.hid ((HSQ.out.below' hb4).take k)
              have HB4 := Lib.hid hb4
              clear hb4 hsf
              have htk : (out.take k).length = k := by rw [List.length_take]; omega
              go_upto_region 12 with (at_builtin; (refine wpList_append_slw rfl _ _ 51 rfl w8.heap.size 25 iq (qV ⟨⟨#[]⟩, 0, 0⟩) 3 24 Try.underlying51 hiq hq0 hq1 hq2 rfl (by decide) _ _ _ rfl HO.out (f := qf) (l := out.take k) (by rw [htk]; rfl) qf_len HI4.out (qf_one _) ?q4 ?q5 HB4.out.size ?_))
              case q4 => unfold maxLen; omega
              case q5 => omega
              intro v3 w3 hown hgrow
              have hb3 := HB4.out.grown hgrow HB4.out.size (fun k hk => (HO.out.lt k hk).1)
              replace hown : w3.ownsRow w8.heap.size 25 3 v3 k ((out.take k).flatMap qf) := by simpa [htk] using hown
              have HF3 := Lib.hid (And.intro hown hb3)
              obtain ⟨Av3, cv3, rfl⟩ := ownR_form hown
              have HR3 := Lib.hid (show w3.rangeAt b (off + j * 7) (evL x) from fun i u hi => (hb3.cell (p := ⟨b, off + j * 7 + i, none⟩) HRA.out.2).trans (HRA.out.1 i u hi))
              clear hown hgrow hb3 HO HI4 HB4 hto
              obtain ⟨c0, c1, c2⟩ := q_at HR3.out
              have HO5 := Lib.hid (HF3.out.1.alloc (Obj.cells #[.string x.e.q.n, .int .u16 (x.e.q.k : Nat), .int .u16 (x.e.q.c : Nat)] 25))
              have HB5 := Lib.hid (HF3.out.2.alloc HF3.out.2.size (Obj.cells #[.string x.e.q.n, .int .u16 (x.e.q.k : Nat), .int .u16 (x.e.q.c : Nat)] 25))
              go_upto_region 13 with (at_builtin; (refine wpList_append_own _ rfl _ _ 51 rfl w8.heap.size 25 iq (qV ⟨⟨#[]⟩, 0, 0⟩) 3 24 Try.underlying51 hiq hq0 hq1 hq2 rfl (by decide) _ _ _ rfl HO5.out ⟨w3.heap.size, 0, none⟩ 1 1 (qf x.e.q) rfl rfl (newQ w3 x.e.q) ?q3 ?q4 ?q5 HB5.out.size ?_))
              case q3 => exact fun u hu => qf_one [x.e.q] u (by simpa using hu)
              case q4 => unfold maxLen; omega
              case q5 => omega
              intro v6 w6 hown2 hgrow hnil
              have hb6 := HB5.out.grown hgrow HB5.out.size (fun k hk => (HO5.out.lt k hk).1)
              rw [show (out.take k).flatMap qf ++ qf x.e.q = (out.take k ++ [x.e.q]).flatMap qf by simp] at hown2
              obtain ⟨Av6, cv6, rfl⟩ := ownR_form hown2
              have HF6 := Lib.hid (And.intro hown2 (And.intro hb6 (HSF.out _ (HSQ.out.below' hb6))))
              clear hown2 hgrow hnil hb6 HO5 HB5 HF3 c0 c1 c2 HR3
              have hdl : (out.drop k).length = out.length - k := by rw [List.length_drop]
              go_upto_region 14 with (at_builtin; (refine wpList_append_slw rfl _ _ 51 rfl w8.heap.size 25 iq (qV ⟨⟨#[]⟩, 0, 0⟩) 3 24 Try.underlying51 hiq hq0 hq1 hq2 rfl (by decide) _ _ _ rfl HF6.out.1 (f := qf) (l := out.drop k) (by rw [hdl]; rfl) qf_len HF6.out.2.2 (qf_one _) ?q4 ?q5 HF6.out.2.1.size ?_))
              case q4 => unfold maxLen; omega
              case q5 => omega
              intro v7 w7 hown3 hgrow
              have hb7 := HF6.out.2.1.grown hgrow HF6.out.2.1.size (fun k hk => (HF6.out.1.lt k hk).1)
              have e1 : (insQ out x.e.q).length = k + 1 + (out.length - k) := by rw [HIns.out]; simp; omega
              have e2 : (insQ out x.e.q).flatMap qf = (out.take k ++ [x.e.q]).flatMap qf ++ (out.drop k).flatMap qf := by rw [HIns.out, List.flatMap_append]
              replace hown3 : w7.ownsRow w8.heap.size 25 3 v7 (insQ out x.e.q).length ((insQ out x.e.q).flatMap qf) := by
                rw [e1, e2]
                first | exact hown3 | simpa using hown3
              clear e1 e2
              have HF7 := Lib.hid (And.intro hown3 (And.intro (HBq.out.trans (hb7.mono HBq.out.size)) (ownR_below HLf.out hb7)))
              clear hown3 hgrow hb7 HF6 hfr
              go_wp2_with fail
              go_roundw
              case rel => exact ⟨j + 1, hlt, by go_num, by rw [HS.out.1, if_neg hn]; exact HF7.out.2.2, by rw [HS.out.2, if_neg hn]; exact own_mono HF7.out.1 HBq.out.size, HF7.out.2.1⟩
              case measure => simp [intOf]; omega
          · have hke : k = out.length := by omega
            have d4 : decide ((k : Int) < (out.length : Nat)) = false := by simp; omega
            have HIns := Lib.hid (insQ_at hk hpre (fun h => absurd h (by omega)))
            clear hpre hOut hke
            go_upto_region 9 with (fail)
            go_quiet (fail)
            have hd := below_drewN wr nq
            have HRA := Lib.hid (show (wr.drewN nq).rangeAt b (off + j * 7) (evL x) ∧ b < (wr.drewN nq).heap.size from HRA1.out)
            replace HBq := Lib.hid (HBq.out.trans (hd.mono HBq.out.size))
            replace HOut := Lib.hid (ownR_below HOut.out hd)
            replace HLf := Lib.hid (ownR_below HLf.out hd)
            clear hd HRA1 HB1
            generalize wr.drewN nq = w9 at *
            go_upto_region 11 with (fail)
            clear HLs d4
            have HSQ := Lib.hid (Sl.owned qf_len HOut.out).1
            obtain ⟨A2, cap2, hfr, hsf⟩ := sl_from HSQ.out hk
            have HSF := Lib.hid hsf
            have hto := sl_to HSQ.out hk
            have HO := Lib.hid (World.ownsRow_made (e := 25) (size := 3) w9 #[] 0 (Nat.le_refl _) (Nat.zero_le _) (by simp))
            have hb4 := (Below.refl w9.heap.size w9).alloc (Nat.le_refl _) (Obj.cells #[] 25)
            have HI4 := Lib.hid ((HSQ.out.below' hb4).take k)
            have HB4 := Lib.hid hb4
            clear hb4 hsf
            have htk : (out.take k).length = k := by rw [List.length_take]; omega
            go_upto_region 12 with (at_builtin; (refine wpList_append_slw rfl _ _ 51 rfl w9.heap.size 25 iq (qV ⟨⟨#[]⟩, 0, 0⟩) 3 24 Try.underlying51 hiq hq0 hq1 hq2 rfl (by decide) _ _ _ rfl HO.out (f := qf) (l := out.take k) (by rw [htk]; rfl) qf_len HI4.out (qf_one _) ?q4 ?q5 HB4.out.size ?_))
            case q4 => unfold maxLen; omega
            case q5 => omega
            intro v3 w3 hown hgrow
            have hb3 := HB4.out.grown hgrow HB4.out.size (fun k hk => (HO.out.lt k hk).1)
            replace hown : w3.ownsRow w9.heap.size 25 3 v3 k ((out.take k).flatMap qf) := by simpa [htk] using hown
            have HF3 := Lib.hid (And.intro hown hb3)
            obtain ⟨Av3, cv3, rfl⟩ := ownR_form hown
            have HR3 := Lib.hid (show w3.rangeAt b (off + j * 7) (evL x) from fun i u hi => (hb3.cell (p := ⟨b, off + j * 7 + i, none⟩) HRA.out.2).trans (HRA.out.1 i u hi))
            clear hown hgrow hb3 HO HI4 HB4 hto
            obtain ⟨c0, c1, c2⟩ := q_at HR3.out
            have HO5 := Lib.hid (HF3.out.1.alloc (Obj.cells #[.string x.e.q.n, .int .u16 (x.e.q.k : Nat), .int .u16 (x.e.q.c : Nat)] 25))
            have HB5 := Lib.hid (HF3.out.2.alloc HF3.out.2.size (Obj.cells #[.string x.e.q.n, .int .u16 (x.e.q.k : Nat), .int .u16 (x.e.q.c : Nat)] 25))
            go_upto_region 13 with (at_builtin; (refine wpList_append_own _ rfl _ _ 51 rfl w9.heap.size 25 iq (qV ⟨⟨#[]⟩, 0, 0⟩) 3 24 Try.underlying51 hiq hq0 hq1 hq2 rfl (by decide) _ _ _ rfl HO5.out ⟨w3.heap.size, 0, none⟩ 1 1 (qf x.e.q) rfl rfl (newQ w3 x.e.q) ?q3 ?q4 ?q5 HB5.out.size ?_))
            case q3 => exact fun u hu => qf_one [x.e.q] u (by simpa using hu)
            case q4 => unfold maxLen; omega
            case q5 => omega
            intro v6 w6 hown2 hgrow hnil
            have hb6 := HB5.out.grown hgrow HB5.out.size (fun k hk => (HO5.out.lt k hk).1)
            rw [show (out.take k).flatMap qf ++ qf x.e.q = (out.take k ++ [x.e.q]).flatMap qf by simp] at hown2
            obtain ⟨Av6, cv6, rfl⟩ := ownR_form hown2
            have HF6 := Lib.hid (And.intro hown2 (And.intro hb6 (HSF.out _ (HSQ.out.below' hb6))))
            clear hown2 hgrow hnil hb6 HO5 HB5 HF3 c0 c1 c2 HR3
            have hdl : (out.drop k).length = out.length - k := by rw [List.length_drop]
            go_upto_region 14 with (at_builtin; (refine wpList_append_slw rfl _ _ 51 rfl w9.heap.size 25 iq (qV ⟨⟨#[]⟩, 0, 0⟩) 3 24 Try.underlying51 hiq hq0 hq1 hq2 rfl (by decide) _ _ _ rfl HF6.out.1 (f := qf) (l := out.drop k) (by rw [hdl]; rfl) qf_len HF6.out.2.2 (qf_one _) ?q4 ?q5 HF6.out.2.1.size ?_))
            case q4 => unfold maxLen; omega
            case q5 => omega
            intro v7 w7 hown3 hgrow
            have hb7 := HF6.out.2.1.grown hgrow HF6.out.2.1.size (fun k hk => (HF6.out.1.lt k hk).1)
            have e1 : (insQ out x.e.q).length = k + 1 + (out.length - k) := by rw [HIns.out]; simp; omega
            have e2 : (insQ out x.e.q).flatMap qf = (out.take k ++ [x.e.q]).flatMap qf ++ (out.drop k).flatMap qf := by rw [HIns.out, List.flatMap_append]
            replace hown3 : w7.ownsRow w9.heap.size 25 3 v7 (insQ out x.e.q).length ((insQ out x.e.q).flatMap qf) := by
              rw [e1, e2]
              first | exact hown3 | simpa using hown3
            clear e1 e2
            have HF7 := Lib.hid (And.intro hown3 (And.intro (HBq.out.trans (hb7.mono HBq.out.size)) (ownR_below HLf.out hb7)))
            clear hown3 hgrow hb7 HF6 hfr
            go_wp2_with fail
            go_roundw
            case rel => exact ⟨j + 1, hlt, by go_num, by rw [HS.out.1, if_neg hn]; exact HF7.out.2.2, by rw [HS.out.2, if_neg hn]; exact own_mono HF7.out.1 HBq.out.size, HF7.out.2.1⟩
            case measure => simp [intOf]; omega
    · obtain rfl : j = l.length := by omega
      have d1 : decide ((l.length : Int) < (l.length : Nat)) = false := by simp
      rw [List.take_length] at hL hO
      have HF := Lib.hid (And.intro (Sl.owned evL_len hL).1 (And.intro (Sl.owned qf_len hO).1 hB))
      clear hL hO hB
      go_wp2_with fail
      go_ret2
      refine ⟨Al, cl, Ao, co, ?_, HF.out⟩
      rw [List.take_length]
      first | rfl | simp
end Go.Proofs.Ytnmgeoeppfdnhaa.D
