/- The contract of derrickref02.Take: as the program's. -/
import Derived.Test.YtceafomifpkiaaaDoorRef
import Derived.Test.YtceafomifpkiaaaDoorRee
import Derived.Deep.DeepCutAuto
namespace Go.Proofs.YtceafomifpkiaaaDoor
open Go.RowKit
set_option linter.unusedVariables false

theorem takeR_nil : takeR [] = (⟨#[]⟩, 2) := by
  unfold takeR splitL
  rw [if_neg (by decide), splF_bad (cut_empty (scan_end (.inl rfl)))]
theorem takeR_dot : takeR [46] = (⟨#[0]⟩, 0) := by rfl

set_option maxRecDepth 100000 in
set_option maxHeartbeats 4000000 in
theorem ref_take (s : ByteArray) (hs : s.size ≤ 1000000) (w : World) :
    Calls Tryd.prog 28 #[.string s] w fun e w' => e = .returned (.tuple #[.string (takeR s.data.toList).1, .int .i64 (takeR s.data.toList).2]) ∧ Below w.heap.size w w' := by
  obtain ⟨tr, htr⟩ : ∃ tr, takeR s.data.toList = tr := ⟨_, rfl⟩
  have HT := Lib.hid htr
  rw [htr]
  clear htr
  cases h1 : (s.toList == [46]) with
  | true =>
    have ht : tr = (⟨#[0]⟩, 0) := by rw [← HT.out, ← ByteArray.toList_eq, eq_of_beq h1, takeR_dot]
    subst ht
    clear HT
    go_enter Tryd.func28, Tryd.ntmps28
    go_wp2_with fail
    go_ret2
    exact ⟨rfl, Below.refl _ _⟩
  | false =>
    have hl1 : s.data.toList ≠ [46] := by rw [← ByteArray.toList_eq]; intro e; rw [e] at h1; cases h1
    have HL1 := Lib.hid hl1
    clear hl1
    by_cases h0 : s.size = 0
    · have hr0 : s.data.toList = [] := List.eq_nil_of_length_eq_zero (by rw [ba_len]; exact h0)
      have b0 : s.toList.isEmpty = true := by rw [ByteArray.toList_eq, hr0]; rfl
      have b1 : s.toList = [] := by rw [ByteArray.toList_eq, hr0]
      have ht : tr = (⟨#[]⟩, 2) := by rw [← HT.out, hr0, takeR_nil]
      subst ht
      clear HT h0 hr0
      go_enter Tryd.func28, Tryd.ntmps28
      go_wp2_with fail
      go_ret2
      exact ⟨rfl, Below.refl _ _⟩
    · have hr0 : s.data.toList ≠ [] := fun e => h0 (by rw [← ba_len, e]; rfl)
      have b0 : s.toList.isEmpty = false := by rw [ByteArray.toList_eq]; simpa using hr0
      have b1 : ¬ s.toList = [] := by rw [ByteArray.toList_eq]; exact hr0
      have htk := take_ref hr0 HL1.out
      rw [HT.out] at htk
      have HTR := Lib.hid htk
      clear htk HT
      have hp : 0 < s.size := by omega
      have g1 := at_getD s (s.size - 1) (by omega)
      have hlen := ba_len s
      obtain ⟨ad, had⟩ : ∃ ad, addDot s.data.toList = ad := ⟨_, rfl⟩
      have HAD := Lib.hid had
      have GL := Lib.hid hlen
      have G1 := Lib.hid g1
      clear had hr0 hlen g1
      go_enter Tryd.func28, Tryd.ntmps28
      go_upto_region 5 with (fail)
      go_cut [34] (fun t wx => t = .bool ad ∧ Below w.heap.size w wx)
      case first =>
        clear b0 b1 h1
        by_cases c1 : s[s.size - 1].toNat = 46
        · have h2 : 1 < s.size := by
            rcases Nat.lt_or_ge 1 s.size with h | h
            · exact h
            · exfalso
              apply HL1.out
              have e1 : s.size = 1 := by omega
              have e2 : s.data.toList.length = 1 := by rw [GL.out, e1]
              have c1' := c1
              rw [G1.out, e1] at c1'
              match hd : s.data.toList, e2 with
              | [a], _ =>
                rw [hd] at c1'
                have e4 : a.toNat = 46 := c1'
                have : a = 46 := by rw [← UInt8.toNat_inj]; exact e4
                rw [this]
          have g2 := at_getD s (s.size - 2) (by omega)
          have G2 := Lib.hid g2
          clear g2
          have i1 : ((s[s.size - 1].toNat : Int) != 46) = false := by simp; omega
          have i2 : decide (1 < (s.size : Int)) = true := by simp; omega
          by_cases c2 : s[s.size - 2].toNat = 92
          · have i3 : ((s[s.size - 2].toNat : Int) == 92) = true := by simp; omega
            have hv : ad = opn s.data.toList false := by
              rw [← HAD.out]
              unfold addDot
              rw [GL.out, ← G1.out, ← G2.out, c1, c2]
              simp [h2]
            have hop := ref_open s (by omega)
            rw [← hv] at hop
            clear hv
            go_wp2_with fail
            refine (hop _).mono ?_; rintro e w1 ⟨rfl, hb1⟩
            go_wp2_with fail
            go_meet
            case rel => exact ⟨rfl, hb1⟩
          · have i3 : ((s[s.size - 2].toNat : Int) == 92) = false := by simp; omega
            have hv : ad = false := by
              rw [← HAD.out]
              unfold addDot
              rw [GL.out, ← G1.out, ← G2.out, c1]
              simp [c2]
            subst hv
            go_wp2_with fail
            go_meet
            case rel => exact ⟨rfl, Below.refl _ _⟩
        · have i1 : ((s[s.size - 1].toNat : Int) != 46) = true := by simp; omega
          have hv : ad = true := by
            rw [← HAD.out]
            unfold addDot
            rw [GL.out, ← G1.out]
            simp [c1]
          subst hv
          go_wp2_with fail
          go_meet
          case rel => exact ⟨rfl, Below.refl _ _⟩
      case rest =>
        obtain ⟨rfl, hb1⟩ := hcut
        clear b0 b1 h1 G1
        go_upto_if 34 with (fail)
        go_cut [0] (fun t wx => (∃ q : ByteArray, t = .string q ∧ q.data.toList = dotted s.data.toList ∧ q.size ≤ 1000001) ∧ Below w.heap.size w wx)
        case first =>
          cases ad with
          | true =>
            have hd : (s ++ ⟨#[46]⟩ : ByteArray).data.toList = dotted s.data.toList := by unfold dotted; rw [HAD.out, if_pos rfl]; simp
            have HD := Lib.hid hd
            have hz : (s ++ ⟨#[46]⟩ : ByteArray).size ≤ 1000001 := by rw [ByteArray.size_append]; show s.size + 1 ≤ _; omega
            clear hd
            go_wp2_with fail
            go_meet
            case rel => exact ⟨⟨_, rfl, HD.out, hz⟩, hb1⟩
          | false =>
            have hd : s.data.toList = dotted s.data.toList := by unfold dotted; rw [HAD.out, if_neg (by decide)]
            have HD := Lib.hid hd
            clear hd
            go_wp2_with fail
            go_meet
            case rel => exact ⟨⟨_, rfl, HD.out, by omega⟩, hb1⟩
        case rest =>
          clear hb1
          obtain ⟨⟨q, rfl, hd, hsz0⟩, hb1⟩ := hcut
          have HD := Lib.hid hd
          clear hd HAD HL1 h0 hp
          go_wp2_with fail
          go_loopw [0, 4, 5, 6] (fun t n l g wr => ∃ (r nn b : ByteArray) (ls : List (List UInt8)) (gg : Bool), t = .string r ∧ n = .string nn ∧ l = .string b ∧ g = .bool gg ∧ gg = ls.any (fun b => decide (63 < b.length)) ∧ rl (dotted s.data.toList) [] [] = rl r.data.toList ls b.data.toList ∧ nn.data.toList = nOf ls ∧ r.size + b.size + nn.size ≤ 1000001 ∧ Below w.heap.size w wr) (fun t _ _ _ _ => match t with | .string r => r.size | _ => 0)
          case atStart => exact ⟨q, ⟨#[]⟩, ⟨#[]⟩, [], false, rfl, rfl, rfl, rfl, rfl, by rw [HD.out], rfl, by show q.size + 0 + 0 ≤ 1000001; exact hsz0, hb1⟩
          case round =>
            clear hsz0 HD
            obtain ⟨r, nn, b, ls, gg, rfl, rfl, rfl, rfl, hgg, hrl, hnn, hsz, hB⟩ := hrel
            have HG := Lib.hid hgg
            have HR := Lib.hid hrl
            have HN := Lib.hid hnn
            clear hgg hrl hnn
            by_cases hr : r.size = 0
            · have hr0 : r.data.toList = [] := List.eq_nil_of_length_eq_zero (by rw [ba_len]; exact hr)
              have k0 : (!r.toList.isEmpty) = false := by rw [ByteArray.toList_eq, hr0]; rfl
              have k1 : r.toList = [] := by rw [ByteArray.toList_eq, hr0]
              have hend := HR.out
              rw [hr0, rl_nil] at hend
              by_cases hb : b.size = 0
              · have hb0 : b.data.toList = [] := List.eq_nil_of_length_eq_zero (by rw [ba_len]; exact hb)
                have k2 : (!b.toList.isEmpty) = false := by rw [ByteArray.toList_eq, hb0]; rfl
                have k3 : b.toList = [] := by rw [ByteArray.toList_eq, hb0]
                rw [if_pos hb0] at hend
                have ht := HTR.out
                rw [hend] at ht
                have hnl : (nOf ls).length = nn.size := by rw [← HN.out, ba_len]
                have htr : tr = if (gg || decide (254 < nn.size)) = true then (⟨#[]⟩, 3) else (nn ++ ⟨#[0]⟩, 0) := by
                  rw [ht]
                  show (if (ls.any (fun b => decide (63 < b.length)) || decide (254 < (nOf ls).length)) = true then _ else _) = _
                  rw [hnl, ← HG.out, ← HN.out]
                  split
                  · rfl
                  · refine Prod.ext ?_ rfl
                    apply ba_ext
                    try simp
                have y1 : ¬ 9223372036854775807 < nn.size + 1 := by omega
                have HU := Lib.hid htr
                clear htr hnl ht hend hb0 hr0 hb hr
                cases gg with
                | true =>
                  have ht : tr = (⟨#[]⟩, 3) := by rw [HU.out]; rfl
                  subst ht
                  clear HU HTR
                  go_wp2_with fail
                  go_ret2
                  exact ⟨rfl, hB⟩
                | false =>
                  by_cases h254 : 254 < nn.size
                  · have ht : tr = (⟨#[]⟩, 3) := by rw [HU.out, if_pos (by simpa using h254)]
                    have k4 : decide (254 < (nn.size : Int)) = true := by simp; omega
                    subst ht
                    clear HU HTR
                    go_wp2_with fail
                    go_ret2
                    exact ⟨rfl, hB⟩
                  · have ht : tr = (nn ++ ⟨#[0]⟩, 0) := by rw [HU.out, if_neg (by simpa using h254)]
                    have k4 : decide (254 < (nn.size : Int)) = false := by simp; omega
                    subst ht
                    clear HU HTR
                    go_wp2_with fail
                    go_ret2
                    exact ⟨rfl, hB⟩
              · have hb0 : b.data.toList ≠ [] := fun e => hb (by rw [← ba_len, e]; rfl)
                have k2 : (!b.toList.isEmpty) = true := by rw [ByteArray.toList_eq]; simpa using hb0
                have k3 : ¬ b.toList = [] := by rw [ByteArray.toList_eq]; exact hb0
                rw [if_neg hb0] at hend
                have ht : tr = (⟨#[]⟩, 2) := by rw [HTR.out, hend]; rfl
                subst ht
                clear hend hb0 hr0 hb hr HTR
                go_wp2_with fail
                go_ret2
                exact ⟨rfl, hB⟩
            · have hr0 : r.data.toList ≠ [] := fun e => hr (by rw [← ba_len, e]; rfl)
              have k0 : (!r.toList.isEmpty) = true := by rw [ByteArray.toList_eq]; simpa using hr0
              have k1 : ¬ r.toList = [] := by rw [ByteArray.toList_eq]; exact hr0
              have hbg := ref_begins r (by omega) wr
              cases hok : rdOk r.data.toList with
              | true =>
                have hst := rl_byte hr0 hok ls b.data.toList
                obtain ⟨hn, _⟩ := rd_esc_eq hok
                have hn1 := rdN_pos hok
                have hln := rdN_le (l := r.data.toList) (by rw [ba_len]; omega)
                rw [ba_len] at hln
                have hbv : bgn r.data.toList = ((rdC r.data.toList).toNat : Nat) := by unfold bgn; rw [if_pos hok]
                rw [hbv] at hbg
                have h8 : (rdC r.data.toList).toNat ≤ 255 := by have := (rdC r.data.toList).toNat_lt; omega
                have hone := ref_one (rdC r.data.toList)
                have hsl := fun W => slice_from r (rdN r.data.toList) hln W
                have hdrop : (r.extract (rdN r.data.toList) r.size).data.toList = r.data.toList.drop (rdN r.data.toList) := by
                  rw [extract_list, ← ba_len, List.take_length]
                have hdz : (r.extract (rdN r.data.toList) r.size).size = r.size - rdN r.data.toList := by rw [ByteArray.size_extract]; omega
                have hsz1 : (⟨(esc (rdC r.data.toList)).toArray⟩ : ByteArray).size = rdN r.data.toList := by
                  show (esc (rdC r.data.toList)).toArray.size = _
                  rw [hn]; simp
                have H1 := Lib.hid hst
                have H2 := Lib.hid hdrop
                have H3 := Lib.hid hdz
                clear hst hn hbv hdrop hdz hok hr0
                generalize rdN r.data.toList = n at *
                generalize rdC r.data.toList = c at *
                have hsz2 : (esc c).length = n := by rw [← hsz1]; show _ = (esc c).toArray.size; simp
                have y1 : ¬ 9223372036854775807 < b.size + 1 := by omega
                have hu1 : (⟨#[c]⟩ : ByteArray).size = 1 := rfl
                have hcv : ∀ W : World, (convert 44 9 (.slice (some ⟨W.heap.size, 0, none⟩) 1 1)).run Tryd.prog (W.alloc (.cells #[.int .u8 ((c.toNat : Int))] 5)) = .ok (.string ⟨#[c]⟩) (W.alloc (.cells #[.int .u8 ((c.toNat : Int))] 5)) := fun W => conv_new W [(c.toNat : Int)] [c] 1 rfl rfl
                generalize esc c = e at *
                clear hsz1
                go_wp2_with fail
                refine hbg.mono ?_; rintro e' w2 ⟨rfl, hb2⟩
                clear hbg
                go_wp2_with fail
                refine (hone _).mono ?_; rintro e' w3 ⟨rfl, hb3⟩
                clear hone hcv
                go_wp2_with fail
                go_roundw
                case rel => exact ⟨_, nn, _, ls, gg, rfl, rfl, rfl, rfl, HG.out, by rw [HR.out, H1.out, H2.out]; simp, HN.out, by rw [H3.out, ByteArray.size_append, hu1]; omega, bthen (balloc (bthen hB hb2) _) hb3⟩
                case measure =>
                  show (r.extract n r.size).size < r.size
                  rw [H3.out]; omega
              | false =>
                have hno : ¬ rdOk r.data.toList = true := by rw [hok]; decide
                have hbv : bgn r.data.toList = -1 := by unfold bgn; rw [if_neg hno]
                rw [hbv] at hbg
                have g0 := at_getD r 0 (by omega)
                have h8 : r[0].toNat ≤ 255 := by have := r[0].toNat_lt; omega
                by_cases h46 : r[0].toNat = 46
                · have k2 : ((r[0].toNat : Int) != 46) = false := by simp; omega
                  by_cases hb : b.size = 0
                  · have hb0 : b.data.toList = [] := List.eq_nil_of_length_eq_zero (by rw [ba_len]; exact hb)
                    have k3 : b.toList.isEmpty = true := by rw [ByteArray.toList_eq, hb0]; rfl
                    have k4 : b.toList = [] := by rw [ByteArray.toList_eq, hb0]
                    have ht : tr = (⟨#[]⟩, 2) := by rw [HTR.out, HR.out, rl_bad hr0 hno ls _ (fun h => h.2 hb0)]; rfl
                    subst ht
                    clear hbv hno hok hr0 g0 h46 hb hb0 HTR HR
                    go_wp2_with fail
                    refine hbg.mono ?_; rintro e' w2 ⟨rfl, hb2⟩
                    go_wp2_with fail
                    go_ret2
                    exact ⟨rfl, bthen hB hb2⟩
                  · have hb0 : b.data.toList ≠ [] := fun e => hb (by rw [← ba_len, e]; rfl)
                    have k3 : b.toList.isEmpty = false := by rw [ByteArray.toList_eq]; simpa using hb0
                    have k4 : ¬ b.toList = [] := by rw [ByteArray.toList_eq]; exact hb0
                    have hst := rl_dot hr0 hno ls b.data.toList ⟨by rw [← g0]; exact h46, hb0⟩
                    have hsl := fun W => slice_from r 1 (by omega) W
                    have hdrop : (r.extract 1 r.size).data.toList = r.data.toList.drop 1 := by
                      rw [extract_list, ← ba_len, List.take_length]
                    have hdz : (r.extract 1 r.size).size = r.size - 1 := by rw [ByteArray.size_extract]; omega
                    have hg2 : (gg || decide (63 < b.size)) = (ls ++ [b.data.toList]).any (fun b => decide (63 < b.length)) := by
                      rw [List.any_append, ← HG.out]; simp
                    have hn2 : (nn ++ ⟨#[UInt8.ofNat (b.size % 256)]⟩ ++ foldB b).data.toList = nOf (ls ++ [b.data.toList]) := by
                      unfold nOf
                      rw [List.flatMap_append]
                      simp [HN.out, foldB_list, nOf]
                    obtain ⟨m, hm⟩ : ∃ m, m = b.size % 256 := ⟨_, rfl⟩
                    rw [← hm] at hn2
                    have hof : (UInt8.ofNat m).toNat = m := by rw [UInt8.toNat_ofNat']; omega
                    have hcv : ∀ W g, W.cell? ⟨g, 0, none⟩ = some (.int .u8 (m : Nat)) → (convert 44 9 (.slice (some ⟨g, 0, none⟩) 1 1)).run Tryd.prog W = .ok (.string ⟨#[UInt8.ofNat m]⟩) W := fun W g h => conv_one W g _ (by rw [hof]; exact h)
                    have htm : (b.size : Int).tmod 256 = (m : Int) := by rw [hm, Int.tmod_eq_emod_of_nonneg (by omega)]; omega
                    have hwr : IntKind.u8.wrap (m : Int) = m := IntWalk.u8_in _ (by omega)
                    have hfs := foldB_size b
                    have y1 : ¬ 9223372036854775807 < nn.size + 1 := by omega
                    have y2 : ¬ 9223372036854775807 < nn.size + 1 + (foldB b).size := by omega
                    have H1 := Lib.hid hst
                    have H2 := Lib.hid hdrop
                    have H3 := Lib.hid hdz
                    have HG2 := Lib.hid hg2
                    have HN2 := Lib.hid hn2
                    have HFS := Lib.hid hfs
                    clear hbv hno hok hr0 g0 h46 hb hb0 hst hdrop hdz hg2 hn2 hof hfs
                    clear hm
                    generalize UInt8.ofNat m = u at *
                    cases gg with
                    | true =>
                      have HG3 := Lib.hid (show true = (ls ++ [b.data.toList]).any (fun b => decide (63 < b.length)) from by rw [← HG2.out]; rfl)
                      clear HG2
                      go_wp2_with fail
                      refine hbg.mono ?_; rintro e' w2 ⟨rfl, hb2⟩
                      clear hbg
                      go_wp2_with fail
                      have hnew := World.cell?_alloc_mark w2 #[.int .u8 (m : Nat)] 5 (0, 0) 0
                      have HNew := Lib.hid hnew
                      clear hnew
                      go_region_with (first
                        | (go_at_call 19; refine (ref_fold b (by omega) _).mono ?_; rintro e w3 ⟨rfl, hb3⟩
                           have hn2 : w3.cell? ⟨w2.heap.size, 0, none⟩ = some (.int .u8 (m : Nat)) := (hb3.cell (p := ⟨w2.heap.size, 0, none⟩) (by simp)).trans HNew.out)
                        | (go_at_call 19; refine (ref_fold b (by omega) _).mono ?_; rintro e w3 ⟨rfl, hb3⟩))
                      all_goals
                        go_wp2_with fail
                        go_roundw
                        case rel =>
                          refine ⟨_, _, ⟨#[]⟩, ls ++ [b.data.toList], true, rfl, rfl, rfl, rfl, HG3.out, ?_, HN2.out, ?_, ?_⟩
                          · rw [HR.out, H1.out, H2.out]; try rfl
                          · rw [H3.out, ByteArray.size_append, ByteArray.size_append, HFS.out]; show _ + 0 + (_ + 1 + _) ≤ _; omega
                          · first
                              | exact bthen (balloc (bthen hB hb2) _).drew hb3
                              | exact balloc (bthen (bthen hB hb2).drew hb3) _
                        case measure =>
                          show (r.extract 1 r.size).size < r.size
                          rw [H3.out]; omega
                    | false =>
                      by_cases h63 : 63 < b.size
                      · have k5 : decide (63 < (b.size : Int)) = true := by simp; omega
                        have HG3 := Lib.hid (show true = (ls ++ [b.data.toList]).any (fun b => decide (63 < b.length)) from by rw [← HG2.out]; simpa using h63)
                        clear HG2
                        go_wp2_with fail
                        refine hbg.mono ?_; rintro e' w2 ⟨rfl, hb2⟩
                        clear hbg
                        go_wp2_with fail
                        have hnew := World.cell?_alloc_mark w2 #[.int .u8 (m : Nat)] 5 (0, 0) 0
                        have HNew := Lib.hid hnew
                        clear hnew
                        go_region_with (first
                          | (go_at_call 19; refine (ref_fold b (by omega) _).mono ?_; rintro e w3 ⟨rfl, hb3⟩
                             have hn2 : w3.cell? ⟨w2.heap.size, 0, none⟩ = some (.int .u8 (m : Nat)) := (hb3.cell (p := ⟨w2.heap.size, 0, none⟩) (by simp)).trans HNew.out)
                          | (go_at_call 19; refine (ref_fold b (by omega) _).mono ?_; rintro e w3 ⟨rfl, hb3⟩))
                        all_goals
                          go_wp2_with fail
                          go_roundw
                          case rel =>
                            refine ⟨_, _, ⟨#[]⟩, ls ++ [b.data.toList], true, rfl, rfl, rfl, rfl, HG3.out, ?_, HN2.out, ?_, ?_⟩
                            · rw [HR.out, H1.out, H2.out]; try rfl
                            · rw [H3.out, ByteArray.size_append, ByteArray.size_append, HFS.out]; show _ + 0 + (_ + 1 + _) ≤ _; omega
                            · first
                                | exact bthen (balloc (bthen hB hb2) _).drew hb3
                                | exact balloc (bthen (bthen hB hb2).drew hb3) _
                          case measure =>
                            show (r.extract 1 r.size).size < r.size
                            rw [H3.out]; omega
                      · have k5 : decide (63 < (b.size : Int)) = false := by simp; omega
                        have HG3 := Lib.hid (show false = (ls ++ [b.data.toList]).any (fun b => decide (63 < b.length)) from by rw [← HG2.out]; simpa using h63)
                        clear HG2
                        go_wp2_with fail
                        refine hbg.mono ?_; rintro e' w2 ⟨rfl, hb2⟩
                        clear hbg
                        go_wp2_with fail
                        have hnew := World.cell?_alloc_mark w2 #[.int .u8 (m : Nat)] 5 (0, 0) 0
                        have HNew := Lib.hid hnew
                        clear hnew
                        go_region_with (first
                          | (go_at_call 19; refine (ref_fold b (by omega) _).mono ?_; rintro e w3 ⟨rfl, hb3⟩
                             have hn2 : w3.cell? ⟨w2.heap.size, 0, none⟩ = some (.int .u8 (m : Nat)) := (hb3.cell (p := ⟨w2.heap.size, 0, none⟩) (by simp)).trans HNew.out)
                          | (go_at_call 19; refine (ref_fold b (by omega) _).mono ?_; rintro e w3 ⟨rfl, hb3⟩))
                        all_goals
                          go_wp2_with fail
                          go_roundw
                          case rel =>
                            refine ⟨_, _, ⟨#[]⟩, ls ++ [b.data.toList], false, rfl, rfl, rfl, rfl, HG3.out, ?_, HN2.out, ?_, ?_⟩
                            · rw [HR.out, H1.out, H2.out]; try rfl
                            · rw [H3.out, ByteArray.size_append, ByteArray.size_append, HFS.out]; show _ + 0 + (_ + 1 + _) ≤ _; omega
                            · first
                                | exact bthen (balloc (bthen hB hb2) _).drew hb3
                                | exact balloc (bthen (bthen hB hb2).drew hb3) _
                          case measure =>
                            show (r.extract 1 r.size).size < r.size
                            rw [H3.out]; omega
                · have k2 : ((r[0].toNat : Int) != 46) = true := by simp; omega
                  have ht : tr = (⟨#[]⟩, 2) := by rw [HTR.out, HR.out, rl_bad hr0 hno ls _ (fun h => h46 (by rw [g0]; exact h.1))]; rfl
                  subst ht
                  clear hbv hno hok hr0 g0 HTR HR
                  go_wp2_with fail
                  refine hbg.mono ?_; rintro e' w2 ⟨rfl, hb2⟩
                  go_wp2_with fail
                  go_ret2
                  exact ⟨rfl, bthen hB hb2⟩
end Go.Proofs.YtceafomifpkiaaaDoor
