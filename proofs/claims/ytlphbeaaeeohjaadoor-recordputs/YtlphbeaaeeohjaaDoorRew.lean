/- The contracts of derrickref02.low, Fold, Labels and May: as the program has them. -/
import Derived.Test.YtlphbeaaeeohjaaDoorNmj
import Derived.Test.YtlphbeaaeeohjaaDoorNmn
import Derived.Laws.MakeOwn
namespace Go.Proofs.YtlphbeaaeeohjaaDoor
open Go.RowKit
set_option linter.unusedVariables false
open Go.RowKit Go.Shelf
theorem info9 : (Tryd.prog.info? 9).map (fun i => (i.zero, i.size, i.bytes)) = some (some (.string ⟨#[]⟩), 1, 16) := by kernel_rfl

/-- A label, as a string. -/
def labS {s : ByteArray} (x : At s) : ByteArray := s.extract (x.1 + 1) (nxt s x.1)
def labsB (s : ByteArray) : List ByteArray := if cerr s = 0 then (labsFrom s 0).map labS else []
/-- What name.Labels returns. -/
def LabsPost (s : ByteArray) (k : IntKind) (w : World) (e : Ending) (w' : World) : Prop :=
  ∃ A cap, e = .returned (.tuple #[.slice A (labsB s).length cap, .int k (cerr s : Nat)]) ∧ Strs w' A (labsB s) ∧ Below w.heap.size w w'

theorem strs_of_own {w : World} {n₀ : Nat} {v : Value} {ls : List ByteArray} (h : w.ownsRow n₀ 9 1 v ls.length (ls.map Value.string)) : ∃ A cap, v = .slice A ls.length cap ∧ Strs w A ls := by
  rcases h.2 with ⟨rfl, h0⟩ | ⟨g, cap, cur, rfl, _, hg, hle, _, hcs, htk⟩
  · have : ls = [] := List.eq_nil_of_length_eq_zero h0
    subst this
    exact ⟨none, 0, rfl, fun j hj => absurd hj (by simp)⟩
  · refine ⟨_, cap, rfl, fun j hj => ⟨_, rfl, (Array.getElem?_eq_some_iff.1 hg).1, ?_⟩⟩
    exact h.cells (g := g) rfl j _ (by simp [hj])

theorem labS_size {s : ByteArray} (x : At s) : (labS x).size < s.size := by
  have h := x.lt
  unfold labS
  rw [ByteArray.size_extract]
  omega

theorem info5 : (Tryd.prog.info? 5).map (fun i => (i.zero, i.size, i.bytes)) = some (some (.int .u8 0), 1, 1) := by kernel_rfl
theorem conv_nil (w : World) : (convert 74 9 (.slice none 0 0)).run Tryd.prog w = .ok (.string ⟨#[]⟩) w := by kernel_rfl
theorem conv_own {w : World} {base : Nat} {v : Value} {l : List UInt8} (h : w.ownsRow base 5 1 v l.length (Lib.byteCells l)) : (convert 74 9 v).run Tryd.prog w = .ok (.string ⟨l.toArray⟩) w := by
  rcases h.2 with ⟨rfl, h0⟩ | ⟨g, cap, cur, rfl, _, hg, hle, _, hcs, htk⟩
  · have : l = [] := List.eq_nil_of_length_eq_zero h0
    subst this
    exact conv_nil w
  · refine run_convert_bytes_back (P := Tryd.prog) w 74 9 5 ⟨g, 0, none⟩ cap l Tryd.underlying74 Tryd.underlying5 Tryd.underlying9 (fun j hj => ?_)
    exact h.cells (g := g) rfl j _ (by simp [Lib.byteCells, hj])
theorem own_form {w : World} {base : Nat} {e : TypeId} {v : Value} {n : Nat} {xs : List Value} (h : w.ownsRow base e 1 v n xs) : ∃ A cap, v = .slice A n cap := by
  rcases h.2 with ⟨rfl, rfl⟩ | ⟨g, cap, cur, rfl, _⟩
  · exact ⟨_, _, rfl⟩
  · exact ⟨_, _, rfl⟩

theorem ref_low (c : UInt8) (w : World) :
    Calls Tryd.prog 87 #[.int .u8 (c.toNat : Nat)] w fun e w' => e = .returned (.int .u8 ((low c).toNat : Nat)) ∧ w = w' := by
  have h8 : c.toNat ≤ 255 := by have := c.toNat_lt; omega
  have hlow : low c = if 65 ≤ c.toNat ∧ c.toNat ≤ 90 then c + 32 else c := rfl
  by_cases hu : 65 ≤ c.toNat ∧ c.toNat ≤ 90
  · rw [if_pos hu] at hlow
    have hln : ((low c).toNat : Int) = c.toNat + 32 := by rw [hlow, UInt8.toNat_add]; simp; omega
    have HN := Lib.hid hln
    obtain ⟨h1, h2⟩ := hu
    clear hln hlow
    go_enter Tryd.func87, Tryd.ntmps87
    go_wp2_with fail
    go_ret
    exact ⟨by rw [HN.out]; rfl, rfl⟩
  · rw [if_neg hu] at hlow
    have HL := Lib.hid hlow
    clear hlow
    by_cases h1 : 65 ≤ c.toNat
    · have h2 : ¬ c.toNat ≤ 90 := fun h => hu ⟨h1, h⟩
      clear hu
      go_enter Tryd.func87, Tryd.ntmps87
      go_wp2_with fail
      go_ret
      exact ⟨by rw [HL.out]; rfl, rfl⟩
    · clear hu
      go_enter Tryd.func87, Tryd.ntmps87
      go_wp2_with fail
      go_ret
      exact ⟨by rw [HL.out]; rfl, rfl⟩

set_option maxRecDepth 100000 in
set_option maxHeartbeats 1000000 in
theorem ref_fold (s : ByteArray) (hs : s.size ≤ 1048576) (w : World) :
    Calls Tryd.prog 65 #[.string s] w fun e w' => e = .returned (.string (foldB s)) ∧ Below w.heap.size w w' := by
  obtain ⟨i0, hi, hz0, hz1, hz2⟩ := info_parts info5
  go_enter Tryd.func65, Tryd.ntmps65
  go_wp2_with fail
  go_loopw [3, 4] (fun b i wr => ∃ k : Nat, k ≤ s.size ∧ i = .int .i64 k ∧ wr.ownsRow w.heap.size 5 1 b ((s.data.toList.take k).map low).length (Lib.byteCells ((s.data.toList.take k).map low)) ∧ Below w.heap.size w wr) (fun _ i _ => s.size - (intOf i).toNat)
  case atStart => exact ⟨0, Nat.zero_le _, rfl, World.ownsRow_nil _ _ _ _, Below.refl _ _⟩
  case round =>
    obtain ⟨k, hk, rfl, hown, hB⟩ := hrel
    obtain ⟨A, cap, rfl⟩ := own_form hown
    by_cases hlt : k < s.size
    · have h8 : s[k].toNat ≤ 255 := by have := s[k].toNat_lt; omega
      have hsn : (s.data.toList.take (k + 1)).map low = (s.data.toList.take k).map low ++ [low s[k]] := by
        rw [List.take_succ_eq_append_getElem (by rw [ba_len]; exact hlt), List.map_append]; rfl
      have hlen : ((s.data.toList.take k).map low).length ≤ k := by rw [List.length_map]; exact List.length_take_le _ _
      have HS := Lib.hid hsn
      have hs2 := hB.size
      generalize (s.data.toList.take k).map low = acc at *
      clear hsn
      go_wp2_with fail
      refine (ref_low s[k] _).mono ?_; rintro e w2 ⟨rfl, rfl⟩
      go_wp2_with (at_builtin; refine wpList_append_own _ rfl _ _ 74 rfl w.heap.size 5 i0 (.int .u8 0) 1 1 Tryd.underlying74 hi hz0 hz1 hz2 rfl (by decide) _ _ _ rfl (hown.alloc _) ⟨wr.heap.size, 0, none⟩ 1 1 [.int .u8 ((low s[k]).toNat : Nat)] rfl rfl (cell_one_new _ _ _) (by simp [Value.oneCell']) (by unfold maxLen; omega) (by omega) (by simp; omega) ?_; intro v' w3 hown' hgrow _)
      go_roundw
      case rel =>
        refine ⟨k + 1, hlt, by go_num, by rw [HS.out]; simpa [Lib.byteCells] using hown', ?_⟩
        exact (balloc hB _).grown hgrow (by simp; omega) (fun k e => (hown.lt k e).1)
      case measure => simp [intOf]; omega
    · have hfull : (s.data.toList.take k).map low = s.data.toList.map low := by rw [List.take_of_length_le (by rw [ba_len]; omega)]
      rw [hfull] at hown
      obtain ⟨fl, hfl⟩ : ∃ fl, s.data.toList.map low = fl := ⟨_, rfl⟩
      have hfb : foldB s = ⟨fl.toArray⟩ := by rw [← hfl]; rfl
      rw [hfull, hfl]
      rw [hfl] at hown
      have hcv := conv_own hown
      have HF := Lib.hid hfb
      clear hfull hfb hfl
      go_wp2_with fail
      go_ret
      exact ⟨by rw [HF.out]; rfl, hB⟩

theorem endZ_at {s : ByteArray} {k : Nat} (he : endFrom s 0 = k) (hk : k ≤ s.size) : endZ s = true ↔ ∃ h : k < s.size, k + 1 = s.size ∧ s[k].toNat = 0 := by
  rw [endZ_iff, he]
  constructor
  · intro h
    have hlen := congrArg List.length h
    rw [List.length_drop, ba_len] at hlen
    simp at hlen
    have hlt : k < s.size := by omega
    refine ⟨hlt, by omega, ?_⟩
    have h2 := lsz_drop hlt
    rw [h] at h2
    have h3 := (List.cons.inj h2).1
    rw [lsz_eq hlt, UInt8.ofNat_toNat] at h3
    rw [← h3]; rfl
  · rintro ⟨hlt, h1, h2⟩
    rw [lsz_drop hlt, lsz_eq hlt, h2, List.drop_of_length_le (by rw [ba_len]; omega)]
    rfl

set_option maxRecDepth 100000 in
set_option maxHeartbeats 1000000 in
theorem ref_labels (s : ByteArray) (hs : s.size ≤ 1048576) (w : World) :
    Calls Tryd.prog 69 #[.string s] w (LabsPost s .i64 w) := by
  obtain ⟨i0, hi, hz0, hz1, hz2⟩ := info_parts info9
  go_enter Tryd.func69, Tryd.ntmps69
  go_wp2_with fail
  go_loopw [4, 5] (fun b i wr => ∃ (k : Nat) (pre : List (At s)), k ≤ s.size ∧ i = .int .i64 k ∧ wr.ownsRow w.heap.size 9 1 b pre.length (pre.map fun x => Value.string (labS x)) ∧ labsFrom s 0 = pre ++ labsFrom s k ∧ endFrom s 0 = endFrom s k ∧ pre.length ≤ k ∧ Below w.heap.size w wr) (fun _ i _ => s.size - (intOf i).toNat)
  case atStart => exact ⟨0, [], Nat.zero_le _, rfl, World.ownsRow_nil _ _ _ _, rfl, rfl, Nat.zero_le _, Below.refl _ _⟩
  case round =>
    obtain ⟨k, pre, hk, rfl, hown, hlf, hef, hpk, hB⟩ := hrel
    obtain ⟨A, cap, rfl⟩ := own_form hown
    have HL := Lib.hid hlf
    have HE := Lib.hid hef
    clear hlf hef
    have hs2 := hB.size
    by_cases hlt : k < s.size
    · have h8 : s[k].toNat ≤ 255 := by have := s[k].toNat_lt; omega
      by_cases c0 : s[k].toNat = 0
      · have hnl : ¬ isL s k = true := fun h => (isL_iff.1 h).2.1 (by rw [lsz_eq hlt]; exact c0)
        have hend : endFrom s 0 = k := by rw [HE.out, endFrom_nil hnl]
        have hlb : labsFrom s 0 = pre := by rw [HL.out, labsFrom_nil hnl]; simp
        have b0 : ((s[k].toNat : Int) != 0) = false := by simp; omega
        by_cases c1 : k + 1 = s.size
        · have hz := (endZ_at hend hk).2 ⟨hlt, c1, c0⟩
          have b1 : ((k : Int) != (s.size : Int) - 1) = false := by simp; omega
          by_cases c2 : s.size ≤ 255
          · have hce := (cnt_yes hz c2).2
            have hla : labsB s = pre.map labS := by unfold labsB; rw [if_pos hce, hlb]
            have H1 := Lib.hid hce
            have H2 := Lib.hid hla
            have b2 : decide (255 < (s.size : Int)) = false := by simp; omega
            have hown' : wr.ownsRow w.heap.size 9 1 (.slice A pre.length cap) (labsB s).length ((labsB s).map Value.string) := by
              rw [hla, List.length_map, List.map_map]; exact hown
            obtain ⟨A', cap', hv, hS⟩ := strs_of_own hown'
            have hlen : (labsB s).length = pre.length := by rw [hla, List.length_map]
            have HLen := Lib.hid hlen
            clear hce hla hz hend hlb hnl c0 hlen hown'
            go_wp2_with fail
            go_ret2
            refine ⟨A', cap', ?_, hS, hB⟩
            rw [← hv, H1.out]
            rfl
          · have hce := (cnt_long hz (by omega)).2
            have hla : labsB s = [] := by unfold labsB; rw [if_neg (by rw [hce]; decide)]
            have H1 := Lib.hid hce
            have H2 := Lib.hid hla
            have b2 : decide (255 < (s.size : Int)) = true := by simp; omega
            clear hce hla hz hend hlb hnl c0
            go_wp2_with fail
            go_ret2
            exact ⟨none, 0, by rw [H1.out, H2.out]; rfl, by rw [H2.out]; exact fun j hj => absurd hj (by simp), hB⟩
        · have hz : endZ s = false := by
            cases hz : endZ s with
            | false => rfl
            | true => obtain ⟨_, h, _⟩ := (endZ_at hend hk).1 hz; exact (c1 h).elim
          have hce := (cnt_form hz).2
          have hla : labsB s = [] := by unfold labsB; rw [if_neg (by rw [hce]; decide)]
          have H1 := Lib.hid hce
          have H2 := Lib.hid hla
          have b1 : ((k : Int) != (s.size : Int) - 1) = true := by simp; omega
          clear hce hla hz hend hlb hnl c0
          go_wp2_with fail
          go_ret2
          exact ⟨none, 0, by rw [H1.out, H2.out]; rfl, by rw [H2.out]; exact fun j hj => absurd hj (by simp), hB⟩
      · have b0 : ((s[k].toNat : Int) != 0) = true := by simp; omega
        by_cases hl : isL s k = true
        · obtain ⟨_, h1, h2, h3⟩ := isL_iff.1 hl
          unfold nxt at h3
          rw [lsz_eq hlt] at h1 h2 h3
          have e1 : nxt s k = k + 1 + s[k].toNat := by unfold nxt; rw [lsz_eq hlt]
          have hlc := labsFrom_cons hl
          have hec := endFrom_cons hl
          have b1 : decide (63 < (s[k].toNat : Int)) = false := by simp; omega
          have b2 : decide ((s.size : Int) < (k : Int) + 1 + (s[k].toNat : Int)) = false := by simp; omega
          have hsl := fun W => slice_at s ((k : Int) + 1) ((k : Int) + 1 + (s[k].toNat : Int)) (k + 1) (k + 1 + s[k].toNat) (by omega) (by omega) (by omega) (by omega) W
          have hlx : labS ⟨k, hl⟩ = s.extract (k + 1) (k + 1 + s[k].toNat) := by unfold labS; rw [e1]
          have H1 := Lib.hid hlc
          have H2 := Lib.hid hec
          have H3 := Lib.hid e1
          have H4 := Lib.hid hlx
          clear hlc hec e1 hlx c0
          go_wp2_with (at_builtin; refine wpList_append_own _ rfl _ _ 107 rfl w.heap.size 9 i0 (.string ⟨#[]⟩) 1 16 Tryd.underlying107 hi hz0 hz1 hz2 rfl (by decide) _ _ _ rfl (hown.alloc _) ⟨wr.heap.size, 0, none⟩ 1 1 [.string (s.extract (k + 1) (k + 1 + s[k].toNat))] rfl rfl (cell_one_new _ _ _) (by simp [Value.oneCell']) (by unfold maxLen; omega) (by omega) (by simp; omega) ?_; intro v' w3 hown' hgrow _)
          go_roundw
          case rel =>
            refine ⟨k + 1 + s[k].toNat, pre ++ [⟨k, hl⟩], h3, by go_num, ?_, ?_, ?_, by simp; omega, ?_⟩
            · rw [← H4.out] at hown'; simpa using hown'
            · rw [HL.out, H1.out, H3.out]; simp
            · rw [HE.out, H2.out, H3.out]
            · exact (balloc hB _).grown hgrow (by simp; omega) (fun k e => (hown.lt k e).1)
          case measure => simp [intOf]; omega
        · have hend : endFrom s 0 = k := by rw [HE.out, endFrom_nil hl]
          have hz : endZ s = false := by
            cases hz : endZ s with
            | false => rfl
            | true => obtain ⟨_, _, h⟩ := (endZ_at hend hk).1 hz; exact (c0 h).elim
          have hce := (cnt_form hz).2
          have hla : labsB s = [] := by unfold labsB; rw [if_neg (by rw [hce]; decide)]
          have H1 := Lib.hid hce
          have H2 := Lib.hid hla
          have hbad : 63 < s[k].toNat ∨ s.size < k + 1 + s[k].toNat := by
            rcases Nat.lt_or_ge 63 s[k].toNat with h | h
            · exact .inl h
            · rcases Nat.lt_or_ge s.size (k + 1 + s[k].toNat) with h' | h'
              · exact .inr h'
              · refine (hl ?_).elim
                rw [isL_iff]
                unfold nxt
                rw [lsz_eq hlt]
                exact ⟨hlt, c0, h, h'⟩
          by_cases c1 : 63 < s[k].toNat
          · have b1 : decide (63 < (s[k].toNat : Int)) = true := by simp; omega
            clear hce hla hz hend hbad c1 c0
            go_wp2_with fail
            go_ret2
            exact ⟨none, 0, by rw [H1.out, H2.out]; rfl, by rw [H2.out]; exact fun j hj => absurd hj (by simp), hB⟩
          · have b1 : decide (63 < (s[k].toNat : Int)) = false := by simp; omega
            have b2 : decide ((s.size : Int) < (k : Int) + 1 + (s[k].toNat : Int)) = true := by simp; omega
            clear hce hla hz hend hbad c0
            go_wp2_with fail
            go_ret2
            exact ⟨none, 0, by rw [H1.out, H2.out]; rfl, by rw [H2.out]; exact fun j hj => absurd hj (by simp), hB⟩
    · have hnl : ¬ isL s k = true := fun h => hlt (isL_iff.1 h).1
      have hend : endFrom s 0 = k := by rw [HE.out, endFrom_nil hnl]
      have hz : endZ s = false := by
        cases hz : endZ s with
        | false => rfl
        | true => obtain ⟨h, _, _⟩ := (endZ_at hend hk).1 hz; exact (hlt h).elim
      have hce := (cnt_form hz).2
      have hla : labsB s = [] := by unfold labsB; rw [if_neg (by rw [hce]; decide)]
      have H1 := Lib.hid hce
      have H2 := Lib.hid hla
      have b1 : ((k : Int) != (s.size : Int) - 1) = true := by simp; omega
      clear hce hla hz hend hnl
      go_wp2_with fail
      go_ret2
      exact ⟨none, 0, by rw [H1.out, H2.out]; rfl, by rw [H2.out]; exact fun j hj => absurd hj (by simp), hB⟩

set_option maxHeartbeats 400000 in
theorem ref_may (s : ByteArray) (hs : s.size ≤ 1048576) (w : World) :
    Calls Tryd.prog 42 #[.string s] w fun e w' => e = .returned (.bool (mayB s)) ∧ Below w.heap.size w w' := by
  go_enter Tryd.func42, Tryd.ntmps42
  go_wp2_with fail
  refine (ref_labels s hs _).mono ?_; rintro e w1 ⟨A, cap, rfl, hS, hb1⟩
  by_cases hz : cerr s = 0
  · have hm : mayB s = ((foldB s).toList == s.toList) := by simp [mayB, hz]
    have HM := Lib.hid hm
    have hz1 : ((cerr s : Nat) : Int) = 0 := by omega
    clear hm hz
    rw [hz1]
    clear hz1
    go_wp2_with fail
    refine (ref_fold s hs _).mono ?_; rintro e w2 ⟨rfl, hb2⟩
    go_wp2_with fail
    go_ret
    exact ⟨ret_bool HM.out.symm, bthen hb1 hb2⟩
  · have hm : mayB s = false := by simp [mayB, hz]
    have HM := Lib.hid hm
    have hz1 : (((cerr s : Nat) : Int) == 0) = false := by simpa using hz
    clear hm hz
    go_wp2_with fail
    go_ret
    exact ⟨ret_bool HM.out.symm, hb1⟩
end Go.Proofs.YtlphbeaaeeohjaaDoor
