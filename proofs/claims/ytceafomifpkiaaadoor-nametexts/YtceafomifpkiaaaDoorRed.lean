/- The contracts of derrickref02.one and begins. -/
import Derived.Test.YtceafomifpkiaaaDoorReb
import Derived.Test.YtceafomifpkiaaaDoorNtm
namespace Go.Proofs.YtceafomifpkiaaaDoor
open Go.RowKit
set_option linter.unusedVariables false

theorem conv_new (W : World) (ns : List Int) (bs : List UInt8) (n : Nat) (h : ns = bs.map fun b => (b.toNat : Int)) (hn : n = bs.length) :
    (convert 44 9 (.slice (some ⟨W.heap.size, 0, none⟩) n n)).run Tryd.prog (W.alloc (.cells (ns.map (Value.int .u8)).toArray 5)) = .ok (.string ⟨bs.toArray⟩) (W.alloc (.cells (ns.map (Value.int .u8)).toArray 5)) := by
  subst h hn
  refine run_convert_bytes_back (P := Tryd.prog) _ 44 9 5 ⟨W.heap.size, 0, none⟩ bs.length bs Tryd.underlying44 Tryd.underlying5 Tryd.underlying9 (fun j hj => ?_)
  have e : Addr.add ⟨W.heap.size, 0, none⟩ j = ⟨W.heap.size, j, none⟩ := by
    unfold Addr.add
    split
    · rename_i h0; simp_all
    · simp
  rw [e]
  refine (World.cell?_alloc_mark W _ 5 (0, 0) j).trans ?_
  simp [hj]

set_option maxRecDepth 100000 in
set_option maxHeartbeats 1000000 in
theorem ref_one (c : UInt8) (w : World) :
    Calls Tryd.prog 41 #[.int .u8 (c.toNat : Nat)] w fun e w' => e = .returned (.string ⟨(esc c).toArray⟩) ∧ Below w.heap.size w w' := by
  have h8 : c.toNat ≤ 255 := by have := c.toNat_lt; omega
  by_cases h1 : c.toNat = 46 ∨ c.toNat = 92
  · have he : esc c = [92, c] := by unfold esc; rw [if_pos h1]
    have HE := Lib.hid he
    have hcv : (convert 44 9 (.slice (some ⟨w.heap.size, 0, none⟩) 2 2)).run Tryd.prog (w.alloc (.cells #[.int .u8 (92), .int .u8 ((c.toNat : Int))] 5)) = .ok (.string ⟨#[92, c]⟩) (w.alloc (.cells #[.int .u8 (92), .int .u8 ((c.toNat : Int))] 5)) := conv_new w [92, (c.toNat : Int)] [92, c] 2 rfl rfl
    clear he
    by_cases h2 : c.toNat = 46
    · have b1 : ((c.toNat : Int) == 46) = true := by simp; omega
      clear h1 h2
      go_enter Tryd.func41, Tryd.ntmps41
      go_wp2_with fail
      go_ret
      exact ⟨by rw [HE.out]; rfl, (Below.refl _ _).alloc (Nat.le_refl _) _⟩
    · have b1 : ((c.toNat : Int) == 46) = false := by simp; omega
      have b2 : ((c.toNat : Int) == 92) = true := by simp; omega
      clear h1 h2
      go_enter Tryd.func41, Tryd.ntmps41
      go_wp2_with fail
      go_ret
      exact ⟨by rw [HE.out]; rfl, (Below.refl _ _).alloc (Nat.le_refl _) _⟩
  · have b1 : ((c.toNat : Int) == 46) = false := by simp; omega
    have b2 : ((c.toNat : Int) == 92) = false := by simp; omega
    by_cases h2 : 33 ≤ c.toNat ∧ c.toNat ≤ 126
    · have he : esc c = [c] := by unfold esc; rw [if_neg h1, if_pos h2]
      have HE := Lib.hid he
      have hcv : (convert 44 9 (.slice (some ⟨w.heap.size, 0, none⟩) 1 1)).run Tryd.prog (w.alloc (.cells #[.int .u8 ((c.toNat : Int))] 5)) = .ok (.string ⟨#[c]⟩) (w.alloc (.cells #[.int .u8 ((c.toNat : Int))] 5)) := conv_new w [(c.toNat : Int)] [c] 1 rfl rfl
      have b3 : decide ((33 : Int) ≤ (c.toNat : Int)) = true := by simp; omega
      have b4 : decide ((c.toNat : Int) ≤ 126) = true := by simp; omega
      clear he h1 h2
      go_enter Tryd.func41, Tryd.ntmps41
      go_wp2_with fail
      go_ret
      exact ⟨by rw [HE.out]; rfl, (Below.refl _ _).alloc (Nat.le_refl _) _⟩
    · have he : esc c = [92, UInt8.ofNat (48 + c.toNat / 100), UInt8.ofNat (48 + c.toNat / 10 % 10), UInt8.ofNat (48 + c.toNat % 10)] := by unfold esc; rw [if_neg h1, if_neg h2]
      have t1 : ((UInt8.ofNat (48 + c.toNat / 100)).toNat : Int) = 48 + (c.toNat : Int) / 100 := by rw [UInt8.toNat_ofNat']; omega
      have t2 : ((UInt8.ofNat (48 + c.toNat / 10 % 10)).toNat : Int) = 48 + (c.toNat : Int) / 10 % 10 := by rw [UInt8.toNat_ofNat']; omega
      have t3 : ((UInt8.ofNat (48 + c.toNat % 10)).toNat : Int) = 48 + (c.toNat : Int) % 10 := by rw [UInt8.toNat_ofNat']; omega
      have hcv : (convert 44 9 (.slice (some ⟨w.heap.size, 0, none⟩) 4 4)).run Tryd.prog (w.alloc (.cells #[.int .u8 (92), .int .u8 (48 + (c.toNat : Int) / 100), .int .u8 (48 + (c.toNat : Int) / 10 % 10), .int .u8 (48 + (c.toNat : Int) % 10)] 5)) = .ok (.string ⟨(esc c).toArray⟩) (w.alloc (.cells #[.int .u8 (92), .int .u8 (48 + (c.toNat : Int) / 100), .int .u8 (48 + (c.toNat : Int) / 10 % 10), .int .u8 (48 + (c.toNat : Int) % 10)] 5)) := by
        rw [he]
        exact conv_new w [92, 48 + (c.toNat : Int) / 100, 48 + (c.toNat : Int) / 10 % 10, 48 + (c.toNat : Int) % 10] [92, UInt8.ofNat (48 + c.toNat / 100), UInt8.ofNat (48 + c.toNat / 10 % 10), UInt8.ofNat (48 + c.toNat % 10)] 4 (by simp only [List.map_cons, List.map_nil, t1, t2, t3]; rfl) rfl
      clear t1 t2 t3 he
      by_cases h3 : 33 ≤ c.toNat
      · have b3 : decide ((33 : Int) ≤ (c.toNat : Int)) = true := by simp; omega
        have b4 : decide ((c.toNat : Int) ≤ 126) = false := by simp; omega
        clear h1 h2
        go_enter Tryd.func41, Tryd.ntmps41
        go_wp2_with fail
        go_ret
        exact ⟨rfl, (Below.refl _ _).alloc (Nat.le_refl _) _⟩
      · have b3 : decide ((33 : Int) ≤ (c.toNat : Int)) = false := by simp; omega
        clear h1 h2
        go_enter Tryd.func41, Tryd.ntmps41
        go_wp2_with fail
        go_ret
        exact ⟨rfl, (Below.refl _ _).alloc (Nat.le_refl _) _⟩

theorem rdOk_iff {l : List UInt8} : rdOk l = true ↔ ∃ c, esc c <+: l := by
  constructor
  · intro h
    refine ⟨(unesc l).1, ?_⟩
    unfold rdOk at h
    rw [← eq_of_beq h]
    exact List.take_prefix _ _
  · rintro ⟨c, t, rfl⟩
    exact (rd_esc c t).1
theorem rdC_of {l : List UInt8} {c : UInt8} (h : esc c <+: l) : rdOk l = true ∧ rdC l = c ∧ rdN l = (esc c).length := by
  obtain ⟨t, rfl⟩ := h
  exact rd_esc c t
theorem rd_esc_eq {l : List UInt8} (h : rdOk l = true) : rdN l = (esc (rdC l)).length ∧ l = esc (rdC l) ++ l.drop (rdN l) := by
  obtain ⟨c, t, rfl⟩ := rdOk_iff.1 h
  obtain ⟨_, h2, h3⟩ := rd_esc c t
  rw [h2, h3]
  exact ⟨rfl, by simp⟩

/-- What derrickref02.begins tells. -/
def bgn (l : List UInt8) : Int := if rdOk l = true then (rdC l).toNat else -1

set_option maxRecDepth 100000 in
set_option maxHeartbeats 1000000 in
theorem ref_begins (s : ByteArray) (hs : s.size ≤ 1048576) (w : World) :
    Calls Tryd.prog 40 #[.string s] w fun e w' => e = .returned (.int .i64 (bgn s.data.toList)) ∧ Below w.heap.size w w' := by
  go_enter Tryd.func40, Tryd.ntmps40
  go_wp2_with fail
  go_loopw [3] (fun i wr => ∃ k : Nat, k ≤ 256 ∧ i = .int .i64 k ∧ (∀ j, j < k → ¬ esc (UInt8.ofNat j) <+: s.data.toList) ∧ Below w.heap.size w wr) (fun i _ => 256 - (intOf i).toNat)
  case atStart => exact ⟨0, Nat.zero_le _, rfl, fun j h => absurd h (by omega), Below.refl _ _⟩
  case round =>
    obtain ⟨k, hk, rfl, hall, hB⟩ := hrel
    have HALL := Lib.hid hall
    clear hall
    by_cases hlt : k < 256
    · have hto : (UInt8.ofNat k).toNat = k := by rw [UInt8.toNat_ofNat']; omega
      have hone := ref_one (UInt8.ofNat k)
      rw [hto] at hone
      have hno : ¬ esc (UInt8.ofNat k) <+: s.data.toList → ∀ j, j < k + 1 → ¬ esc (UInt8.ofNat j) <+: s.data.toList := by
        intro h j hj
        by_cases e : j = k
        · subst e; exact h
        · exact HALL.out j (by omega)
      have hyes : esc (UInt8.ofNat k) <+: s.data.toList → bgn s.data.toList = k := by
        intro h
        obtain ⟨h1, h2, _⟩ := rdC_of h
        unfold bgn
        rw [if_pos h1, h2, hto]
      have hel := esc_len (UInt8.ofNat k)
      have hpre : esc (UInt8.ofNat k) <+: s.data.toList ↔ (esc (UInt8.ofNat k)).length ≤ s.size ∧ ((s.extract 0 (esc (UInt8.ofNat k)).length).toList == esc (UInt8.ofNat k)) = true := by
        rw [ByteArray.toList_eq, extract_list, List.drop_zero, beq_iff_eq]
        constructor
        · intro h
          have := h.length_le
          rw [ba_len] at this
          exact ⟨this, (List.prefix_iff_eq_take.1 h).symm⟩
        · rintro ⟨_, h⟩
          rw [← h]
          exact List.take_prefix _ _
      have HNo := Lib.hid hno
      have HYes := Lib.hid hyes
      have HPre := Lib.hid hpre
      have hsz : (⟨(esc (UInt8.ofNat k)).toArray⟩ : ByteArray).size = (esc (UInt8.ofNat k)).length := by
        show (esc (UInt8.ofNat k)).toArray.size = _
        simp
      clear hno hyes hpre hto
      generalize esc (UInt8.ofNat k) = e at *
      by_cases hle : e.length ≤ s.size
      · have hsl := fun W => slice_to s e.length hle W
        have b1 : decide ((e.length : Int) ≤ (s.size : Int)) = true := by simp; omega
        cases hq : ((s.extract 0 e.length).toList == e) with
        | true =>
          have hb := HYes.out (HPre.out.2 ⟨hle, hq⟩)
          have HB := Lib.hid hb
          clear hb
          go_wp2_with fail
          refine (hone _).mono ?_; rintro e' w2 ⟨rfl, hb2⟩
          go_wp2_with fail
          go_ret
          exact ⟨by rw [HB.out]; rfl, bthen hB hb2⟩
        | false =>
          have HN := Lib.hid (HNo.out (fun h => by rw [(HPre.out.1 h).2] at hq; cases hq))
          go_wp2_with fail
          refine (hone _).mono ?_; rintro e' w2 ⟨rfl, hb2⟩
          go_wp2_with fail
          go_roundw
          case rel => exact ⟨k + 1, hlt, by go_num, HN.out, bthen hB hb2⟩
          case measure => simp [intOf]; omega
      · have b1 : decide ((e.length : Int) ≤ (s.size : Int)) = false := by simp; omega
        have HN := Lib.hid (HNo.out (fun h => hle (HPre.out.1 h).1))
        go_wp2_with fail
        refine (hone _).mono ?_; rintro e' w2 ⟨rfl, hb2⟩
        go_wp2_with fail
        go_roundw
        case rel => exact ⟨k + 1, hlt, by go_num, HN.out, bthen hB hb2⟩
        case measure => simp [intOf]; omega
    · have hb : bgn s.data.toList = -1 := by
        unfold bgn
        rw [if_neg]
        intro h
        obtain ⟨c, hc⟩ := rdOk_iff.1 h
        have := HALL.out c.toNat (by have := c.toNat_lt; omega)
        rw [UInt8.ofNat_toNat] at this
        exact this hc
      have HB := Lib.hid hb
      clear hb
      go_wp2_with fail
      go_ret
      exact ⟨by rw [HB.out]; rfl, hB⟩

/-- What derrickref02.open tells, behind what was read before. -/
def opn (l : List UInt8) (last : Bool) : Bool :=
  if h0 : l = [] then last else if h : rdOk l = true then opn (l.drop (rdN l)) true else opn (l.drop 1) false
termination_by l.length
decreasing_by
  · have := rdN_pos h
    have h2 : l.length ≠ 0 := fun e => h0 (List.eq_nil_of_length_eq_zero e)
    rw [List.length_drop]; omega
  · have h2 : l.length ≠ 0 := fun e => h0 (List.eq_nil_of_length_eq_zero e)
    rw [List.length_drop]; omega
theorem opn_nil (b : Bool) : opn [] b = b := by rw [opn, dif_pos rfl]
theorem opn_yes {l : List UInt8} (h0 : l ≠ []) (h : rdOk l = true) (b : Bool) : opn l b = opn (l.drop (rdN l)) true := by rw [opn, dif_neg h0, dif_pos h]
theorem opn_no {l : List UInt8} (h0 : l ≠ []) (h : ¬ rdOk l = true) (b : Bool) : opn l b = opn (l.drop 1) false := by rw [opn, dif_neg h0, dif_neg h]

set_option maxRecDepth 100000 in
set_option maxHeartbeats 1000000 in
theorem ref_open (s : ByteArray) (hs : s.size ≤ 1048576) (w : World) :
    Calls Tryd.prog 39 #[.string s] w fun e w' => e = .returned (.bool (opn s.data.toList false)) ∧ Below w.heap.size w w' := by
  go_enter Tryd.func39, Tryd.ntmps39
  go_wp2_with fail
  go_loopw [0, 3] (fun t b wr => ∃ (r : ByteArray) (x : Bool), t = .string r ∧ b = .bool x ∧ r.size ≤ s.size ∧ opn s.data.toList false = opn r.data.toList x ∧ Below w.heap.size w wr) (fun t _ _ => match t with | .string r => r.size | _ => 0)
  case atStart => exact ⟨s, false, rfl, rfl, Nat.le_refl _, rfl, Below.refl _ _⟩
  case round =>
    obtain ⟨r, x, rfl, rfl, hrs, ho, hB⟩ := hrel
    have HO := Lib.hid ho
    clear ho
    by_cases h0 : r.size = 0
    · have hr0 : r.data.toList = [] := List.eq_nil_of_length_eq_zero (by rw [ba_len]; exact h0)
      have b0 : (!r.toList.isEmpty) = false := by rw [ByteArray.toList_eq, hr0]; rfl
      have b1 : r.toList = [] := by rw [ByteArray.toList_eq, hr0]
      have hx : opn s.data.toList false = x := by rw [HO.out, hr0, opn_nil]
      have HX := Lib.hid hx
      clear h0 hr0 hx
      go_wp2_with fail
      go_ret
      exact ⟨by rw [HX.out]; rfl, hB⟩
    · have hr0 : r.data.toList ≠ [] := fun e => h0 (by rw [← ba_len, e]; rfl)
      have b0 : (!r.toList.isEmpty) = true := by rw [ByteArray.toList_eq]; simpa using hr0
      have b1 : ¬ r.toList = [] := by rw [ByteArray.toList_eq]; exact hr0
      have hbg := ref_begins r (by omega) wr
      cases hok : rdOk r.data.toList with
      | true =>
        have hst := opn_yes hr0 hok x
        obtain ⟨hn, _⟩ := rd_esc_eq hok
        have hn1 := rdN_pos hok
        have hln := rdN_le (l := r.data.toList) (by rw [ba_len]; omega)
        rw [ba_len] at hln
        have hbv : bgn r.data.toList = ((rdC r.data.toList).toNat : Nat) := by unfold bgn; rw [if_pos hok]
        rw [hbv] at hbg
        have h8 : (rdC r.data.toList).toNat ≤ 255 := by have := (rdC r.data.toList).toNat_lt; omega
        have hone := ref_one (rdC r.data.toList)
        have hsl := fun W => slice_from r (rdN r.data.toList) hln W
        have hdrop : (r.extract (rdN r.data.toList) r.size).data.toList = r.data.toList.drop (rdN r.data.toList) := by
          rw [extract_list, ← ba_len, List.take_length]
        have hdz : (r.extract (rdN r.data.toList) r.size).size = r.size - rdN r.data.toList := by rw [ByteArray.size_extract]; omega
        have hsz : (⟨(esc (rdC r.data.toList)).toArray⟩ : ByteArray).size = rdN r.data.toList := by
          show (esc (rdC r.data.toList)).toArray.size = _
          rw [hn]; simp
        have H1 := Lib.hid hst
        have H2 := Lib.hid hdrop
        have H3 := Lib.hid hdz
        clear hst hn hbv hdrop hdz hok h0 hr0
        generalize rdN r.data.toList = n at *
        generalize rdC r.data.toList = c at *
        have hsz2 : (esc c).length = n := by rw [← hsz]; show _ = (esc c).toArray.size; simp
        generalize esc c = e at *
        clear hsz
        go_wp2_with fail
        refine hbg.mono ?_; rintro e' w2 ⟨rfl, hb2⟩
        go_wp2_with fail
        refine (hone _).mono ?_; rintro e' w3 ⟨rfl, hb3⟩
        go_wp2_with fail
        go_roundw
        case rel => exact ⟨_, true, rfl, rfl, by rw [H3.out]; omega, by rw [HO.out, H1.out, H2.out], bthen (bthen hB hb2) hb3⟩
        case measure =>
          show (r.extract n r.size).size < r.size
          rw [H3.out]; omega
      | false =>
        have hst := opn_no hr0 (by rw [hok]; decide) x
        have hbv : bgn r.data.toList = -1 := by unfold bgn; rw [if_neg (by rw [hok]; decide)]
        rw [hbv] at hbg
        have hsl := fun W => slice_from r 1 (by omega) W
        have hdrop : (r.extract 1 r.size).data.toList = r.data.toList.drop 1 := by
          rw [extract_list, ← ba_len, List.take_length]
        have hdz : (r.extract 1 r.size).size = r.size - 1 := by rw [ByteArray.size_extract]; omega
        have H1 := Lib.hid hst
        have H2 := Lib.hid hdrop
        have H3 := Lib.hid hdz
        clear hst hbv hdrop hdz hok hr0
        go_wp2_with fail
        refine hbg.mono ?_; rintro e' w2 ⟨rfl, hb2⟩
        go_wp2_with fail
        go_roundw
        case rel => exact ⟨_, false, rfl, rfl, by rw [H3.out]; omega, by rw [HO.out, H1.out, H2.out], bthen hB hb2⟩
        case measure =>
          show (r.extract 1 r.size).size < r.size
          rw [H3.out]; omega
end Go.Proofs.YtceafomifpkiaaaDoor
