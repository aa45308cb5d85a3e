/- The walk of derricklaw09.HashSpreads. -/
import Derived.Test.YtdgbmcjlnpfndaaHsd
namespace Go.Proofs.Ytdgbmcjlnpfndaa
open Go.RowKit
set_option linter.unusedVariables false

/-- The counts of the first shards, together. -/
def cum (l : List Rc) (m i : Nat) : Nat := ((List.range i).map (cnt l m)).sum
theorem cum_succ (l : List Rc) (m i : Nat) : cum l m (i + 1) = cum l m i + cnt l m i := by
  unfold cum
  rw [List.range_succ, List.map_append, List.sum_append]
  simp
theorem cum_nil (m i : Nat) : cum [] m i = 0 := by
  induction i with
  | zero => rfl
  | succ i ih => rw [cum_succ, ih]; rfl
theorem cnt_cons (a : Rc) (l : List Rc) (m i : Nat) : cnt (a :: l) m i = cnt l m i + if shN a m = i then 1 else 0 := by
  unfold cnt
  rw [List.countP_cons]
  simp
theorem cum_cons (a : Rc) (l : List Rc) (m i : Nat) : cum (a :: l) m i = cum l m i + if shN a m < i then 1 else 0 := by
  induction i with
  | zero => simp [cum]
  | succ i ih =>
    rw [cum_succ, cum_succ, ih, cnt_cons]
    by_cases h1 : shN a m = i
    · rw [if_pos h1, if_neg (by omega), if_pos (by omega)]; omega
    · by_cases h2 : shN a m < i
      · rw [if_neg h1, if_pos h2, if_pos (by omega)]
        omega
      · rw [if_neg h1, if_neg h2, if_neg (by omega)]
        omega
theorem cum_all (l : List Rc) (m : Nat) (hm : 1 ≤ m) : cum l m m = l.length := by
  induction l with
  | nil => exact cum_nil m m
  | cons a l ih => rw [cum_cons, ih, if_pos (shN_lt a hm)]; rfl
theorem cum_le (l : List Rc) (m i : Nat) : cum l m i ≤ l.length := by
  induction l with
  | nil => rw [cum_nil]; exact Nat.zero_le _
  | cons a l ih => rw [cum_cons, List.length_cons]; split <;> omega
theorem cnt_pos {l : List Rc} {m : Nat} {r : Rc} (h : r ∈ l) : 1 ≤ cnt l m (shN r m) := by
  unfold cnt
  exact List.countP_pos_iff.2 ⟨r, h, by simp⟩
theorem cnts_at (l : List Rc) (m i : Nat) (h : i < (cnts l m).length) : (cnts l m)[i] = cnt l m i := by simp [cnts]
/-- What the walk over the questions asks at each. -/
theorem ns_at {w : World} {A : Option Addr} {l : List Rc} {m : Nat} (h : Ns .i64 w A (cnts l m)) (i : Nat) (hi : i < m) : ∃ b off : Nat, A = some ⟨b, off, none⟩ ∧ w.cell? ⟨b, off + i, none⟩ = some (.int .i64 (cnt l m i : Nat)) := by
  obtain ⟨b, off, h1, h2⟩ := h i (by rw [cnts_len]; exact hi)
  rw [cnts_at] at h2
  exact ⟨b, off, h1, h2⟩

set_option maxRecDepth 100000 in
set_option maxHeartbeats 2000000 in
theorem spreads_core (A : Option Addr) (cap : Nat) (l : List Rc) (k m : Nat) (hk : k < 256) (hm : m = 1 + k % 16) (ho : ∀ r ∈ l, r.Ok) (hf : fewQ l = true) (w : World) (hI : Sl qf w A cap l) :
    Calls Try.prog 4 #[.slice A l.length cap, .int .u8 (k : Nat)] w fun e w' => e = .returned (.bool true) ∧ Below w.heap.size w w' := by
  obtain ⟨hl, hn⟩ := fewQ_out hf
  have h1 : 1 ≤ m := by omega
  have h2 : m ≤ 16 := by omega
  have HS := Lib.hid (fun w => shown_any w)
  have HW := Lib.hid (few_any A cap l (by omega) w hI)
  rw [hf] at HW
  have HO := Lib.hid (fun r (h : r ∈ l) => (⟨ho r h, Nat.le_trans (hn r h) (by omega)⟩ : r.Ok ∧ r.n.size ≤ 100000))
  have HP := Lib.hid (spread_any A cap l (by omega) HO.out m h1 h2 w hI)
  have HI := Lib.hid hI
  have e1 : ((k : Int) % 16) = ((k % 16 : Nat) : Int) := by omega
  have e2 : (k : Int).tmod 16 = ((k % 16 : Nat) : Int) := by rw [Int.tmod_eq_emod_of_nonneg (by omega), e1]
  have e3 : (1 : Int) + ((k % 16 : Nat) : Int) = (m : Nat) := by omega
  have b1 : k % 16 < 16 := Nat.mod_lt _ (by decide)
  have HHm := Lib.hid hm
  clear hI ho hn hf hm hk e1
  generalize k % 16 = k' at *
  go_enter Try.func4, Try.ntmps4
  go_upto_region 5 with (first
    | (go_at_call 8; with_reducible (refine (HS.out _).mono ?_); rintro e w1 ⟨rfl, rfl⟩)
    | (go_at_call 9; with_reducible (refine HW.out.mono ?_); rintro e w1 ⟨rfl, rfl⟩))
  go_upto_region 6 with (go_at_call 17; with_reducible (refine HP.out.mono ?_); rintro e w2 ⟨g, rfl, hN, hb2⟩; have HN := Lib.hid hN; have HB := Lib.hid hb2; have HI2 := Lib.hid (HI.out.below' hb2); clear hN hb2)
  go_wp2_with fail
  go_loopw [8, 9] (fun y x wr => ∃ i : Nat, i ≤ m ∧ x = .int .i64 i ∧ y = .int .i64 (cum l m i : Nat) ∧ w2 = wr) (fun _ x _ => m - (intOf x).toNat)
  case atStart => exact ⟨0, Nat.zero_le _, rfl, rfl, rfl⟩
  case round =>
    obtain ⟨i, hi, rfl, rfl, rfl⟩ := hrel
    by_cases hlt : i < m
    · obtain ⟨b, off, hA, c0⟩ := ns_at HN.out i hlt
      cases hA
      rw [Nat.zero_add] at c0
      have HT := Lib.hid (cum_succ l m i)
      have u1 : cum l m i ≤ 200 := Nat.le_trans (cum_le l m i) hl
      have u2 : cnt l m i ≤ 200 := Nat.le_trans (cnt_le l m i) hl
      generalize cum l m i = x at *
      generalize cnt l m i = y at *
      go_wp2_with fail
      go_roundw
      case rel => exact ⟨i + 1, hlt, by go_num, by rw [HT.out]; go_num, by first | rfl | trivial⟩
      case measure => simp [intOf]; omega
    · obtain rfl : i = m := by omega
      rw [cum_all l i h1]
      go_wp2_with fail
      go_loopw [10, 11] (fun x _ wx => ∃ j : Nat, j ≤ l.length ∧ x = .int .i64 j ∧ Below w2.heap.size w2 wx) (fun x _ _ => l.length - (intOf x).toNat)
      case atStart => exact ⟨0, Nat.zero_le _, rfl, Below.refl _ _⟩
      case round =>
        obtain ⟨j, hj, rfl, hbel⟩ := hrel
        by_cases hjl : j < l.length
        · obtain ⟨b, off, rfl, hb, c0, c1, c2⟩ := (HI2.out.below' hbel).ask3 j hjl
          have hr := HO.out l[j] (List.getElem_mem hjl)
          have HC := Lib.hid (fun W => shard_any l[j] hr.1 hr.2 i h1 h2 W)
          have HK := Lib.hid (fun W => key_any l[j] hr.1 hr.2 W)
          have HF := Lib.hid (fun W => of_any (keyB l[j]) (by rw [keyB_size]; have := hr.2; omega) W)
          have hsm : shN l[j] i < i := shN_lt _ h1
          have HE := Lib.hid (rem_fin (fnv_lt (keyB l[j])) (show shN l[j] i = fnv (keyB l[j]) % i from rfl))
          have hL := fnv_lt (keyB l[j])
          have HN3 := Lib.hid (ns_at (HN.out.below hbel) _ hsm)
          have u1 : cnt l i (shN l[j] i) ≤ 200 := Nat.le_trans (cnt_le l i _) hl
          have u0 : 1 ≤ cnt l i (shN l[j] i) := cnt_pos (List.getElem_mem hjl)
          generalize cnt l i (shN l[j] i) = q at *
          generalize shN l[j] i = s at *
          generalize keyB l[j] = K at *
          generalize fnv K = f at *
          unfold qV at HC HK
          generalize l[j] = r at *
          have d0 : decide ((s : Int) < 0) = false := by simp
          have d1 : decide ((s : Int) ≥ i) = false := by simp; omega
          have d2 : decide ((q : Int) < 1) = false := by simp; omega
          have HB2 := Lib.hid hbel
          have d3 : ((s : Int) != wrap64 ((f : Int) % (i : Int))) = false := by rw [HE.out]; simp
          clear hr hbel
          go_wp2_with (first
            | (go_at_call 14; with_reducible (refine (HC.out _).mono ?_); rintro e w3 ⟨rfl, hb3⟩; obtain ⟨b', off', hA, n0⟩ := HN3.out; cases hA; have n1 := (hb3.cell (p := ⟨g, 0 + s, none⟩) (cell_size n0)).trans n0; rw [Nat.zero_add] at n1; have HS3 := Lib.hid hb3; have g0 := (hb3.cell (p := ⟨b, off + j * 3, none⟩) (cell_size c0)).trans c0; have g1 := (hb3.cell (p := ⟨b, off + j * 3 + 1, none⟩) (cell_size c1)).trans c1; have g2 := (hb3.cell (p := ⟨b, off + j * 3 + 2, none⟩) (cell_size c2)).trans c2; clear hb3 n0)
            | (go_at_call 12; with_reducible (refine (HK.out _).mono ?_); rintro e w4 ⟨rfl, hb4⟩; have HS4 := Lib.hid (HB2.out.trans ((HS3.out.trans (hb4.mono HS3.out.size)).mono HB2.out.size)); clear hb4)
            | (go_at_call 10; with_reducible (refine (HF.out _).mono ?_); rintro e w5 ⟨rfl, rfl⟩))
          refine ⟨⟨j + 1, hjl, by go_num, HS4.out⟩, ?_⟩
          clear d0 d1 d2 d3 u0 u1 e2 e3
          simp [intOf]
          omega
        · obtain rfl : j = l.length := by omega
          have HB2 := Lib.hid (HB.out.trans (hbel.mono HB.out.size))
          clear hbel
          go_wp2_with fail
          go_ret
          exact ⟨rfl, HB2.out⟩
end Go.Proofs.Ytdgbmcjlnpfndaa
