/- The walk of derricklaw09.HashJoins. -/
import Derived.Test.YtdgbmcjlnpfndaaHsd
namespace Go.Proofs.Ytdgbmcjlnpfndaa
open Go.RowKit
set_option linter.unusedVariables false

theorem cnt_append (l l' : List Rc) (m i : Nat) : cnt (l ++ l') m i = cnt l m i + cnt l' m i := List.countP_append
theorem cnt_one (l : List Rc) : cnt l 1 0 = l.length := by
  unfold cnt
  rw [List.countP_eq_length]
  intro r _
  simp [shN, Nat.mod_one]
theorem cnts_one (l : List Rc) : cnts l 1 = [l.length] := by
  unfold cnts
  rw [show List.range 1 = [0] from rfl, List.map_cons, List.map_nil, cnt_one]
theorem cnts_at' (l : List Rc) (m i : Nat) (h : i < (cnts l m).length) : (cnts l m)[i] = cnt l m i := by simp [cnts]
theorem ns_at' {w : World} {A : Option Addr} {l : List Rc} {m : Nat} (h : Ns .i64 w A (cnts l m)) (i : Nat) (hi : i < m) : ∃ b off : Nat, A = some ⟨b, off, none⟩ ∧ w.cell? ⟨b, off + i, none⟩ = some (.int .i64 (cnt l m i : Nat)) := by
  obtain ⟨b, off, h1, h2⟩ := h i (by rw [cnts_len]; exact hi)
  rw [cnts_at'] at h2
  exact ⟨b, off, h1, h2⟩
/-- A slice of one int that was just made. -/
theorem ns_one (W : World) (n : Nat) : Ns .i64 (W.alloc (.cells #[.int .i64 (n : Nat)] 3)) (some ⟨W.heap.size, 0, none⟩) [n] := fun j h => by
  obtain rfl : j = 0 := by simp at h; omega
  refine ⟨_, _, rfl, ?_⟩
  rw [Nat.zero_add, blk_cell (heap_alloc_new W (Obj.cells #[.int .i64 (n : Nat)] 3)) 0]
  rfl

theorem ints_one (A A2 : Option Addr) (cap cap2 n : Nat) (w : World) (hI : Ns .i64 w A [n]) (hJ : Ns .i64 w A2 [n]) :
    Calls Try.prog 16 #[.slice A 1 cap, .slice A2 1 cap2] w fun e w' => e = .returned (.bool true) ∧ Below w.heap.size w w' := ints_yes A cap A2 cap2 [n] (by show 1 ≤ 1000; omega) w hI hJ
theorem spread_one (A : Option Addr) (cap : Nat) (l : List Rc) (hl : l.length ≤ 1000) (ho : ∀ r ∈ l, r.Ok ∧ r.n.size ≤ 100000) (w : World) (hI : Sl qf w A cap l) :
    Calls Try.prog 17 #[.slice A l.length cap, .int .i64 1] w fun e w' => ∃ g, e = .returned (.slice (some ⟨g, 0, none⟩) 1 16) ∧ Ns .i64 w' (some ⟨g, 0, none⟩) [l.length] ∧ Below w.heap.size w w' := by
  have h := spread_any A cap l hl ho 1 (by decide) (by decide) w hI
  rw [cnts_one] at h
  exact h
set_option maxRecDepth 100000 in
set_option maxHeartbeats 2000000 in
theorem joins_core (A : Option Addr) (cap : Nat) (l : List Rc) (A2 : Option Addr) (cap2 : Nat) (l2 : List Rc) (k m : Nat) (hk : k < 256) (hm : m = 1 + k % 16) (ho : ∀ r ∈ l, r.Ok) (ho2 : ∀ r ∈ l2, r.Ok) (hf : fewQ l = true) (hf2 : fewQ l2 = true) (w : World) (hI : Sl qf w A cap l) (hJ : Sl qf w A2 cap2 l2) :
    Calls Try.prog 7 #[.slice A l.length cap, .slice A2 l2.length cap2, .int .u8 (k : Nat)] w fun e w' => e = .returned (.bool true) ∧ Below w.heap.size w w' := by
  obtain ⟨hl, hn⟩ := fewQ_out hf
  obtain ⟨hl2, hn2⟩ := fewQ_out hf2
  have h1 : 1 ≤ m := by omega
  have h2 : m ≤ 16 := by omega
  have HS := Lib.hid (fun w => shown_any w)
  have HW := Lib.hid (few_any A cap l (by omega) w hI)
  rw [hf] at HW
  have HW2 := Lib.hid (few_any A2 cap2 l2 (by omega) w hJ)
  rw [hf2] at HW2
  have HO := Lib.hid (fun r (h : r ∈ l) => (⟨ho r h, Nat.le_trans (hn r h) (by omega)⟩ : r.Ok ∧ r.n.size ≤ 100000))
  have HO2 := Lib.hid (fun r (h : r ∈ l2) => (⟨ho2 r h, Nat.le_trans (hn2 r h) (by omega)⟩ : r.Ok ∧ r.n.size ≤ 100000))
  have HO3 := Lib.hid (show ∀ r ∈ l ++ l2, r.Ok ∧ r.n.size ≤ 100000 from fun r h => by
    rcases List.mem_append.1 h with h | h
    · exact HO.out r h
    · exact HO2.out r h)
  have HP := Lib.hid (spread_any A cap l (by omega) HO.out m h1 h2 w hI)
  have HI := Lib.hid hI
  have HJ := Lib.hid hJ
  have e2 : (k : Int).tmod 16 = ((k % 16 : Nat) : Int) := by rw [Int.tmod_eq_emod_of_nonneg (by omega)]; omega
  have e3 : (1 : Int) + ((k % 16 : Nat) : Int) = (m : Nat) := by omega
  have b1 : k % 16 < 16 := Nat.mod_lt _ (by decide)
  clear hI hJ ho ho2 hn hn2 hf hf2 hm hk
  generalize k % 16 = k' at *
  go_enter Try.func7, Try.ntmps7
  go_upto_region 5 with (first
    | (go_at_call 8; with_reducible (refine (HS.out _).mono ?_); rintro e w1 ⟨rfl, rfl⟩)
    | (go_at_call 9; with_reducible (refine HW.out.mono ?_); rintro e w1 ⟨rfl, rfl⟩)
    | (go_at_call 9; with_reducible (refine HW2.out.mono ?_); rintro e w1 ⟨rfl, rfl⟩))
  clear e2 e3 b1
  go_upto_region 6 with (go_at_call 17; with_reducible (refine HP.out.mono ?_); rintro e w2 ⟨g, rfl, hN, hb2⟩; have HN := Lib.hid hN; have HB := Lib.hid hb2; have HI2 := Lib.hid (HI.out.below' hb2); have HJ2 := Lib.hid (HJ.out.below' hb2); clear hN hb2)
  have HP2 := Lib.hid (spread_any A2 cap2 l2 (by omega) HO2.out m h1 h2 w2 HJ2.out)
  go_upto_region 7 with (go_at_call 17; with_reducible (refine HP2.out.mono ?_); rintro e w3 ⟨g2, rfl, hN, hb3⟩; have HN2 := Lib.hid hN; have HNa := Lib.hid (HN.out.below hb3); have HB3 := Lib.hid (HB.out.trans (hb3.mono HB.out.size)); have HI3 := Lib.hid (HI2.out.below' hb3); have HJ3 := Lib.hid (HJ2.out.below' hb3); clear hN hb3)
  have hbA := (Below.refl w3.heap.size w3).alloc (Nat.le_refl _) (Obj.cells #[] 24)
  have hoA := World.ownsRow_made (base := w3.heap.size) (e := 24) (size := 3) w3 #[] 0 (Nat.le_refl _) (Nat.zero_le _) (by simp)
  have HBA := Lib.hid hbA
  have HOA := Lib.hid hoA
  have HSA := Lib.hid (HI3.out.below' hbA)
  clear hbA hoA
  go_wp2_with (at_builtin; refine wpList_append_qs rfl _ _ rfl w3.heap.size _ [] rfl HOA.out A cap l HSA.out rfl ?q1 ?q2 ?_)
  case q1 => simp; omega
  case q2 => exact HBA.out.size
  intro v4 w4 ho4' hg4
  have ho4 : w4.ownsRow w3.heap.size 24 3 v4 l.length (l.flatMap qf) := by simpa using ho4'
  clear ho4'
  obtain ⟨A4, p4, rfl⟩ := ownR_form ho4
  have hb4 := HBA.out.grown hg4 HBA.out.size (fun k hk => (HOA.out.lt k hk).1)
  have HO4 := Lib.hid ho4
  have HB4 := Lib.hid hb4
  have HS4 := Lib.hid (HJ3.out.below' hb4)
  clear ho4 hb4 hg4 HBA HOA HSA
  go_wp2_with (at_builtin; refine wpList_append_qs rfl _ _ rfl w3.heap.size _ l rfl HO4.out A2 cap2 l2 HS4.out rfl ?q1 ?q2 ?_)
  case q1 => omega
  case q2 => exact HB4.out.size
  intro v5 w5 ho5' hg5
  have ho5 : w5.ownsRow w3.heap.size 24 3 v5 (l ++ l2).length ((l ++ l2).flatMap qf) := by simpa [Nat.add_assoc] using ho5'
  clear ho5'
  have HL := Lib.hid (fun i => cnt_append l l2 m i)
  have hLl : (l ++ l2).length ≤ 1000 := by rw [List.length_append]; omega
  generalize l ++ l2 = L at *
  obtain ⟨A5, p5, rfl, hS5⟩ := Sl.own qf_len ho5
  have hb5 := HB4.out.grown hg5 HB4.out.size (fun k hk => (HO4.out.lt k hk).1)
  have HP3 := Lib.hid (spread_any A5 p5 L hLl HO3.out m h1 h2 w5 hS5)
  have HB5 := Lib.hid hb5
  clear ho5 hg5 hb5 hS5 HO4 HB4 HS4 hLl
  go_upto_region 8 with (go_at_call 17; with_reducible (refine HP3.out.mono ?_); rintro e w6 ⟨g3, rfl, hN, hb6⟩; have HB6 := Lib.hid (HB5.out.trans (hb6.mono HB5.out.size)); have HN3 := Lib.hid hN; clear hN hb6)
  have HM1 := Lib.hid (HNa.out.below HB6.out)
  have HM2 := Lib.hid (HN2.out.below HB6.out)
  have HBf := Lib.hid (HB3.out.trans (HB6.out.mono HB3.out.size))
  have HI6 := Lib.hid (HI3.out.below' HB6.out)
  clear HP3 HB5 HP2 HP HB HN HN2 HNa HI HJ HI2 HJ2 HI3 HJ3
  go_wp2_with fail
  go_loopw [12] (fun x wr => ∃ i : Nat, i ≤ m ∧ x = .int .i64 i ∧ Below w6.heap.size w6 wr) (fun x _ => m - (intOf x).toNat)
  case atStart => exact ⟨0, Nat.zero_le _, rfl, Below.refl _ _⟩
  case round =>
    obtain ⟨i, hi, rfl, hbel⟩ := hrel
    by_cases hlt : i < m
    · obtain ⟨b, off, hA, c0⟩ := ns_at' (HM1.out.below hbel) i hlt
      cases hA
      obtain ⟨b, off, hA, c1⟩ := ns_at' (HM2.out.below hbel) i hlt
      cases hA
      obtain ⟨b, off, hA, c2⟩ := ns_at' (HN3.out.below hbel) i hlt
      cases hA
      rw [Nat.zero_add] at c0 c1 c2
      have hz := HL.out i
      have u1 : cnt l m i ≤ 200 := Nat.le_trans (cnt_le l m i) hl
      have u2 : cnt l2 m i ≤ 200 := Nat.le_trans (cnt_le l2 m i) hl2
      generalize cnt l m i = x at *
      generalize cnt l2 m i = y at *
      generalize cnt L m i = z at *
      have hzi : (x : Int) + (y : Int) = (z : Nat) := by omega
      have d1 : (IntKind.i64.wrap ((x : Int) + (y : Int)) != (z : Int)) = false := by rw [IntWalk.i64_in _ (by omega), hzi]; simp
      have d2 : (wrap64 ((x : Int) + (y : Int)) != (z : Int)) = false := by rw [IntWalk.wrap64_in _ (by omega), hzi]; simp
      have d3 : ((x : Int) + (y : Int) != (z : Int)) = false := by rw [hzi]; simp
      have HB7 := Lib.hid hbel
      clear hbel hz hzi
      go_upto_region 13 with (fail)
      first | (go_region_with (fail)) | fail
      all_goals
        go_wp2_with fail
        go_roundw
        case rel => exact ⟨i + 1, hlt, by go_num, HB7.out.drew⟩
        case measure =>
          clear d1 d2 d3
          simp [intOf]
          omega
    · obtain rfl : i = m := by omega
      have HP1 := Lib.hid (spread_one A cap l (by omega) HO.out wr (HI6.out.below' hbel))
      have HB7 := Lib.hid (HBf.out.trans (hbel.mono HBf.out.size))
      clear hbel
      go_wp2_with (first
        | (go_at_call 17; with_reducible (refine HP1.out.mono ?_); rintro e w8 ⟨g8, rfl, hN, hb8⟩; have HN8 := Lib.hid hN; have HB8 := Lib.hid (HB7.out.trans (hb8.mono HB7.out.size)); clear hN hb8)
        | (go_at_call 16; with_reducible (refine (ints_one _ _ _ _ l.length _ (HN8.out.below ((Below.refl w8.heap.size w8).alloc (Nat.le_refl _) _)) (ns_one w8 l.length)).mono ?_); rintro e w9 ⟨rfl, hb9⟩; have hbq := (Below.refl w8.heap.size w8).alloc (Nat.le_refl _) (Obj.cells #[.int .i64 (l.length : Nat)] 3); have HB9 := Lib.hid (HB8.out.trans ((hbq.trans (hb9.mono hbq.size)).mono HB8.out.size)); clear hb9 hbq))
      go_ret
      exact ⟨rfl, HB9.out⟩
end Go.Proofs.Ytdgbmcjlnpfndaa
