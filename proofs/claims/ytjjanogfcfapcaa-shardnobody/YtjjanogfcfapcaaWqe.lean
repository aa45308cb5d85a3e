/- The walks of choosePivotCmpFunc and breakPatternsCmpFunc (written by tools/gen_wq.py). -/
import Derived.Test.YtjjanogfcfapcaaWqd
import Derived.Test.YtjjanogfcfapcaaWqs
import Derived.Sort.Walk7
namespace Go.Proofs.Ytjjanogfcfapcaa.W
open Go.RowKit Go.Shelf Go.Sort
open Go.Proofs (SW Row1 ltOf Cnt1)
set_option linter.unusedVariables false
variable {cf : Ik → Ik → Int} {g blk off n : Nat} {w0 W : World} {d0 dk : Array Ik}
/-- The number of a hint. -/
def hintI : Hint → Int
  | .unknown => 0
  | .increasing => 1
  | .decreasing => 2
def hintOf (s : Nat) : Hint := if s = 0 then .increasing else if s = 12 then .decreasing else .unknown
theorem pivA (d : Array Ik) (a b m : Nat) (hm : b - a = m) (h : ¬ 8 ≤ m) : choosePivot (ltOf cf) d a b = (a + m / 4 * 2, hintOf 0) := by
  unfold choosePivot
  simp only [hm]
  rw [if_neg h]
  rfl
theorem pivB (d : Array Ik) (a b m : Nat) (hm : b - a = m) (h : 8 ≤ m) (h5 : ¬ 50 ≤ m) : choosePivot (ltOf cf) d a b = ((median (ltOf cf) d (a + m / 4) (a + m / 4 * 2) (a + m / 4 * 3) 0).1, hintOf (median (ltOf cf) d (a + m / 4) (a + m / 4 * 2) (a + m / 4 * 3) 0).2) := by
  unfold choosePivot
  simp only [hm]
  rw [if_pos h, if_neg h5, Nat.mul_one]
  rfl
theorem pivC (d : Array Ik) (a b m : Nat) (hm : b - a = m) (h : 8 ≤ m) (h5 : 50 ≤ m) {r1 r2 r3 r4 : Nat × Nat} (e1 : medianAdjacent (ltOf cf) d (a + m / 4) 0 = r1) (e2 : medianAdjacent (ltOf cf) d (a + m / 4 * 2) r1.2 = r2) (e3 : medianAdjacent (ltOf cf) d (a + m / 4 * 3) r2.2 = r3)
    (e4 : median (ltOf cf) d r1.1 r2.1 r3.1 r3.2 = r4) : choosePivot (ltOf cf) d a b = (r4.1, hintOf r4.2) := by
  unfold choosePivot
  simp only [hm]
  rw [if_pos h, if_pos h5, Nat.mul_one, e1, e2, e3, e4]
  rfl
set_option maxRecDepth 1000000 in
set_option maxHeartbeats 4000000 in
theorem piv_s (HC : CmpB cf g blk off n w0) (R : Row1 eK w0 blk off d0) (h0 : d0.size = n) (hn : n ≤ 100000) (cap a b : Nat) (d : Array Ik) (w : World) (hs : d.size = n) (S : SW eK w0 blk off d w) (hab : a < b) (hb : b ≤ n) :
    Calls Try.prog 73 #[.slice (some ⟨blk, off, none⟩) n cap, .int .i64 (a : Nat), .int .i64 (b : Nat), fvB g] w fun e w' => e = .returned (.tuple #[.int .i64 ((choosePivot (ltOf cf) d a b).1 : Nat), .int .i64 (hintI (choosePivot (ltOf cf) d a b).2)]) ∧ SW eK w0 blk off d w' := by
  obtain ⟨m, hm⟩ : ∃ m, b - a = m := ⟨_, rfl⟩
  obtain ⟨q, hq⟩ : ∃ q, m / 4 = q := ⟨_, rfl⟩
  have em : (b : Int) - (a : Nat) = (m : Nat) := by omega
  have eq4 : ((m : Nat) : Int).tdiv 4 = (q : Nat) := by rw [Int.tdiv_eq_ediv_of_nonneg (by omega)]; omega
  obtain ⟨pi, hpi⟩ : ∃ x, a + q = x := ⟨_, rfl⟩
  obtain ⟨pj, hpj⟩ : ∃ x, a + q * 2 = x := ⟨_, rfl⟩
  obtain ⟨pk, hpk⟩ : ∃ x, a + q * 3 = x := ⟨_, rfl⟩
  have ei : (a : Int) + (q : Nat) = (pi : Nat) := by omega
  have ej : (a : Int) + (q : Nat) * 2 = (pj : Nat) := by omega
  have ek : (a : Int) + (q : Nat) * 3 = (pk : Nat) := by omega
  have HC0 := Lib.hid (Cnt1.start S 3)
  have hle := S.le
  have fin : ∀ s : Nat, (hintI (hintOf s) = 1 ∧ s = 0) ∨ (hintI (hintOf s) = 2 ∧ s = 12) ∨ (hintI (hintOf s) = 0 ∧ s ≠ 0 ∧ s ≠ 12) := fun s => by
    unfold hintOf
    by_cases h1 : s = 0
    · left; rw [if_pos h1]; exact ⟨rfl, h1⟩
    · by_cases h2 : s = 12
      · right; left; rw [if_neg h1, if_pos h2]; exact ⟨rfl, h2⟩
      · right; right; rw [if_neg h1, if_neg h2]; exact ⟨rfl, h1, h2⟩
  have FIN := Lib.hid fin
  clear fin
  by_cases h8 : 8 ≤ m
  · have d1 : decide ((8 : Int) ≤ (m : Nat)) = true := by simp; omega
    by_cases h5 : 50 ≤ m
    · have d2 : decide ((50 : Int) ≤ (m : Nat)) = true := by simp; omega
      have HC1 := Lib.hid (fun W C => adj_s HC R h0 hn cap pi w.heap.size 0 W hs C (by omega) (by omega) (by omega))
      have l1 := adj_lt (cf := cf) (dk := d) (n := n) pi 0 (by omega) (by omega)
      obtain ⟨r1, e1⟩ : ∃ r, medianAdjacent (ltOf cf) d pi 0 = r := ⟨_, rfl⟩
      rw [e1] at HC1 l1
      have HC2 := Lib.hid (fun W C => adj_s HC R h0 hn cap pj w.heap.size r1.2 W hs C (by omega) (by omega) (by omega))
      have l2 := adj_lt (cf := cf) (dk := d) (n := n) pj r1.2 (by omega) (by omega)
      obtain ⟨r2, e2⟩ : ∃ r, medianAdjacent (ltOf cf) d pj r1.2 = r := ⟨_, rfl⟩
      rw [e2] at HC2 l2
      have HC3 := Lib.hid (fun W C => adj_s HC R h0 hn cap pk w.heap.size r2.2 W hs C (by omega) (by omega) (by omega))
      have l3 := adj_lt (cf := cf) (dk := d) (n := n) pk r2.2 (by omega) (by omega)
      obtain ⟨r3, e3⟩ : ∃ r, medianAdjacent (ltOf cf) d pk r2.2 = r := ⟨_, rfl⟩
      rw [e3] at HC3 l3
      have HC4 := Lib.hid (fun W C => med_s HC R h0 hn cap r1.1 r2.1 r3.1 w.heap.size r3.2 W hs C l1.1 l2.1 l3.1 (by omega))
      obtain ⟨r4, e4⟩ : ∃ r, median (ltOf cf) d r1.1 r2.1 r3.1 r3.2 = r := ⟨_, rfl⟩
      rw [e4] at HC4
      have hP := pivC (cf := cf) d a b m hm h8 h5 (r1 := r1) (r2 := r2) (r3 := r3) (r4 := r4) (by rw [hq, hpi]; exact e1) (by rw [hq, hpj]; exact e2) (by rw [hq, hpk]; exact e3) e4
      rw [hP]
      clear hP e1 e2 e3 e4 l1 l2 l3 HC R S hs
      obtain ⟨p1, s1⟩ := r1
      obtain ⟨p2, s2⟩ := r2
      obtain ⟨p3, s3⟩ := r3
      obtain ⟨p4, s4⟩ := r4
      simp only at HC1 HC2 HC3 HC4 ⊢
      have fs := FIN.out s4
      generalize hintI (hintOf s4) = hi at *
      rcases fs with ⟨rfl, rfl⟩ | ⟨rfl, rfl⟩ | ⟨rfl, h1, h2⟩
      · go_enter Try.func73, Try.ntmps73
        go_wp2_with (first
                  | (go_at_call 86; (with_reducible (refine (HC4.out _ z3.out).mono ?_)); rintro e w4 ⟨rfl, y4⟩; have z4 := Lib.hid y4; have cz := y4.2.1; clear y4)
                  | (go_at_call 85; with_reducible (refine (HC3.out _ z2.out).mono ?_); rintro e w3 ⟨rfl, y3⟩; have z3 := Lib.hid y3; clear y3)
                  | (go_at_call 85; with_reducible (refine (HC2.out _ z1.out).mono ?_); rintro e w2 ⟨rfl, y2⟩; have z2 := Lib.hid y2; clear y2)
                  | (go_at_call 85; with_reducible (refine (HC1.out _ HC0.out).mono ?_); rintro e w1 ⟨rfl, y1⟩; have z1 := Lib.hid y1; clear y1))
        go_ret2
        exact ⟨rfl, z4.out.1⟩
      · go_enter Try.func73, Try.ntmps73
        go_wp2_with (first
                  | (go_at_call 86; (with_reducible (refine (HC4.out _ z3.out).mono ?_)); rintro e w4 ⟨rfl, y4⟩; have z4 := Lib.hid y4; have cz := y4.2.1; clear y4)
                  | (go_at_call 85; with_reducible (refine (HC3.out _ z2.out).mono ?_); rintro e w3 ⟨rfl, y3⟩; have z3 := Lib.hid y3; clear y3)
                  | (go_at_call 85; with_reducible (refine (HC2.out _ z1.out).mono ?_); rintro e w2 ⟨rfl, y2⟩; have z2 := Lib.hid y2; clear y2)
                  | (go_at_call 85; with_reducible (refine (HC1.out _ HC0.out).mono ?_); rintro e w1 ⟨rfl, y1⟩; have z1 := Lib.hid y1; clear y1))
        go_ret2
        exact ⟨rfl, z4.out.1⟩
      · have m1 : ((s4 : Int) == 0) = false := by simp; omega
        have m2 : ((s4 : Int) == 12) = false := by simp; omega
        have m3 : decide ((s4 : Int) = 0) = false := by simp; omega
        have m4 : decide ((s4 : Int) = 12) = false := by simp; omega
        go_enter Try.func73, Try.ntmps73
        go_wp2_with (first
                  | (go_at_call 86; (with_reducible (refine (HC4.out _ z3.out).mono ?_)); rintro e w4 ⟨rfl, y4⟩; have z4 := Lib.hid y4; have cz := y4.2.1; clear y4)
                  | (go_at_call 85; with_reducible (refine (HC3.out _ z2.out).mono ?_); rintro e w3 ⟨rfl, y3⟩; have z3 := Lib.hid y3; clear y3)
                  | (go_at_call 85; with_reducible (refine (HC2.out _ z1.out).mono ?_); rintro e w2 ⟨rfl, y2⟩; have z2 := Lib.hid y2; clear y2)
                  | (go_at_call 85; with_reducible (refine (HC1.out _ HC0.out).mono ?_); rintro e w1 ⟨rfl, y1⟩; have z1 := Lib.hid y1; clear y1))
        go_ret2
        exact ⟨rfl, z4.out.1⟩
    · have d2 : decide ((50 : Int) ≤ (m : Nat)) = false := by simp; omega
      have HC4 := Lib.hid (fun W C => med_s HC R h0 hn cap pi pj pk w.heap.size 0 W hs C (by omega) (by omega) (by omega) (by omega))
      obtain ⟨r4, e4⟩ : ∃ r, median (ltOf cf) d pi pj pk 0 = r := ⟨_, rfl⟩
      rw [e4] at HC4
      have hP := pivB (cf := cf) d a b m hm h8 h5
      rw [hq, hpi, hpj, hpk, e4] at hP
      rw [hP]
      clear hP e4 HC R S hs
      obtain ⟨p4, s4⟩ := r4
      simp only at HC4 ⊢
      have fs := FIN.out s4
      generalize hintI (hintOf s4) = hi at *
      rcases fs with ⟨rfl, rfl⟩ | ⟨rfl, rfl⟩ | ⟨rfl, h1, h2⟩
      · go_enter Try.func73, Try.ntmps73
        go_wp2_with (go_at_call 86; (with_reducible (refine (HC4.out _ HC0.out).mono ?_)); rintro e w4 ⟨rfl, y4⟩; have z4 := Lib.hid y4; have cz := y4.2.1; clear y4)
        go_ret2
        exact ⟨rfl, z4.out.1⟩
      · go_enter Try.func73, Try.ntmps73
        go_wp2_with (go_at_call 86; (with_reducible (refine (HC4.out _ HC0.out).mono ?_)); rintro e w4 ⟨rfl, y4⟩; have z4 := Lib.hid y4; have cz := y4.2.1; clear y4)
        go_ret2
        exact ⟨rfl, z4.out.1⟩
      · have m1 : ((s4 : Int) == 0) = false := by simp; omega
        have m2 : ((s4 : Int) == 12) = false := by simp; omega
        have m3 : decide ((s4 : Int) = 0) = false := by simp; omega
        have m4 : decide ((s4 : Int) = 12) = false := by simp; omega
        go_enter Try.func73, Try.ntmps73
        go_wp2_with (go_at_call 86; (with_reducible (refine (HC4.out _ HC0.out).mono ?_)); rintro e w4 ⟨rfl, y4⟩; have z4 := Lib.hid y4; have cz := y4.2.1; clear y4)
        go_ret2
        exact ⟨rfl, z4.out.1⟩
  · have d1 : decide ((8 : Int) ≤ (m : Nat)) = false := by simp; omega
    have hP := pivA (cf := cf) d a b m hm h8
    rw [hq, hpj] at hP
    rw [hP]
    clear hP HC R S hs
    have hi0 : hintI (hintOf 0) = 1 := rfl
    rw [hi0]
    go_enter Try.func73, Try.ntmps73
    go_wp2_with fail
    go_ret2
    exact ⟨rfl, HC0.out.1⟩
/-- The random numbers' block, beside the sort. -/
structure Rn (w0 : World) (blk off : Nat) (dk : Array Ik) (c X : Nat) (W : World) : Prop where
  sw : SW eK w0 blk off dk W
  cell : W.cell? ⟨c, 0, none⟩ = some (.int .u64 (X : Nat))
  fro : W.frozen? ⟨c, 0, none⟩ = false
  le : w0.heap.size ≤ c
  lt : c < W.heap.size
theorem Rn.start (S : SW eK w0 blk off dk W) (X : Nat) (T : TypeId) : Rn w0 blk off dk W.heap.size X (W.alloc (.cells #[.int .u64 (X : Nat)] T)) := ⟨S.alloc _, by simp, by simp, S.le, by simp⟩
theorem Rn.next {c X : Nat} (h : Rn w0 blk off dk c X W) (Y : Nat) : Rn w0 blk off dk c Y ((W.setCell ⟨c, 0, none⟩ (.int .u64 (Y : Nat))).drewN 3) :=
  ⟨(h.sw.setCell_new c 0 _ h.le).drewN 3, World.cell?_setCell_same' _ _ _ (by rw [h.cell]; rfl), by show (W.setCell _ _).frozen? _ = _; rw [World.frozen?_setCell]; exact h.fro, h.le, by simpa using h.lt⟩
theorem Rn.swapped {c X : Nat} (h : Rn w0 blk off dk c X W) (hblk : blk < w0.heap.size) {i j : Nat} {u v : Value} {d2 : Array Ik} (q : SW eK w0 blk off d2 ((W.setCell ⟨blk, off + i, none⟩ u).setCell ⟨blk, off + j, none⟩ v).drew) :
    Rn w0 blk off d2 c X ((W.setCell ⟨blk, off + i, none⟩ u).setCell ⟨blk, off + j, none⟩ v).drew := by
  have hk := Go.Proofs.box_kept_swap1 (blk := blk) (c := c) (by have := h.le; omega) h.cell h.fro (off + i) (off + j) u v
  exact ⟨q, hk.1, hk.2, h.le, by simpa [World.setCell] using h.lt⟩
set_option maxRecDepth 1000000 in
set_option maxHeartbeats 4000000 in
theorem brk_s (fv : Value) (R : Row1 eK w0 blk off d0) (h0 : d0.size = n) (hn : n ≤ 100000) (cap a b : Nat) (d : Array Ik) (w : World) (hs : d.size = n) (S : SW eK w0 blk off d w) (hab : a ≤ b) (hb : b ≤ n) (h8 : 8 ≤ b - a) :
    Calls Try.prog 72 #[.slice (some ⟨blk, off, none⟩) n cap, .int .i64 (a : Nat), .int .i64 (b : Nat), fv] w fun e w' => e = .returned (.tuple #[]) ∧ (breakPatterns d a b).size = n ∧ SW eK w0 blk off (breakPatterns d a b) w' := by
  have mixed : Try.prog.follows .mixedOrders = true := by kernel_rfl
  have hcl0 := eK_one.cells
  simp only [Value.cells] at hcl0
  have hst := eK_one.store Try.prog
  obtain ⟨L, rfl⟩ : ∃ L, b = a + L := ⟨b - a, by omega⟩
  rw [Nat.add_sub_cancel_left] at h8
  rw [Go.Proofs.breakPatterns_eq d a L h8]
  obtain ⟨M, hM⟩ : ∃ M : Nat, 1 <<< bitsLen L = M := ⟨_, rfl⟩
  have hM1 : 1 ≤ M := by rw [← hM, Nat.one_shiftLeft]; exact Nat.two_pow_pos _
  have hM2 : M ≤ 2 * L := by rw [← hM, Nat.one_shiftLeft]; exact two_pow_bitsLen_le (by omega)
  have HNP := Lib.hid (fun w => next_two L (by omega) w)
  rw [hM] at HNP
  rw [hM]
  clear hM
  obtain ⟨q, hq⟩ : ∃ q, L / 4 = q := ⟨_, rfl⟩
  obtain ⟨i0, hi0⟩ : ∃ x, a + q * 2 - 1 = x := ⟨_, rfl⟩
  rw [hq, hi0]
  have em : ((a + L : Nat) : Int) - (a : Nat) = (L : Nat) := by omega
  have eq4 : ((L : Nat) : Int).tdiv 4 = (q : Nat) := by rw [Int.tdiv_eq_ediv_of_nonneg (by omega)]; omega
  have ei : (a : Int) + (q : Nat) * 2 - 1 = (i0 : Nat) := by omega
  have ei2 : (a : Int) + (q : Nat) * 2 + 1 = ((i0 + 2 : Nat) : Int) := by omega
  have d0 : decide ((8 : Int) ≤ (L : Nat)) = true := by simp; omega
  have HS0 := Lib.hid (Rn.start S L 141)
  have HR0 := Lib.hid (show (UInt64.ofNat L).toNat = L from by simp; omega)
  have RR := Lib.hid R
  have H0 := Lib.hid h0
  have HZ := Lib.hid hs
  generalize hb0 : a + L = b at *
  clear S R h0 hs
  go_enter Try.func72, Try.ntmps72
  go_wp2_with (go_at_call 83; with_reducible (refine (HNP.out _).mono ?_); rintro e w1 ⟨rfl, rfl⟩)
  go_loopw [11] (fun x wr => ∃ (t : Nat) (r : UInt64) (dk : Array Ik), x = .int .i64 ((i0 + t : Nat) : Int) ∧ t ≤ 3 ∧ dk.size = n ∧ Rn w0 blk off dk w.heap.size r.toNat wr ∧ Go.Proofs.bpRest a L M i0 (3 - t) t (r, dk) = Go.Proofs.bpRest a L M i0 3 0 (UInt64.ofNat L, d)) (fun x _ => i0 + 3 - (intOf x).toNat)
  case atStart => exact ⟨0, UInt64.ofNat L, d, by first | rfl | go_num, by omega, HZ.out, by rw [HR0.out]; exact HS0.out, rfl⟩
  case round =>
    clear HS0 HR0 HZ
    obtain ⟨t, r, dk, rfl, ht, hsk, hS, ho⟩ := hrel
    have HS := Lib.hid (And.intro hsk hS)
    have HO := Lib.hid ho
    clear hsk hS ho
    obtain ⟨ix, hix⟩ : ∃ x, i0 + t = x := ⟨_, rfl⟩
    by_cases h3 : t < 3
    · have d1 : decide (((i0 + t : Nat) : Int) ≤ ((i0 + 2 : Nat) : Int)) = true := by simp; omega
      obtain ⟨X, hX⟩ : ∃ X : Nat, r.toNat = X := ⟨_, rfl⟩
      have lX : X < 18446744073709551616 := by rw [← hX]; exact r.toNat_lt
      obtain ⟨Y, hY⟩ : ∃ Y : Nat, xorNextN X = Y := ⟨_, rfl⟩
      have lY : Y < 18446744073709551616 := by rw [← hY]; exact xorNextN_lt X lX
      obtain ⟨O, hO⟩ : ∃ O : Nat, Y &&& (M - 1) = O := ⟨_, rfl⟩
      have lO : O ≤ M - 1 := by rw [← hO]; exact Nat.and_le_right
      have eAnd : bits .and .u64 (Y : Int) ((M : Int) - 1) = (O : Int) := by
        rw [show ((M : Int) - 1) = ((M - 1 : Nat) : Int) by omega, bits_and_u64_nat _ _ lY (by omega), hO]
      have eN : (xorNext r).toNat = Y := by rw [xorNext_toNat, hX, hY]
      have HN := Lib.hid (fun W (h : Rn w0 blk off dk w.heap.size X W) => xor_next w.heap.size 0 X lX W h.cell h.fro)
      rw [hY] at HN
      rw [hX] at HS
      rw [hix] at d1 ⊢
      have HST := Lib.hid (fun o (h : (if Y &&& (M - 1) ≥ L then (Y &&& (M - 1)) - L else Y &&& (M - 1)) = o) => show Go.Proofs.bpRest a L M i0 (3 - (t + 1)) (t + 1) (xorNext r, swp dk ix (a + o)) = Go.Proofs.bpRest a L M i0 3 0 (UInt64.ofNat L, d) from by
        rw [← HO.out, Go.Proofs.bp_step a L M i0 t r dk o h3 (by rw [eN]; exact h), hix])
      have HEN := Lib.hid eN
      clear HO hX hY eN
      by_cases hLO : L ≤ O
      · have d2 : decide ((L : Int) ≤ (O : Nat)) = true := by simp; omega
        obtain ⟨o1, ho1⟩ : ∃ x, O - L = x := ⟨_, rfl⟩
        have e1 : (O : Int) - (L : Nat) = (o1 : Nat) := by omega
        obtain ⟨fo, hfo⟩ : ∃ x, a + o1 = x := ⟨_, rfl⟩
        have HG := Lib.hid (HST.out o1 (by rw [hO, if_pos (by omega)]; exact ho1))
        rw [hfo] at HG
        have ef : (a : Int) + (o1 : Nat) = (fo : Nat) := by omega
        have ewf : IntKind.i64.wrap (fo : Nat) = (fo : Nat) := by rw [wrapI] <;> omega
        have ewf2 : IntKind.i64.wrap ((a : Int) + (o1 : Nat)) = (fo : Nat) := by rw [ef]; exact ewf
        have szix : (0 : Int) ≤ (ix : Nat) := by omega
        have snix : ((ix : Nat) : Int) < (n : Nat) := by omega
        have szfo : (0 : Int) ≤ (fo : Nat) := by omega
        have snfo : ((fo : Nat) : Int) < (n : Nat) := by omega
        clear HST
        go_upto_region 10 with (go_at_call 84; with_reducible (refine (HN.out _ HS.out.2).mono ?_); rintro e w2 ⟨rfl, rfl⟩)
        have HS2 := Lib.hid (And.intro HS.out.1 (HS.out.2.next Y))
        clear HS HN
        generalize (wr.setCell ⟨w.heap.size, 0, none⟩ (.int .u64 (Y : Nat))).drewN 3 = w2 at *
        obtain ⟨cz1, cz2, fz1, fz2, ⟨u, cz3⟩, q3, hs3⟩ := two_swap (W := w2) RR.out H0.out HS2.out.1 HS2.out.2.sw ix fo (by omega) (by omega)
        have S3 := Lib.hid (And.intro hs3 (HS2.out.2.swapped RR.out.hblk q3))
        clear HS2 q3 hs3
        generalize dk[ix]! = ya at cz1 S3
        generalize dk[fo]! = yb at cz2 cz3 S3
        go_wp2_with fail
        go_region
        clear cz1 cz2 cz3 fz1 fz2
        generalize ((w2.setCell ⟨blk, off + ix, none⟩ (eK yb)).setCell ⟨blk, off + fo, none⟩ (eK ya)).drew = w3 at *
        go_wp2_with fail
        go_roundw
        case rel => exact ⟨t + 1, xorNext r, _, by first | rfl | go_num | (congr 1; omega), by omega, S3.out.1, by rw [HEN.out]; exact S3.out.2, HG.out⟩
        case measure => simp [intOf]; omega
      · have d2 : decide ((L : Int) ≤ (O : Nat)) = false := by simp; omega
        obtain ⟨o1, ho1⟩ : ∃ x, O = x := ⟨_, rfl⟩
        obtain ⟨fo, hfo⟩ : ∃ x, a + o1 = x := ⟨_, rfl⟩
        have HG := Lib.hid (HST.out o1 (by rw [hO, if_neg (by omega)]; exact ho1))
        subst ho1
        rw [hfo] at HG
        have ef : (a : Int) + (O : Nat) = (fo : Nat) := by omega
        have ewf : IntKind.i64.wrap (fo : Nat) = (fo : Nat) := by rw [wrapI] <;> omega
        have ewf2 : IntKind.i64.wrap ((a : Int) + (O : Nat)) = (fo : Nat) := by rw [ef]; exact ewf
        have szix : (0 : Int) ≤ (ix : Nat) := by omega
        have snix : ((ix : Nat) : Int) < (n : Nat) := by omega
        have szfo : (0 : Int) ≤ (fo : Nat) := by omega
        have snfo : ((fo : Nat) : Int) < (n : Nat) := by omega
        clear HST
        go_upto_region 10 with (go_at_call 84; with_reducible (refine (HN.out _ HS.out.2).mono ?_); rintro e w2 ⟨rfl, rfl⟩)
        have HS2 := Lib.hid (And.intro HS.out.1 (HS.out.2.next Y))
        clear HS HN
        generalize (wr.setCell ⟨w.heap.size, 0, none⟩ (.int .u64 (Y : Nat))).drewN 3 = w2 at *
        obtain ⟨cz1, cz2, fz1, fz2, ⟨u, cz3⟩, q3, hs3⟩ := two_swap (W := w2) RR.out H0.out HS2.out.1 HS2.out.2.sw ix fo (by omega) (by omega)
        have S3 := Lib.hid (And.intro hs3 (HS2.out.2.swapped RR.out.hblk q3))
        clear HS2 q3 hs3
        generalize dk[ix]! = ya at cz1 S3
        generalize dk[fo]! = yb at cz2 cz3 S3
        go_wp2_with fail
        go_region
        clear cz1 cz2 cz3 fz1 fz2
        generalize ((w2.setCell ⟨blk, off + ix, none⟩ (eK yb)).setCell ⟨blk, off + fo, none⟩ (eK ya)).drew = w3 at *
        go_wp2_with fail
        go_roundw
        case rel => exact ⟨t + 1, xorNext r, _, by first | rfl | go_num | (congr 1; omega), by omega, S3.out.1, by rw [HEN.out]; exact S3.out.2, HG.out⟩
        case measure => simp [intOf]; omega
    · have e3 : t = 3 := by omega
      subst e3
      have d1 : decide (((i0 + 3 : Nat) : Int) ≤ ((i0 + 2 : Nat) : Int)) = false := by simp
      have HF := Lib.hid (show (Go.Proofs.bpRest a L M i0 3 0 (UInt64.ofNat L, d)).size = n ∧ SW eK w0 blk off (Go.Proofs.bpRest a L M i0 3 0 (UInt64.ofNat L, d)) wr from by rw [← HO.out]; exact ⟨HS.out.1, HS.out.2.sw⟩)
      clear HO HS
      rw [hix] at d1 ⊢
      go_wp2_with fail
      go_end0
      exact ⟨rfl, HF.out⟩
end Go.Proofs.Ytjjanogfcfapcaa.W
