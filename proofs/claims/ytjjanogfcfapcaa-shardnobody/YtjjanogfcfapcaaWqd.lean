/- The walks of order2CmpFunc, medianCmpFunc, medianAdjacentCmpFunc, choosePivotCmpFunc (written by tools/gen_wq.py). -/
import Derived.Test.YtjjanogfcfapcaaWqa
namespace Go.Proofs.Ytjjanogfcfapcaa.W
open Go.RowKit Go.Shelf Go.Sort
open Go.Proofs (SW Row1 ltOf Cnt1)
set_option linter.unusedVariables false
variable {cf : Ik → Ik → Int} {g blk off n : Nat} {w0 W : World} {d0 dk : Array Ik}
set_option maxRecDepth 1000000 in
set_option maxHeartbeats 4000000 in
theorem ord2_s (HC : CmpB cf g blk off n w0) (R : Row1 eK w0 blk off d0) (h0 : d0.size = n) (hn : n ≤ 100000) (cap i j c s : Nat) (w : World) (hs : dk.size = n) (C : Cnt1 eK w0 blk off dk c s w) (hi : i < n) (hj : j < n) (hs2 : s ≤ 1000) :
    Calls Try.prog 87 #[.slice (some ⟨blk, off, none⟩) n cap, .int .i64 (i : Nat), .int .i64 (j : Nat), .pointer (some ⟨c, 0, none⟩), fvB g] w fun e w' => e = .returned (.tuple #[.int .i64 ((order2 (ltOf cf) dk i j s).1 : Nat), .int .i64 ((order2 (ltOf cf) dk i j s).2.1 : Nat)]) ∧ Cnt1 eK w0 blk off dk c (order2 (ltOf cf) dk i j s).2.2 w' := by
  have mixed : Try.prog.follows .mixedOrders = true := by kernel_rfl
  have hcl0 := eK_one.cells
  simp only [Value.cells] at hcl0
  have hst := eK_one.store Try.prog
  have HH := Lib.hid HC
  have RR := Lib.hid R
  have S0 := Lib.hid (And.intro hs C)
  have H0 := Lib.hid h0
  clear HC R hs C h0
  obtain ⟨la, lb⟩ := two_cells RR.out H0.out S0.out.1 S0.out.2.1 j i hj hi
  have hc := HH.out.at S0.out.2.1 S0.out.1 dk[j]! dk[i]!
  have szi : (0 : Int) ≤ (i : Nat) := by omega
  have sni : ((i : Nat) : Int) < (n : Nat) := by omega
  have szj : (0 : Int) ≤ (j : Nat) := by omega
  have snj : ((j : Nat) : Int) < (n : Nat) := by omega
  cases hlv : (ltOf cf) dk[j]! dk[i]! with
  | true =>
    have ho : order2 (ltOf cf) dk i j s = (j, i, s + 1) := by unfold order2; rw [hlv]; rfl
    rw [ho]
    have hd := lt_true hlv
    clear ho hlv
    have SG := Lib.hid (fun q os => S0.out.2.grown q os)
    have SB := Lib.hid (fun W' (h : Cnt1 eK w0 blk off dk c s W') => h.bump (s + 1))
    clear S0
    generalize dk[j]! = xa at la hc hd
    generalize dk[i]! = xb at lb hc hd
    go_enter Try.func87, Try.ntmps87
    go_wp2_with fail
    go_quiet_grown (first | (go_at_call 59; exact hc _ _))
    have C2 := SG.out nq osq
    clear la lb hc SG hd
    generalize grow (w.drewN nq) osq = w2 at *
    have e1 : ((s + 1 : Nat) : Int) = (s : Int) + 1 := by omega
    have C3 := SB.out w2 C2
    rw [e1] at C3
    have HC3 := Lib.hid C3
    have z1 := C2.2.1
    have z2 := C2.2.2.1
    clear C2 C3 SB
    go_wp2_with fail
    go_ret2
    exact ⟨rfl, HC3.out⟩
  | false =>
    have ho : order2 (ltOf cf) dk i j s = (i, j, s) := by unfold order2; rw [hlv]; rfl
    rw [ho]
    have hd := lt_false hlv
    clear ho hlv
    have SG := Lib.hid (fun q os => S0.out.2.grown q os)
    clear S0
    generalize dk[j]! = xa at la hc hd
    generalize dk[i]! = xb at lb hc hd
    go_enter Try.func87, Try.ntmps87
    go_wp2_with fail
    go_quiet_grown (first | (go_at_call 59; exact hc _ _))
    have C2 := Lib.hid (SG.out nq osq)
    clear la lb hc SG hd
    generalize grow (w.drewN nq) osq = w2 at *
    go_wp2_with fail
    go_ret2
    exact ⟨rfl, C2.out⟩
theorem ord2_lt (i j s : Nat) (hi : i < n) (hj : j < n) : (order2 (ltOf cf) dk i j s).1 < n ∧ (order2 (ltOf cf) dk i j s).2.1 < n ∧ (order2 (ltOf cf) dk i j s).2.2 ≤ s + 1 := by
  unfold order2
  split
  · exact ⟨hj, hi, Nat.le_refl _⟩
  · exact ⟨hi, hj, Nat.le_succ _⟩
theorem med_lt (i j k s : Nat) (hi : i < n) (hj : j < n) (hk : k < n) : (median (ltOf cf) dk i j k s).1 < n ∧ (median (ltOf cf) dk i j k s).2 ≤ s + 3 := by
  have h1 := ord2_lt (cf := cf) (dk := dk) i j s hi hj
  have h2 := ord2_lt (cf := cf) (dk := dk) (order2 (ltOf cf) dk i j s).2.1 k (order2 (ltOf cf) dk i j s).2.2 h1.2.1 hk
  have h3 := ord2_lt (cf := cf) (dk := dk) (order2 (ltOf cf) dk i j s).1 (order2 (ltOf cf) dk (order2 (ltOf cf) dk i j s).2.1 k (order2 (ltOf cf) dk i j s).2.2).1 (order2 (ltOf cf) dk (order2 (ltOf cf) dk i j s).2.1 k (order2 (ltOf cf) dk i j s).2.2).2.2 h1.1 h2.1
  exact ⟨h3.2.1, Nat.le_trans h3.2.2 (by omega)⟩
set_option maxRecDepth 1000000 in
set_option maxHeartbeats 4000000 in
theorem med_s (HC : CmpB cf g blk off n w0) (R : Row1 eK w0 blk off d0) (h0 : d0.size = n) (hn : n ≤ 100000) (cap i j k c s : Nat) (w : World) (hs : dk.size = n) (C : Cnt1 eK w0 blk off dk c s w) (hi : i < n) (hj : j < n) (hk : k < n) (hs2 : s ≤ 100) :
    Calls Try.prog 86 #[.slice (some ⟨blk, off, none⟩) n cap, .int .i64 (i : Nat), .int .i64 (j : Nat), .int .i64 (k : Nat), .pointer (some ⟨c, 0, none⟩), fvB g] w fun e w' => e = .returned (.int .i64 ((median (ltOf cf) dk i j k s).1 : Nat)) ∧ Cnt1 eK w0 blk off dk c (median (ltOf cf) dk i j k s).2 w' := by
  have HC1 := Lib.hid (ord2_s HC R h0 hn cap i j c s w hs C hi hj (by omega))
  have h1 := ord2_lt (cf := cf) (dk := dk) i j s hi hj
  obtain ⟨r1, hr1⟩ : ∃ r, order2 (ltOf cf) dk i j s = r := ⟨_, rfl⟩
  rw [hr1] at h1 HC1
  have HC2 := Lib.hid (fun W C1 => ord2_s HC R h0 hn cap r1.2.1 k c r1.2.2 W hs C1 h1.2.1 hk (by omega))
  have h2 := ord2_lt (cf := cf) (dk := dk) r1.2.1 k r1.2.2 h1.2.1 hk
  obtain ⟨r2, hr2⟩ : ∃ r, order2 (ltOf cf) dk r1.2.1 k r1.2.2 = r := ⟨_, rfl⟩
  rw [hr2] at h2 HC2
  have HC3 := Lib.hid (fun W C1 => ord2_s HC R h0 hn cap r1.1 r2.1 c r2.2.2 W hs C1 h1.1 h2.1 (by omega))
  obtain ⟨r3, hr3⟩ : ∃ r, order2 (ltOf cf) dk r1.1 r2.1 r2.2.2 = r := ⟨_, rfl⟩
  rw [hr3] at HC3
  have hm : median (ltOf cf) dk i j k s = (r3.2.1, r3.2.2) := by unfold median; rw [hr1]; show (let r2 := order2 (ltOf cf) dk r1.2.1 k r1.2.2; let r3 := order2 (ltOf cf) dk r1.1 r2.1 r2.2.2; (r3.2.1, r3.2.2)) = _; rw [hr2]; show (let r3 := order2 (ltOf cf) dk r1.1 r2.1 r2.2.2; (r3.2.1, r3.2.2)) = _; rw [hr3]
  rw [hm]
  clear hm hr1 hr2 hr3 h1 h2 C HC R
  obtain ⟨p1, q1, s1⟩ := r1
  obtain ⟨p2, q2, s2⟩ := r2
  obtain ⟨p3, q3, s3⟩ := r3
  simp only at HC1 HC2 HC3 ⊢
  go_enter Try.func86, Try.ntmps86
  go_wp2_with (first
    | (go_at_call 87; with_reducible (refine (HC3.out _ z2.out).mono ?_); rintro e w3 ⟨rfl, y3⟩; have z3 := Lib.hid y3; clear y3)
    | (go_at_call 87; with_reducible (refine (HC2.out _ z1.out).mono ?_); rintro e w2 ⟨rfl, y2⟩; have z2 := Lib.hid y2; clear y2)
    | (go_at_call 87; with_reducible (refine HC1.out.mono ?_); rintro e w1 ⟨rfl, y1⟩; have z1 := Lib.hid y1; clear y1))
  go_ret
  exact ⟨rfl, z3.out⟩
set_option maxRecDepth 1000000 in
set_option maxHeartbeats 4000000 in
theorem adj_s (HC : CmpB cf g blk off n w0) (R : Row1 eK w0 blk off d0) (h0 : d0.size = n) (hn : n ≤ 100000) (cap i c s : Nat) (w : World) (hs : dk.size = n) (C : Cnt1 eK w0 blk off dk c s w) (h1 : 1 ≤ i) (hi : i + 1 < n) (hs2 : s ≤ 100) :
    Calls Try.prog 85 #[.slice (some ⟨blk, off, none⟩) n cap, .int .i64 (i : Nat), .pointer (some ⟨c, 0, none⟩), fvB g] w fun e w' => e = .returned (.int .i64 ((medianAdjacent (ltOf cf) dk i s).1 : Nat)) ∧ Cnt1 eK w0 blk off dk c (medianAdjacent (ltOf cf) dk i s).2 w' := by
  unfold medianAdjacent
  obtain ⟨p, rfl⟩ : ∃ p, i = p + 1 := ⟨i - 1, by omega⟩
  have HC1 := Lib.hid (med_s HC R h0 hn cap p (p + 1) (p + 1 + 1) c s w hs C (by omega) (by omega) hi hs2)
  rw [Nat.add_sub_cancel]
  generalize median (ltOf cf) dk p (p + 1) (p + 1 + 1) s = r at *
  have e1 : ((p + 1 : Nat) : Int) - 1 = (p : Nat) := by omega
  have e2 : ((p + 1 : Nat) : Int) + 1 = ((p + 1 + 1 : Nat) : Int) := by omega
  clear C HC R
  generalize hq : p + 1 + 1 = q2 at *
  generalize hq1 : p + 1 = q1 at *
  go_enter Try.func85, Try.ntmps85
  go_wp2_with (go_at_call 86; with_reducible (refine HC1.out.mono ?_); rintro e w1 ⟨rfl, y1⟩)
  go_ret
  exact ⟨rfl, y1⟩
theorem adj_lt (i s : Nat) (h1 : 1 ≤ i) (hi : i + 1 < n) : (medianAdjacent (ltOf cf) dk i s).1 < n ∧ (medianAdjacent (ltOf cf) dk i s).2 ≤ s + 3 := med_lt (i - 1) i (i + 1) s (by omega) (by omega) hi
end Go.Proofs.Ytjjanogfcfapcaa.W
