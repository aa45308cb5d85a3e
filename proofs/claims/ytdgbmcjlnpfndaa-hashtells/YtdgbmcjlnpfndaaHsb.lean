/- The contracts of hash.may and hash.Shard, of the document's Shard, of derricklaw09.shown and few. -/
import Derived.Test.YtdgbmcjlnpfndaaHsa
namespace Go.Proofs.Ytdgbmcjlnpfndaa
open Go.RowKit
set_option linter.unusedVariables false

/-- May a cache have so many shards? -/
def mayM (m : Int) : Bool := decide (1 ≤ m) && decide (m ≤ 16)
theorem mayM_yes {m : Nat} (h1 : 1 ≤ m) (h2 : m ≤ 16) : mayM m = true := by unfold mayM; simp; omega
set_option maxHeartbeats 1000000 in
theorem may_any (n : Int) (w : World) : Calls Try.prog 21 #[.int .i64 n] w fun e w' => e = .returned (.bool (mayM n)) ∧ w' = w := by
  unfold mayM
  cases h1 : decide (1 ≤ n) with
  | false =>
    have h2 : decide (n ≥ 1) = false := h1
    go_enter Try.func21, Try.ntmps21
    go_wp2_with fail
    go_ret
    exact ⟨rfl, rfl⟩
  | true =>
    have h2 : decide (n ≥ 1) = true := h1
    cases h3 : decide (n ≤ 16) with
    | false =>
      go_enter Try.func21, Try.ntmps21
      go_wp2_with fail
      go_ret
      exact ⟨rfl, rfl⟩
    | true =>
      go_enter Try.func21, Try.ntmps21
      go_wp2_with fail
      go_ret
      exact ⟨rfl, rfl⟩

/-- The shard of a question, of m. -/
def shN (r : Rc) (m : Nat) : Nat := fnv (keyB r) % m
theorem shN_lt (r : Rc) {m : Nat} (h : 1 ≤ m) : shN r m < m := Nat.mod_lt _ h
theorem rem_fin {f m x : Nat} (hf : f < 4294967296) (hx : x = f % m) : wrap64 ((f : Int) % (m : Int)) = (x : Nat) := by
  subst hx
  have h0 : f % m ≤ f := Nat.mod_le _ _
  have e : (f : Int) % (m : Int) = ((f % m : Nat) : Int) := (Int.natCast_emod f m).symm
  rw [e]
  exact IntWalk.wrap64_in ((f % m : Nat) : Int) (by omega)
theorem kb_agg {w W : World} {n : ByteArray} {k c : Nat} (h : Kb w n k c W) : W.heap[w.heap.size]? = some (.cells #[.string n, .int .u16 (k : Nat), .int .u16 (c : Nat)] 24 (0, 0)) := h.one

set_option maxRecDepth 100000 in
set_option maxHeartbeats 1000000 in
theorem shard_any (r : Rc) (hr : r.Ok) (hs : r.n.size ≤ 100000) (m : Nat) (h1 : 1 ≤ m) (h2 : m ≤ 16) (w : World) :
    Calls Try.prog 14 #[qV r, .int .i64 (m : Nat)] w fun e w' => e = .returned (.int .i64 (shN r m : Nat)) ∧ Below w.heap.size w w' := by
  have HM := Lib.hid (fun w => may_any (m : Nat) w)
  rw [mayM_yes h1 h2] at HM
  have HK := Lib.hid (fun w => key_any r hr hs w)
  have HO := Lib.hid (fun w => of_any (keyB r) (by rw [keyB_size]; omega) w)
  have HL := Lib.hid (fnv_lt (keyB r))
  have HE := Lib.hid (show shN r m = fnv (keyB r) % m from rfl)
  generalize keyB r = K at *
  generalize fnv K = f at *
  generalize shN r m = x at *
  obtain ⟨n, k, c, t, d⟩ := r
  unfold qV at *
  simp only at *
  have HS := Lib.hid (Kb.start w n k c)
  obtain ⟨W, hW⟩ : ∃ W, W = w.alloc (Obj.cells #[.string n, .int .u16 (k : Nat), .int .u16 (c : Nat)] 24) := ⟨_, rfl⟩
  rw [← hW] at HS
  have HH := Lib.hid hW
  have e0 := blk_cell HS.out.one 0
  have e1 := blk_cell HS.out.one 1
  have e2 := blk_cell HS.out.one 2
  clear hW hr hs
  go_enter Try.func14, Try.ntmps14
  go_upto_region 1 with (fail)
  rw [← HH.out]
  clear HH
  go_wp2_with (first
    | (go_at_call 21; with_reducible (refine (HM.out _).mono ?_); rintro e w1 ⟨rfl, rfl⟩)
    | (go_at_call 12; with_reducible (refine (HK.out _).mono ?_); rintro e w2 ⟨rfl, hb2⟩; have HS2 := Lib.hid (HS.out.call hb2); clear hb2)
    | (go_at_call 10; with_reducible (refine (HO.out _).mono ?_); rintro e w3 ⟨rfl, rfl⟩))
  go_ret
  exact ⟨congrArg Ending.returned (congrArg (Value.int .i64) (rem_fin HL.out HE.out)), HS2.out.bel⟩

set_option maxHeartbeats 1000000 in
theorem shard_no (r : Rc) (m : Int) (h : mayM m = false) (w : World) :
    Calls Try.prog 14 #[qV r, .int .i64 m] w fun e w' => e = .returned (.int .i64 0) ∧ Below w.heap.size w w' := by
  have HM := Lib.hid (fun w => may_any m w)
  rw [h] at HM
  clear h
  obtain ⟨n, k, c, t, d⟩ := r
  unfold qV at *
  simp only at *
  have HB := Lib.hid (fun cs => (Below.refl w.heap.size w).alloc (Nat.le_refl _) (Obj.cells cs 24))
  go_enter Try.func14, Try.ntmps14
  go_wp2_with (go_at_call 21; with_reducible (refine (HM.out _).mono ?_); rintro e w1 ⟨rfl, rfl⟩)
  go_ret
  exact ⟨rfl, HB.out _⟩

set_option maxRecDepth 100000 in
set_option maxHeartbeats 1000000 in
theorem rshard_any (r : Rc) (hr : r.Ok) (hs : r.n.size ≤ 100000) (m : Nat) (h1 : 1 ≤ m) (h2 : m ≤ 16) (w : World) :
    Calls Try.prog 15 #[qV r, .int .i64 (m : Nat)] w fun e w' => e = .returned (.int .i64 (shN r m : Nat)) ∧ Below w.heap.size w w' := by
  have HK := Lib.hid (fun w => rkey_any r hr hs w)
  have HO := Lib.hid (fun w => rof_any (keyB r) (by rw [keyB_size]; omega) w)
  have HL := Lib.hid (fnv_lt (keyB r))
  have HE := Lib.hid (show shN r m = fnv (keyB r) % m from rfl)
  generalize keyB r = K at *
  generalize fnv K = f at *
  generalize shN r m = x at *
  obtain ⟨n, k, c, t, d⟩ := r
  unfold qV at *
  simp only at *
  have HS := Lib.hid (Kb.start w n k c)
  obtain ⟨W, hW⟩ : ∃ W, W = w.alloc (Obj.cells #[.string n, .int .u16 (k : Nat), .int .u16 (c : Nat)] 24) := ⟨_, rfl⟩
  rw [← hW] at HS
  have HH := Lib.hid hW
  have e0 := blk_cell HS.out.one 0
  have e1 := blk_cell HS.out.one 1
  have e2 := blk_cell HS.out.one 2
  have d1 : decide ((m : Int) < 1) = false := by simp; omega
  have d2 : decide ((m : Int) > 16) = false := by simp; omega
  have HL1 := HL.out
  clear hW hr hs
  go_enter Try.func15, Try.ntmps15
  go_upto_region 1 with (fail)
  rw [← HH.out]
  clear HH
  go_wp2_with (first
    | (go_at_call 13; with_reducible (refine (HK.out _).mono ?_); rintro e w2 ⟨rfl, hb2⟩; have HS2 := Lib.hid (HS.out.call hb2); clear hb2)
    | (go_at_call 11; with_reducible (refine (HO.out _).mono ?_); rintro e w3 ⟨rfl, rfl⟩))
  go_ret
  exact ⟨congrArg Ending.returned (congrArg (Value.int .i64) (rem_fin HL.out HE.out)), HS2.out.bel⟩

set_option maxHeartbeats 1000000 in
theorem rshard_no (r : Rc) (m : Int) (h : mayM m = false) (w : World) :
    Calls Try.prog 15 #[qV r, .int .i64 m] w fun e w' => e = .returned (.int .i64 0) ∧ Below w.heap.size w w' := by
  obtain ⟨n, k, c, t, d⟩ := r
  unfold qV at *
  simp only at *
  have HB := Lib.hid (fun cs => (Below.refl w.heap.size w).alloc (Nat.le_refl _) (Obj.cells cs 24))
  by_cases h1 : m < 1
  · have d1 : decide (m < 1) = true := by simpa using h1
    clear h h1
    go_enter Try.func15, Try.ntmps15
    go_wp2_with fail
    go_ret
    exact ⟨rfl, HB.out _⟩
  · have d1 : decide (m < 1) = false := by simpa using h1
    have d2 : decide (m > 16) = true := by
      unfold mayM at h
      simp at h ⊢
      omega
    clear h h1
    go_enter Try.func15, Try.ntmps15
    go_wp2_with fail
    go_ret
    exact ⟨rfl, HB.out _⟩

/-- The shard of a question, of any number. -/
def shI (r : Rc) (a : Int) : Nat := if mayM a = true then shN r a.toNat else 0
theorem mayM_nat {a : Int} (h : mayM a = true) : ∃ m : Nat, a = m ∧ 1 ≤ m ∧ m ≤ 16 := by
  unfold mayM at h
  simp at h
  exact ⟨a.toNat, by omega, by omega, by omega⟩
theorem shardI (r : Rc) (hr : r.Ok) (hs : r.n.size ≤ 100000) (a : Int) (w : World) :
    Calls Try.prog 14 #[qV r, .int .i64 a] w fun e w' => e = .returned (.int .i64 (shI r a : Nat)) ∧ Below w.heap.size w w' := by
  cases h : mayM a with
  | false => rw [show shI r a = 0 by unfold shI; rw [h]; rfl]; exact shard_no r a h w
  | true =>
    obtain ⟨m, rfl, h1, h2⟩ := mayM_nat h
    rw [show shI r m = shN r m by unfold shI; rw [h]; rfl]
    exact shard_any r hr hs m h1 h2 w
theorem rshardI (r : Rc) (hr : r.Ok) (hs : r.n.size ≤ 100000) (a : Int) (w : World) :
    Calls Try.prog 15 #[qV r, .int .i64 a] w fun e w' => e = .returned (.int .i64 (shI r a : Nat)) ∧ Below w.heap.size w w' := by
  cases h : mayM a with
  | false => rw [show shI r a = 0 by unfold shI; rw [h]; rfl]; exact rshard_no r a h w
  | true =>
    obtain ⟨m, rfl, h1, h2⟩ := mayM_nat h
    rw [show shI r m = shN r m by unfold shI; rw [h]; rfl]
    exact rshard_any r hr hs m h1 h2 w

theorem fnv_none : fnv ⟨#[]⟩ = 2166136261 := by decide +kernel
theorem fnv_a : fnv ⟨#[97]⟩ = 3826002220 := by decide +kernel
set_option maxHeartbeats 1000000 in
theorem shown_any (w : World) : Calls Try.prog 8 #[] w fun e w' => e = .returned (.bool true) ∧ w' = w := by
  have H1 := Lib.hid (fun w => of_any ⟨#[]⟩ (by decide) w)
  have H2 := Lib.hid (fun w => of_any ⟨#[97]⟩ (by decide) w)
  rw [fnv_none] at H1
  rw [fnv_a] at H2
  go_enter Try.func8, Try.ntmps8
  go_wp2_with (first
    | (go_at_call 10; with_reducible (refine (H1.out _).mono ?_); rintro e w1 ⟨rfl, rfl⟩)
    | (go_at_call 10; with_reducible (refine (H2.out _).mono ?_); rintro e w1 ⟨rfl, rfl⟩))
  go_ret
  exact ⟨rfl, rfl⟩

/-- 200 questions, of names of 300 bytes, at most. -/
def few0 (r : Rc) : Bool := decide (r.n.size ≤ 300)
def fewQ (l : List Rc) : Bool := decide (l.length ≤ 200) && l.all few0
theorem fewQ_out {l : List Rc} (h : fewQ l = true) : l.length ≤ 200 ∧ ∀ r ∈ l, r.n.size ≤ 300 := by
  unfold fewQ at h
  simp only [Bool.and_eq_true, decide_eq_true_iff, List.all_eq_true] at h
  exact ⟨h.1, fun r hr => by have := h.2 r hr; unfold few0 at this; simpa using this⟩
theorem fewQ_no {l : List Rc} {j : Nat} (hj : j < l.length) (h : few0 l[j] = false) : fewQ l = false := by
  cases ha : fewQ l with
  | false => rfl
  | true =>
    unfold fewQ at ha
    rw [Bool.and_eq_true] at ha
    have := List.all_eq_true.1 ha.2 l[j] (List.getElem_mem hj)
    rw [h] at this; cases this
theorem fewQ_long {l : List Rc} (h : 200 < l.length) : fewQ l = false := by
  unfold fewQ
  rw [show decide (l.length ≤ 200) = false by simpa using h, Bool.false_and]
theorem fewQ_yes {l : List Rc} (h0 : l.length ≤ 200) (h : ∀ t (ht : t < l.length), few0 l[t] = true) : fewQ l = true := by
  unfold fewQ
  rw [Bool.and_eq_true]
  exact ⟨by simpa using h0, List.all_eq_true.2 fun r hr => by obtain ⟨t, ht, rfl⟩ := List.getElem_of_mem hr; exact h t ht⟩

set_option maxRecDepth 100000 in
set_option maxHeartbeats 1000000 in
theorem few_any (A : Option Addr) (cap : Nat) (l : List Rc) (hl : l.length ≤ 9223372036854775807) (w : World) (hI : Sl qf w A cap l) :
    Calls Try.prog 9 #[.slice A l.length cap] w fun e w' => e = .returned (.bool (fewQ l)) ∧ w' = w := by
  have HI := Lib.hid hI
  clear hI
  go_enter Try.func9, Try.ntmps9
  go_wp2_with fail
  go_loopw [3] (fun i wr => ∃ j : Nat, j ≤ l.length ∧ j ≤ 201 ∧ i = .int .i64 j ∧ (∀ t (ht : t < l.length), t < j → few0 l[t] = true) ∧ wr = w) (fun i _ => l.length - (intOf i).toNat)
  case atStart => exact ⟨0, Nat.zero_le _, Nat.zero_le _, rfl, (fun t _ ht => by omega), rfl⟩
  case round =>
    obtain ⟨j, hj, hj2, rfl, hall, rfl⟩ := hrel
    by_cases hlt : j < l.length
    · have d1 : decide ((j : Int) < l.length) = true := by simp; omega
      by_cases h2 : j < 201
      · have d2 : decide ((j : Int) < 201) = true := by simp; omega
        obtain ⟨b, off, rfl, hb, c0, c1, c2⟩ := HI.out.ask3 j hlt
        have HNo := Lib.hid (fewQ_no hlt)
        have hnx : few0 l[j] = true → ∀ t (ht : t < l.length), t < j + 1 → few0 l[t] = true := fun h t ht hlt' => by
          rcases Nat.lt_or_ge t j with h' | h'
          · exact hall t ht h'
          · obtain rfl : t = j := by omega
            exact h
        have HNx := Lib.hid hnx
        clear hall hnx
        generalize l[j] = r at *
        by_cases hn : r.n.size ≤ 300
        · have t1 : decide ((r.n.size : Int) > 300) = false := by simp; omega
          have HE3 := Lib.hid (HNx.out (by unfold few0; simp [hn]))
          clear hn
          go_wp2_with fail
          go_roundw
          case rel => exact ⟨j + 1, hlt, h2, by go_num, HE3.out, by first | rfl | trivial⟩
          case measure => simp [intOf]; omega
        · have t1 : decide ((r.n.size : Int) > 300) = true := by simp; omega
          have HE3 := Lib.hid (HNo.out (by unfold few0; simp [hn]))
          clear hn
          go_wp2_with fail
          go_ret
          exact ⟨by rw [HE3.out]; rfl, rfl⟩
      · have d2 : decide ((j : Int) < 201) = false := by simp; omega
        have d3 : decide ((l.length : Int) ≤ 200) = false := by simp; omega
        have HE3 := Lib.hid (fewQ_long (l := l) (by omega))
        clear hall
        go_wp2_with fail
        go_ret
        exact ⟨by rw [HE3.out]; rfl, rfl⟩
    · obtain rfl : j = l.length := by omega
      by_cases h3 : l.length ≤ 200
      · have d3 : decide ((l.length : Int) ≤ 200) = true := by simp; omega
        have HE3 := Lib.hid (fewQ_yes h3 (fun t ht => hall t ht ht))
        clear hall h3
        go_wp2_with fail
        go_ret
        exact ⟨by rw [HE3.out]; rfl, rfl⟩
      · have d3 : decide ((l.length : Int) ≤ 200) = false := by simp; omega
        have HE3 := Lib.hid (fewQ_long (l := l) (by omega))
        clear hall h3
        go_wp2_with fail
        go_ret
        exact ⟨by rw [HE3.out]; rfl, rfl⟩
end Go.Proofs.Ytdgbmcjlnpfndaa
