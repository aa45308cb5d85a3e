/- The contract of record.TakeQ. -/
import Derived.Test.YtlphbeaaeeohjaaDoorRqd
namespace Go.Proofs.YtlphbeaaeeohjaaDoor
open Go.RowKit
set_option linter.unusedVariables false

/-- What TakeQ tells. -/
def qR (s : ByteArray) (p : Int) : Rc := match tkQ s p with | some r => r.1 | none => Rc.zero
def qX (s : ByteArray) (p : Int) : Nat := match tkQ s p with | some r => r.2 | none => 0
def qE (s : ByteArray) (p : Int) : Nat := match tkQ s p with | some _ => 0 | none => 2
theorem q_some {s : ByteArray} {p : Int} {r : Rc × Nat} (h : tkQ s p = some r) : qR s p = r.1 ∧ qX s p = r.2 ∧ qE s p = 0 := by unfold qR qX qE; rw [h]; exact ⟨rfl, rfl, rfl⟩
theorem q_none {s : ByteArray} {p : Int} (h : tkQ s p = none) : qR s p = Rc.zero ∧ qX s p = 0 ∧ qE s p = 2 := by unfold qR qX qE; rw [h]; exact ⟨rfl, rfl, rfl⟩
theorem q_cases (s : ByteArray) (p : Int) : (tkQ s p = none ∧ qR s p = Rc.zero ∧ qX s p = 0 ∧ qE s p = 2) ∨ (∃ r, tkQ s p = some r ∧ qR s p = r.1 ∧ qX s p = r.2 ∧ qE s p = 0 ∧ qX s p ≤ s.size) := by
  cases h : tkQ s p with
  | none => exact .inl ⟨rfl, q_none h⟩
  | some r => obtain ⟨a, b, c⟩ := q_some h; exact .inr ⟨r, rfl, a, b, c, by rw [b]; exact (tkQ_is h).2.2.2.1⟩
theorem qR_ok (s : ByteArray) (p : Int) : (qR s p).Ok := by
  rcases q_cases s p with ⟨_, h, _⟩ | ⟨r, h, h1, _⟩
  · rw [h]; exact Rc.zero_ok
  · rw [h1]; exact (tkQ_is h).1
theorem qX_le (s : ByteArray) (p : Int) : qX s p ≤ s.size := by
  rcases q_cases s p with ⟨_, _, h, _⟩ | ⟨r, _, _, _, _, h⟩
  · omega
  · exact h
/-- The values of a question and of a record. -/
def qV (r : Rc) : Array Value := #[.string r.n, .int .u16 (r.k : Nat), .int .u16 (r.c : Nat)]
def rV (r : Rc) : Array Value := #[.string r.n, .int .u16 (r.k : Nat), .int .u16 (r.c : Nat), .int .u32 (r.t : Nat), .string r.d]

theorem tkX_le (s : ByteArray) (p : Int) : tkX s p ≤ s.size := by
  rcases tk_cases s p with ⟨_, _, h⟩ | ⟨_, _, _, h⟩
  · omega
  · exact h
theorem se_nat (s : ByteArray) (p m : Nat) : Oc.se s p m = if p + m ≤ s.size then 0 else 2 := by
  unfold Oc.se
  by_cases h : p + m ≤ s.size
  · have hok : Oc.okS s p m := ⟨by omega, by omega, by omega⟩
    rw [if_pos hok, if_pos h]
  · have hok : ¬ Oc.okS s p m := fun x => h (by have := x.2.2; omega)
    rw [if_neg hok, if_neg h]
theorem so_nat {s : ByteArray} {p m : Nat} (h : p + m ≤ s.size) : Oc.so s p m = (p + m : Nat) := by
  unfold Oc.so
  have hok : Oc.okS s p m := ⟨by omega, by omega, by omega⟩
  rw [if_pos hok]
  omega
/-- The program's parts of a question are the document's. -/
theorem q_parts (s : ByteArray) (p : Int) :
    cmbW (tkE s p : Nat) (Oc.se s (tkX s p : Nat) 2) (Oc.se s (Oc.so s (tkX s p : Nat) 2) 2) (.agg #[.string ⟨#[]⟩, .int .u16 0, .int .u16 0]) (.agg #[.string (tkS s p), .int .u16 (Oc.un s (tkX s p : Nat) 2), .int .u16 (Oc.un s (Oc.so s (tkX s p : Nat) 2) 2)]) = .agg #[.string (qR s p).n, .int .u16 ((qR s p).k : Nat), .int .u16 ((qR s p).c : Nat)] ∧
    cmbX (tkE s p : Nat) (Oc.se s (tkX s p : Nat) 2) (Oc.se s (Oc.so s (tkX s p : Nat) 2) 2) (Oc.so s (Oc.so s (tkX s p : Nat) 2) 2) = (qX s p : Nat) ∧
    cmbE (tkE s p : Nat) (Oc.se s (tkX s p : Nat) 2) (Oc.se s (Oc.so s (tkX s p : Nat) 2) 2) = (qE s p : Nat) := by
  have h2 : ((2 : Nat) : Int) = 2 := rfl
  cases hN : tkN s p with
  | none =>
    have hq : tkQ s p = none := by
      unfold tkQ
      by_cases h0 : 0 ≤ p
      · unfold tkN at hN
        rw [if_pos h0] at hN
        rw [if_pos h0]
        unfold nm1
        rw [hN]
        rfl
      · rw [if_neg h0]
    have hE : tkE s p = 2 := by unfold tkE; rw [hN]
    obtain ⟨a, b, c⟩ := q_none hq
    rw [a, b, c, hE]
    exact ⟨rfl, rfl, rfl⟩
  | some r =>
    have h0 : 0 ≤ p := by
      rcases Int.lt_or_le p 0 with h | h
      · unfold tkN at hN; rw [if_neg (by omega)] at hN; cases hN
      · exact h
    have hE : tkE s p = 0 := by unfold tkE; rw [hN]
    have hX : tkX s p = r.2 := by unfold tkX; rw [hN]
    have hS : tkS s p = ⟨(r.1.map low).toArray⟩ := by unfold tkS; rw [hN]
    have hnm : nm1 s p.toNat = some (r.1.map low, r.2) := by
      unfold tkN at hN
      rw [if_pos h0] at hN
      unfold nm1
      rw [hN]
      rfl
    have hle := (nm1_is hnm).2.2.1
    simp only at hle
    rw [hE, hX, hS, ← h2, se_nat]
    by_cases c1 : r.2 + 2 ≤ s.size
    · rw [so_nat c1, se_nat, if_pos c1]
      by_cases c2 : r.2 + 2 + 2 ≤ s.size
      · have hq : tkQ s p = some (⟨⟨(r.1.map low).toArray⟩, g16 s r.2, g16 s (r.2 + 2), 0, ⟨#[]⟩⟩, r.2 + 4) := by
          unfold tkQ
          rw [if_pos h0, hnm]
          simp only [Option.bind_some]
          rw [if_pos (by omega)]
        obtain ⟨a, b, c⟩ := q_some hq
        rw [a, b, c, if_pos c2, so_nat c2, h2, un16 c1, un16 c2]
        exact ⟨rfl, rfl, rfl⟩
      · have hq : tkQ s p = none := by
          unfold tkQ
          rw [if_pos h0, hnm]
          simp only [Option.bind_some]
          rw [if_neg (by omega)]
        obtain ⟨a, b, c⟩ := q_none hq
        rw [a, b, c, if_neg c2]
        exact ⟨rfl, rfl, rfl⟩
    · have hq : tkQ s p = none := by
        unfold tkQ
        rw [if_pos h0, hnm]
        simp only [Option.bind_some]
        rw [if_neg (by omega)]
      obtain ⟨a, b, c⟩ := q_none hq
      rw [a, b, c, if_neg c1]
      refine ⟨?_, ?_, ?_⟩
      · unfold cmbW
        rw [if_neg (fun x => by have := x.2.1; omega)]
        rfl
      · unfold cmbX
        rw [if_neg (fun x => by have := x.2.1; omega)]
        rfl
      · rfl

set_option maxRecDepth 100000 in
set_option maxHeartbeats 1000000 in
theorem takeq_any (s : ByteArray) (p : Int) (hs : s.size ≤ 1073741824) (hp : p ≤ maxLen) (w : World) :
    Calls Tryd.prog 13 #[.string s, .int .i64 p] w fun en w' => en = .returned (.tuple #[.agg #[.string (qR s p).n, .int .u16 ((qR s p).k : Nat), .int .u16 ((qR s p).c : Nat)], .int .i64 (qX s p : Nat), .int .i64 (qE s p : Nat)]) ∧ Below w.heap.size w w' := by
  have hs' : s.size ≤ maxLen := by unfold maxLen; omega
  have hx1 : ((tkX s p : Nat) : Int) ≤ maxLen := by have := tkX_le s p; unfold maxLen at *; omega
  have hx2 := Oc.so_le s (tkX s p : Nat) 2 hs'
  obtain ⟨a1, a2, a3⟩ := q_parts s p
  have hc := fun (g : Nat) (w' : World) hg => combineq_any s p (tkX s p : Nat) (Oc.so s (tkX s p : Nat) 2) (Oc.so s (Oc.so s (tkX s p : Nat) 2) 2) (tkE s p : Nat) (Oc.se s (tkX s p : Nat) 2) (Oc.se s (Oc.so s (tkX s p : Nat) 2) 2) (tkS s p) (tkS s p) (tkS s p) 0 (Oc.un s (tkX s p : Nat) 2) (Oc.un s (tkX s p : Nat) 2) 0 0 (Oc.un s (Oc.so s (tkX s p : Nat) 2) 2) g w'
    (fun w'' _ => takename_any _ _ _ _ _ (by omega) hp w'') (fun w'' _ => taketype_any _ _ _ _ _ hs' hx1 w'') (fun w'' _ => takeclass_any _ _ _ _ _ hs' hx2 w'') hg
  rw [a1, a2, a3] at hc
  generalize (qR s p).n = N at hc ⊢
  generalize (qR s p).k = K at hc ⊢
  generalize (qR s p).c = C at hc ⊢
  generalize qX s p = X at hc ⊢
  generalize qE s p = E at hc ⊢
  have HK := Lib.hid hc
  clear hc a1 a2 a3 hx1 hx2
  have HF := Lib.hid (heap_alloc2_new w (Obj.cells #[.string ⟨#[]⟩, .int .u16 0, .int .u16 0] 29) (Obj.cells #[.func (.func 36) #[] #[], .func (.func 37) #[] #[], .func (.func 38) #[] #[]] 69))
  have HN := Lib.hid (show ((w.alloc (Obj.cells #[.string ⟨#[]⟩, .int .u16 0, .int .u16 0] 29)).alloc (Obj.cells #[.func (.func 36) #[] #[], .func (.func 37) #[] #[], .func (.func 38) #[] #[]] 69)).heap[w.heap.size]? = some (.cells #[.string ⟨#[]⟩, .int .u16 0, .int .u16 0] 29 (0, 0)) by rw [heap_alloc_old _ _ (by simp)]; exact World.alloc_heap_new w _)
  have HB := Lib.hid (((Below.refl w.heap.size w).alloc (Nat.le_refl _) (Obj.cells #[.string ⟨#[]⟩, .int .u16 0, .int .u16 0] 29)).alloc (by simp) (Obj.cells #[.func (.func 36) #[] #[], .func (.func 37) #[] #[], .func (.func 38) #[] #[]] 69))
  go_enter Tryd.func13, Tryd.ntmps13
  go_wp2_with fail
  refine (HK.out _ _ HF.out).mono ?_
  rintro en w1 ⟨rfl, hb1⟩
  have HN1 := Lib.hid ((hb1.block w.heap.size (by simp; omega)).trans HN.out)
  have HB1 := Lib.hid (HB.out.trans (hb1.mono HB.out.size))
  clear hb1 HN HB HF HK
  go_wp2_with (refine wpList_store_row rfl 29 _ _ rfl w.heap.size _ rfl rfl 29 _ HN1.out infoQ rfl (all3 _ _ _) ?_)
  exact ret_q3 (g := w.heap.size) rfl rfl rfl rfl rfl (setRow_heap _ _ _ _ _ _ HN1.out) ⟨rfl, setRow_below HB1.out (Nat.le_refl _) _⟩
end Go.Proofs.YtlphbeaaeeohjaaDoor
