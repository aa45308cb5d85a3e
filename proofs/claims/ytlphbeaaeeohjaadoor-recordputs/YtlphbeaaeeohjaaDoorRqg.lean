/- The contract of record.Take. -/
import Derived.Test.YtlphbeaaeeohjaaDoorRqf
namespace Go.Proofs.YtlphbeaaeeohjaaDoor
open Go.RowKit
set_option linter.unusedVariables false

/-- What Take tells. -/
def rR (s : ByteArray) (p : Int) : Rc := match tkR s p with | some r => r.1 | none => Rc.zero
def rX (s : ByteArray) (p : Int) : Nat := match tkR s p with | some r => r.2 | none => 0
def rE (s : ByteArray) (p : Int) : Nat := match tkR s p with | some _ => 0 | none => 2
theorem r_some {s : ByteArray} {p : Int} {r : Rc × Nat} (h : tkR s p = some r) : rR s p = r.1 ∧ rX s p = r.2 ∧ rE s p = 0 := by unfold rR rX rE; rw [h]; exact ⟨rfl, rfl, rfl⟩
theorem r_none {s : ByteArray} {p : Int} (h : tkR s p = none) : rR s p = Rc.zero ∧ rX s p = 0 ∧ rE s p = 2 := by unfold rR rX rE; rw [h]; exact ⟨rfl, rfl, rfl⟩
theorem r_cases (s : ByteArray) (p : Int) : (tkR s p = none ∧ rR s p = Rc.zero ∧ rX s p = 0 ∧ rE s p = 2) ∨ (∃ r, tkR s p = some r ∧ rR s p = r.1 ∧ rX s p = r.2 ∧ rE s p = 0) := by
  cases h : tkR s p with
  | none => exact .inl ⟨rfl, r_none h⟩
  | some r => exact .inr ⟨r, rfl, r_some h⟩
theorem rR_ok (s : ByteArray) (p : Int) : (rR s p).Ok := by
  rcases r_cases s p with ⟨_, h, _⟩ | ⟨r, h, h1, _⟩
  · rw [h]; exact Rc.zero_ok
  · rw [h1]; exact (tkR_is h).1

/-- The program's parts of a record are the document's. -/
theorem r_parts (s : ByteArray) (p : Int) :
    cmbW (qE s p : Nat) (Oc.se s (qX s p : Nat) 4) (dE s (Oc.so s (qX s p : Nat) 4) (qR s p).k) (.agg #[.string ⟨#[]⟩, .int .u16 0, .int .u16 0, .int .u32 0, .string ⟨#[]⟩]) (.agg #[.string (qR s p).n, .int .u16 ((qR s p).k : Nat), .int .u16 ((qR s p).c : Nat), .int .u32 (Oc.un s (qX s p : Nat) 4), .string (dS s (Oc.so s (qX s p : Nat) 4) (qR s p).k)]) =
      .agg #[.string (rR s p).n, .int .u16 ((rR s p).k : Nat), .int .u16 ((rR s p).c : Nat), .int .u32 ((rR s p).t : Nat), .string (rR s p).d] ∧
    cmbX (qE s p : Nat) (Oc.se s (qX s p : Nat) 4) (dE s (Oc.so s (qX s p : Nat) 4) (qR s p).k) (dX s (Oc.so s (qX s p : Nat) 4)) = (rX s p : Nat) ∧
    cmbE (qE s p : Nat) (Oc.se s (qX s p : Nat) 4) (dE s (Oc.so s (qX s p : Nat) 4) (qR s p).k) = (rE s p : Nat) := by
  have h4 : ((4 : Nat) : Int) = 4 := rfl
  have h2 : ((2 : Nat) : Int) = 2 := rfl
  rcases q_cases s p with ⟨hq, a1, a2, a3⟩ | ⟨q, hq, a1, a2, a3, a4⟩
  · have hr : tkR s p = none := by unfold tkR; rw [hq]; rfl
    obtain ⟨b1, b2, b3⟩ := r_none hr
    rw [b1, b2, b3, a3]
    exact ⟨rfl, rfl, rfl⟩
  · rw [a1, a2, a3]
    rw [a2] at a4
    have no : tkR s p = none → (∀ (W : Value) (P e2 e3 : Int), ¬ (e2 = 0 ∧ e3 = 0) → (e2 = 0 ∨ e2 = 2) → (e2 = 0 → e3 = 2) → cmbW ((0 : Nat) : Int) e2 e3 (.agg #[.string ⟨#[]⟩, .int .u16 0, .int .u16 0, .int .u32 0, .string ⟨#[]⟩]) W = .agg #[.string (rR s p).n, .int .u16 ((rR s p).k : Nat), .int .u16 ((rR s p).c : Nat), .int .u32 ((rR s p).t : Nat), .string (rR s p).d] ∧ cmbX ((0 : Nat) : Int) e2 e3 P = (rX s p : Nat) ∧ cmbE ((0 : Nat) : Int) e2 e3 = (rE s p : Nat)) := by
      intro hr W P e2 e3 hne h02 h3
      obtain ⟨b1, b2, b3⟩ := r_none hr
      rw [b1, b2, b3]
      refine ⟨?_, ?_, ?_⟩
      · unfold cmbW
        rw [if_neg (fun x => hne x.2)]
        rfl
      · unfold cmbX
        rw [if_neg (fun x => hne x.2)]
        rfl
      · unfold cmbE
        rw [if_pos (show ((0 : Nat) : Int) = 0 from rfl)]
        split
        · rename_i h; exact h3 h
        · rename_i h; rcases h02 with h' | h'
          · exact absurd h' h
          · exact h'
    by_cases c1 : q.2 + 4 ≤ s.size
    · have e2 : Oc.se s (q.2 : Nat) 4 = 0 := by rw [← h4, se_nat, if_pos c1]
      have o2 : Oc.so s (q.2 : Nat) 4 = (q.2 + 4 : Nat) := by rw [← h4]; exact so_nat c1
      rw [o2, e2]
      by_cases c2 : q.2 + 4 + 2 ≤ s.size
      · have e3 : Oc.se s (q.2 + 4 : Nat) 2 = 0 := by rw [← h2, se_nat, if_pos c2]
        have o3 : Oc.so s (q.2 + 4 : Nat) 2 = (q.2 + 4 + 2 : Nat) := by rw [← h2]; exact so_nat c2
        have hm := g16_lt s (q.2 + 4) c2
        have hO := tdO_eq (s := s) (p := q.2 + 4 + 2) (m := g16 s (q.2 + 4)) (k := q.1.k) (by omega)
        unfold dE dS dX
        rw [e3, if_pos rfl, if_pos rfl, if_pos rfl, o3, un16 c2]
        by_cases c3 : q.2 + 4 + 2 + g16 s (q.2 + 4) ≤ s.size
        · rw [if_pos c3] at hO
          cases hT : takeD s (q.2 + 4 + 2) (g16 s (q.2 + 4)) q.1.k with
          | none =>
            rw [hT] at hO
            rw [(td_none hO).2]
            refine no ?_ _ _ _ _ (by omega) (.inl rfl) (fun _ => rfl)
            unfold tkR
            rw [hq]
            simp only [Option.bind_some]
            rw [if_pos (by omega), hT]
            rfl
          | some d =>
            rw [hT] at hO
            rw [(td_some hO).2, (td_some hO).1]
            have hr : tkR s p = some (⟨q.1.n, q.1.k, q.1.c, g32 s q.2, ⟨d.toArray⟩⟩, q.2 + 6 + g16 s (q.2 + 4)) := by
              unfold tkR
              rw [hq]
              simp only [Option.bind_some]
              rw [if_pos (by omega), hT]
              rfl
            obtain ⟨b1, b2, b3⟩ := r_some hr
            rw [b1, b2, b3, ← h4, show ((q.2 : Nat) : Int) = ((q.2 : Nat) : Int) from rfl, h4, un32 c1]
            refine ⟨rfl, ?_, rfl⟩
            unfold cmbX
            rw [if_pos ⟨rfl, rfl, rfl⟩]
            simp only
            omega
        · rw [if_neg c3] at hO
          rw [(td_none hO).2]
          refine no ?_ _ _ _ _ (by omega) (.inl rfl) (fun _ => rfl)
          unfold tkR
          rw [hq]
          simp only [Option.bind_some]
          rw [if_neg (by omega)]
      · have e3 : Oc.se s (q.2 + 4 : Nat) 2 = 2 := by rw [← h2, se_nat, if_neg c2]; rfl
        have e4 : dE s (q.2 + 4 : Nat) q.1.k = 2 := by unfold dE; rw [e3, if_neg (by decide)]
        rw [e4]
        refine no ?_ _ _ _ _ (by omega) (.inl rfl) (fun _ => rfl)
        unfold tkR
        rw [hq]
        simp only [Option.bind_some]
        rw [if_neg (by omega)]
    · have e2 : Oc.se s (q.2 : Nat) 4 = 2 := by rw [← h4, se_nat, if_neg c1]
      rw [e2]
      refine no ?_ _ _ _ _ (by omega) (.inr rfl) (fun x => by cases x)
      unfold tkR
      rw [hq]
      simp only [Option.bind_some]
      rw [if_neg (by omega)]

set_option maxRecDepth 100000 in
set_option maxHeartbeats 1000000 in
theorem taker_any (s : ByteArray) (p : Int) (hs : s.size ≤ 1073741824) (hp : p ≤ maxLen) (w : World) (hL : Lay w) :
    Calls Tryd.prog 11 #[.string s, .int .i64 p] w fun en w' => en = .returned (.tuple #[.agg #[.string (rR s p).n, .int .u16 ((rR s p).k : Nat), .int .u16 ((rR s p).c : Nat), .int .u32 ((rR s p).t : Nat), .string (rR s p).d], .int .i64 (rX s p : Nat), .int .i64 (rE s p : Nat)]) ∧ Below w.heap.size w w' := by
  have hs' : s.size ≤ maxLen := by unfold maxLen; omega
  have hx1 : ((qX s p : Nat) : Int) ≤ maxLen := by have := qX_le s p; unfold maxLen at *; omega
  have hx2 := Oc.so_le s (qX s p : Nat) 4 hs'
  have hk := (qR_ok s p).k
  obtain ⟨a1, a2, a3⟩ := r_parts s p
  have hc := fun (g : Nat) (w' : World) (hL' : Lay w') hg => combiner_any s p (qX s p : Nat) (Oc.so s (qX s p : Nat) 4) (dX s (Oc.so s (qX s p : Nat) 4)) (qE s p : Nat) (Oc.se s (qX s p : Nat) 4) (dE s (Oc.so s (qX s p : Nat) 4) (qR s p).k) (qR s p).n (qR s p).n (qR s p).n ⟨#[]⟩ ⟨#[]⟩ (dS s (Oc.so s (qX s p : Nat) 4) (qR s p).k) ((qR s p).k : Nat) ((qR s p).k : Nat) ((qR s p).k : Nat) ((qR s p).c : Nat) ((qR s p).c : Nat) ((qR s p).c : Nat) 0 (Oc.un s (qX s p : Nat) 4) (Oc.un s (qX s p : Nat) 4) g w'
    (fun w'' _ => takekey_any _ _ _ _ _ _ _ hs hp w'') (fun w'' _ => takettl_any _ _ _ _ _ _ _ hs' hx1 w'') (fun w'' hb => takedata_any _ _ _ _ _ _ hs hx2 hk w'' (hL'.below (lay_lt hL') hb)) hg
  rw [a1, a2, a3] at hc
  generalize (rR s p).n = N at hc ⊢
  generalize (rR s p).k = K at hc ⊢
  generalize (rR s p).c = C at hc ⊢
  generalize (rR s p).t = T at hc ⊢
  generalize (rR s p).d = D at hc ⊢
  generalize rX s p = X at hc ⊢
  generalize rE s p = E at hc ⊢
  have HK := Lib.hid hc
  have HL := Lib.hid hL
  have H0 := Lib.hid (lay_lt hL)
  clear hc a1 a2 a3 hx1 hx2 hk hL
  have HF := Lib.hid (heap_alloc2_new w (Obj.cells #[.string ⟨#[]⟩, .int .u16 0, .int .u16 0, .int .u32 0, .string ⟨#[]⟩] 25) (Obj.cells #[.func (.func 29) #[] #[], .func (.func 30) #[] #[], .func (.func 31) #[] #[]] 61))
  have HN := Lib.hid (show ((w.alloc (Obj.cells #[.string ⟨#[]⟩, .int .u16 0, .int .u16 0, .int .u32 0, .string ⟨#[]⟩] 25)).alloc (Obj.cells #[.func (.func 29) #[] #[], .func (.func 30) #[] #[], .func (.func 31) #[] #[]] 61)).heap[w.heap.size]? = some (.cells #[.string ⟨#[]⟩, .int .u16 0, .int .u16 0, .int .u32 0, .string ⟨#[]⟩] 25 (0, 0)) by rw [heap_alloc_old _ _ (by simp)]; exact World.alloc_heap_new w _)
  have HB := Lib.hid (((Below.refl w.heap.size w).alloc (Nat.le_refl _) (Obj.cells #[.string ⟨#[]⟩, .int .u16 0, .int .u16 0, .int .u32 0, .string ⟨#[]⟩] 25)).alloc (by simp) (Obj.cells #[.func (.func 29) #[] #[], .func (.func 30) #[] #[], .func (.func 31) #[] #[]] 61))
  have HL2 := Lib.hid (HL.out.below H0.out HB.out)
  go_enter Tryd.func11, Tryd.ntmps11
  go_wp2_with fail
  refine (HK.out _ _ HL2.out HF.out).mono ?_
  rintro en w1 ⟨rfl, hb1⟩
  have HN1 := Lib.hid ((hb1.block w.heap.size (by simp; omega)).trans HN.out)
  have HB1 := Lib.hid (HB.out.trans (hb1.mono HB.out.size))
  clear hb1 HN HB HF HK HL HL2
  go_wp2_with (refine wpList_store_row rfl 25 _ _ rfl w.heap.size _ rfl rfl 25 _ HN1.out infoR rfl (all5 _ _ _ _ _) ?_)
  exact ret_r3 (g := w.heap.size) rfl rfl rfl rfl rfl (setRow_heap _ _ _ _ _ _ HN1.out) ⟨rfl, setRow_below HB1.out (Nat.le_refl _) _⟩
end Go.Proofs.YtlphbeaaeeohjaaDoor
