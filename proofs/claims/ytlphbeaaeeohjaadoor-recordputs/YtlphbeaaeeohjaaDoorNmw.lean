/- The iterator name.walk: it hands on the labels at the front of a string, one after the other, each with the offset after it. -/
import Derived.Test.YtlphbeaaeeohjaaDoorNma
import Derived.Test.YtlphbeaaeeohjaaDoorRows
import Derived.RangeFuncNested
import Derived.RangeFuncBound
import Derived.RangeFuncCalls
import Derived.RangeFuncLeaves
import Derived.RangeFuncBox
import Derived.Shelf.Abstract
import Derived.Shelf.RegionOpen
import Derived.WalkKit
import Derived.OwnWalkIn
import Derived.TacticsInMore
import Derived.LoopNIn
import Derived.LoopIn
import Derived.Maps.AppendAt
import Derived.Lib.Hide
namespace Go.Proofs.YtlphbeaaeeohjaaDoor
open Go.RowKit Go.Shelf
attribute [local go_sem] Oper.semAt_some

/-- A block's one cell is as it was. -/
def KeepsAt (B : Nat) (W W' : World) : Prop := ∀ v, W.cell? ⟨B, 0, none⟩ = some v → W'.cell? ⟨B, 0, none⟩ = some v

/-- What the iterator hands on for a label. -/
def enc (s : ByteArray) (x : At s) : Array Value := #[.string (s.extract (x.1 + 1) (nxt s x.1)), .int .i64 (nxt s x.1 : Nat)]

theorem slice_at (s : ByteArray) (x y : Int) (a b : Nat) (hx : x = a) (hy : y = b) (h1 : a ≤ b) (h2 : b ≤ s.size) (w : World) :
    (Instr.slice 9 (.string s) (some (.int .i64 x)) (some (.int .i64 y)) none).run Tryd.prog w = .ok (.string (s.extract a b)) w := by
  subst hx hy
  have := run_slice_string (P := Tryd.prog) (w := w) 9 s .i64 .i64 (a : Int) (b : Int) Tryd.underlying9 (by omega) (by omega) (by omega)
  simpa using this

set_option maxRecDepth 100000 in
set_option maxHeartbeats 1000000 in
theorem walk1_in (n : Nat) (hn : 1 ≤ n) (l Bn : Nat) (s : ByteArray) (hs : s.size ≤ 140737488355328) (J Jx : List (At s) → World → Prop)
    (hY : ∀ pre x W, J pre W → pre.length < (labsFrom s 0).length → YieldAt Fence.wide (n - 1) Tryd.prog l (enc s x) W fun e W' =>
      (e = .returned (.bool true) ∧ J (pre ++ [x]) W' ∧ KeepsAt Bn W W') ∨ (e = .returned (.bool false) ∧ Jx (pre ++ [x]) W'))
    (W : World) (hBn : W.cell? ⟨Bn, 0, none⟩ = some (.string s)) (h0 : J [] W) :
    CallsIn Fence.wide n Tryd.prog 96 #[.func (.yield l) #[] #[], .pointer (some ⟨Bn, 0, none⟩)] W fun e W' => (∃ v, e = .returned v) ∧
      ((∃ ys, ys = labsFrom s 0 ∧ J ys W') ∨ (∃ pre, pre <+: labsFrom s 0 ∧ Jx pre W')) := by
  refine callsIn_of_wp Tryd.func96 rfl trivial ?_ rfl
  simp only [Tryd.ntmps96, List.size_toArray, List.length_cons, List.length_nil, Nat.reduceAdd, Nat.reduceSub, Array.replicate_succ, Array.replicate_zero, List.push_toArray, List.append_toArray, List.nil_append, List.cons_append]
  gi_wp2
  gi_loopw [3] (fun p wr => ∃ (pre : List (At s)) (k : Nat), k ≤ s.size ∧ p = .int .i64 k ∧ labsFrom s 0 = pre ++ labsFrom s k ∧ wr.cell? ⟨Bn, 0, none⟩ = some (.string s) ∧ J pre wr)
    (fun p wr => s.size - (intOf p).toNat)
  case atStart =>
    exact ⟨[], 0, Nat.zero_le _, rfl, rfl, hBn, h0⟩
  case round =>
    obtain ⟨pre, k, hk, rfl, hx, hc, hJs⟩ := hrel
    have HX := Lib.hid hx
    clear hx
    by_cases hlt : k < s.size
    · have h8 : s[k].toNat ≤ 255 := by have := s[k].toNat_lt; omega
      by_cases hl : isL s k = true
      · have h' := isL_iff.1 hl
        obtain ⟨_, h1, h2, h3⟩ := h'
        unfold nxt at h3
        rw [lsz_eq hlt] at h1 h2 h3
        have e1 : nxt s k = k + 1 + s[k].toNat := by unfold nxt; rw [lsz_eq hlt]
        have hxs := HX.out
        rw [labsFrom_cons hl] at hxs
        obtain ⟨fn, tmps, assign, body, hy, hR⟩ := hY pre ⟨k, hl⟩ wr hJs (by rw [hxs]; simp)
        unfold enc at hy
        dsimp only at hy
        rw [e1] at hy
        have HXS := Lib.hid hxs
        have E1 := Lib.hid e1
        clear hxs e1
        have hpc : ((k + 1 + s[k].toNat : Nat) : Int) = (k : Int) + 1 + (s[k].toNat : Int) := by omega
        rw [hpc] at hy
        clear hpc
        have b1 : ((s[k].toNat : Int) == 0) = false := by simpa using h1
        have b2 : decide (63 < (s[k].toNat : Int)) = false := by simp; omega
        have b3 : decide ((s.size : Int) < (k : Int) + 1 + (s[k].toNat : Int)) = false := by simp; omega
        have hsl := slice_at s ((k : Int) + 1) ((k : Int) + 1 + (s[k].toNat : Int)) (k + 1) (k + 1 + s[k].toNat) (by omega) (by omega) (by omega) (by omega) wr
        gi_wp2
        refine hR.mono ?_
        rintro e W3 (⟨rfl, hJ3, hk3⟩ | ⟨rfl, hJx3⟩)
        · have hc3 := hk3 _ hc
          gi_wp2
          go_roundw
          case rel => exact ⟨pre ++ [⟨k, hl⟩], k + 1 + s[k].toNat, h3, by go_num, by rw [HXS.out, E1.out]; simp, hc3, hJ3⟩
          case measure => simp [intOf]; omega
        · gi_wp2
          refine bodyPost_ret (results_none rfl _ _ _) rfl ?_
          exact ⟨⟨_, rfl⟩, .inr ⟨pre ++ [⟨k, hl⟩], ⟨labsFrom s (nxt s k), by rw [HXS.out]; simp⟩, hJx3⟩⟩
      · have hnl := labsFrom_nil hl
        have hall : labsFrom s 0 = pre := by rw [HX.out, hnl]; simp
        have HA := Lib.hid hall
        have hno : ¬ (s[k].toNat ≠ 0 ∧ s[k].toNat ≤ 63 ∧ k + 1 + s[k].toNat ≤ s.size) := by
          intro h
          apply hl
          rw [isL_iff]
          unfold nxt
          rw [lsz_eq hlt]
          exact ⟨hlt, h⟩
        clear hnl hall
        by_cases c1 : s[k].toNat = 0
        · have b1 : ((s[k].toNat : Int) == 0) = true := by simpa using c1
          clear c1 hno
          gi_wp2
          refine bodyPost_ret (results_none rfl _ _ _) rfl ?_
          exact ⟨⟨_, rfl⟩, .inl ⟨pre, HA.out.symm, hJs⟩⟩
        · have b1 : ((s[k].toNat : Int) == 0) = false := by simpa using c1
          by_cases c2 : 63 < s[k].toNat
          · have b2 : decide (63 < (s[k].toNat : Int)) = true := by simp; omega
            clear c1 c2 hno
            gi_wp2
            refine bodyPost_ret (results_none rfl _ _ _) rfl ?_
            exact ⟨⟨_, rfl⟩, .inl ⟨pre, HA.out.symm, hJs⟩⟩
          · have b2 : decide (63 < (s[k].toNat : Int)) = false := by simp; omega
            have b3 : decide ((s.size : Int) < (k : Int) + 1 + (s[k].toNat : Int)) = true := by simp; omega
            clear c1 hno
            gi_wp2
            refine bodyPost_ret (results_none rfl _ _ _) rfl ?_
            exact ⟨⟨_, rfl⟩, .inl ⟨pre, HA.out.symm, hJs⟩⟩
    · have hnl : labsFrom s k = [] := labsFrom_nil (fun h => hlt (isL_iff.1 h).1)
      have hall : labsFrom s 0 = pre := by rw [HX.out, hnl]; simp
      have HA := Lib.hid hall
      clear hnl hall
      gi_wp2
      go_end0
      exact ⟨⟨_, rfl⟩, .inl ⟨pre, HA.out.symm, hJs⟩⟩

set_option maxHeartbeats 1000000 in
theorem walk_gives (n : Nat) (s : ByteArray) (w : World) :
    CallsIn Fence.wide n Tryd.prog 88 #[.string s] w fun e w' => e = .returned (.func (.func 96) #[] #[.pointer (some ⟨w.heap.size, 0, none⟩)]) ∧ w' = w.alloc (.cells #[.string s] 9) := by
  refine callsIn_of_wp Tryd.func88 rfl trivial ?_ rfl
  simp only [Tryd.ntmps88, List.size_toArray, List.length_cons, List.length_nil, Nat.reduceAdd, Nat.reduceSub, Array.replicate_succ, Array.replicate_zero, List.push_toArray, List.append_toArray, List.nil_append, List.cons_append]
  gi_wp2
  go_ret
  exact ⟨rfl, rfl⟩

theorem keepsAt_t {B : Nat} {X Y Z : World} (h : KeepsAt B X Y) (k : KeepsAt B Y Z) : KeepsAt B X Z := fun v hv => k v (h v hv)
theorem keepsAt_b {B m : Nat} (hB : B < m) (W : World) (l : Nat) (o o' : Obj) (hl : m ≤ l) (_ : W.heap[l]? = some o) (_ : o.isCells = false) (_ : o.isWalk = false) : KeepsAt B W (W.putObj l o') := fun v hv => by
  have : (W.putObj l o').heap[B]? = W.heap[B]? := World.putObj_heap_other (by omega)
  unfold World.cell? at hv ⊢
  simp only [this]
  exact hv

theorem walk_stops (n : Nat) (hn : 1 ≤ n) (Bn : Nat) (s : ByteArray) (hs : s.size ≤ 140737488355328) (w : World) (hBn : Bn < w.heap.size) (hc : w.cell? ⟨Bn, 0, none⟩ = some (.string s)) :
    SeqStopsK Fence.wide n Tryd.prog 96 #[.pointer (some ⟨Bn, 0, none⟩)] (enc s) (KeepsAt Bn) (fun ys => ys = labsFrom s 0) (fun pre => pre <+: labsFrom s 0) (labsFrom s 0).length w := fun l J Jx W hW _ _ hY h0 =>
  walk1_in n hn l Bn s hs J Jx hY W ((hW.cell (p := ⟨Bn, 0, none⟩) hBn).trans hc) h0
end Go.Proofs.YtlphbeaaeeohjaaDoor
