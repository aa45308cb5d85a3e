/- Joined texts: Nma Nmw Nmc Nmf Nmm Nmd Nmn Shw Nmj Rew. -/
import Derived.Attr
import Derived.Test.YtnakljbginbenaaGreatDoorRows
import Derived.RangeFuncNested
import Derived.RangeFuncBound
import Derived.RangeFuncCalls
import Derived.RangeFuncLeaves
import Derived.RangeFuncBox
import Derived.Shelf.Abstract
import Derived.Shelf.RegionOpen
import Derived.WalkKit
import Derived.OwnWalkIn
import Derived.TacticsInMore
import Derived.LoopNIn
import Derived.LoopIn
import Derived.Maps.AppendAt
import Derived.Lib.Hide
import Derived.Laws.IdiomStrings
import Derived.Deep.Draws
import Derived.Deep.QuietTactic
import Derived.BigQuiet
import Derived.WalkSpells
import Derived.WalkLawsBesides
import Derived.Laws.Strings
import Derived.Shelf.Strings.Builder1
import Derived.Shelf.Strings.Builder2
import Derived.Shelf.Strings.BuilderF
import Derived.Shelf.Strings.BuilderK
import Derived.Shelf.Strings.Builder2Cap
import Derived.Shelf.Strings.BuilderCap
import Derived.Test.YtnakljbginbenaaGreatDoorProg
import Derived.Laws.MakeOwn

/- Plain mathematics of domain names: the labels at the front of a string, and where they end. -/
namespace Go.Proofs.YtnakljbginbenaaGreatDoor

/-- The length byte at an offset. -/
def lsz (s : ByteArray) (p : Nat) : Nat := if h : p < s.size then s[p].toNat else 0
def nxt (s : ByteArray) (p : Nat) : Nat := p + 1 + lsz s p
/-- Does a label begin at an offset? -/
def isL (s : ByteArray) (p : Nat) : Bool := decide (p < s.size ∧ lsz s p ≠ 0 ∧ lsz s p ≤ 63 ∧ nxt s p ≤ s.size)
theorem isL_iff {s : ByteArray} {p : Nat} : isL s p = true ↔ p < s.size ∧ lsz s p ≠ 0 ∧ lsz s p ≤ 63 ∧ nxt s p ≤ s.size := by simp [isL]
theorem lsz_eq {s : ByteArray} {p : Nat} (h : p < s.size) : lsz s p = s[p].toNat := dif_pos h

/-- An offset at which a label begins. -/
abbrev At (s : ByteArray) := { p : Nat // isL s p = true }
theorem At.lt {s : ByteArray} (x : At s) : x.1 + 1 < nxt s x.1 ∧ nxt s x.1 ≤ s.size ∧ nxt s x.1 ≤ x.1 + 64 := by
  have h := isL_iff.1 x.2
  unfold nxt at *
  omega

/-- The labels from an offset on. -/
def labsFrom (s : ByteArray) (p : Nat) : List (At s) := if h : isL s p = true then ⟨p, h⟩ :: labsFrom s (nxt s p) else []
termination_by s.size - p
decreasing_by
  have h' := isL_iff.1 h
  unfold nxt at *
  omega
/-- The first offset at which no label begins. -/
def endFrom (s : ByteArray) (p : Nat) : Nat := if isL s p = true then endFrom s (nxt s p) else p
termination_by s.size - p
decreasing_by
  rename_i h
  have h' := isL_iff.1 h
  unfold nxt at *
  omega
theorem labsFrom_cons {s : ByteArray} {p : Nat} (h : isL s p = true) : labsFrom s p = ⟨p, h⟩ :: labsFrom s (nxt s p) := by rw [labsFrom, dif_pos h]
theorem labsFrom_nil {s : ByteArray} {p : Nat} (h : ¬ isL s p = true) : labsFrom s p = [] := by rw [labsFrom, dif_neg h]
theorem endFrom_cons {s : ByteArray} {p : Nat} (h : isL s p = true) : endFrom s p = endFrom s (nxt s p) := by rw [endFrom, if_pos h]
theorem endFrom_nil {s : ByteArray} {p : Nat} (h : ¬ isL s p = true) : endFrom s p = p := by rw [endFrom, if_neg h]

theorem labsFrom_len (s : ByteArray) : ∀ (m p : Nat), s.size - p ≤ m → (labsFrom s p).length ≤ m := by
  intro m
  induction m with
  | zero =>
    intro p h
    have : ¬ isL s p = true := fun h' => by have := isL_iff.1 h'; omega
    rw [labsFrom_nil this]; simp
  | succ m ih =>
    intro p h
    by_cases hl : isL s p = true
    · have h' := isL_iff.1 hl
      rw [labsFrom_cons hl]
      have := ih (nxt s p) (by unfold nxt at *; omega)
      simp; omega
    · rw [labsFrom_nil hl]; simp
/-- The offset behind the last one of some labels. -/
def endOf {s : ByteArray} (q : Nat) (l : List (At s)) : Nat := match l.getLast? with | none => q | some x => nxt s x.1
theorem endOf_nil {s : ByteArray} (q : Nat) : endOf q ([] : List (At s)) = q := rfl
theorem endOf_snoc {s : ByteArray} (q : Nat) (l : List (At s)) (x : At s) : endOf q (l ++ [x]) = nxt s x.1 := by simp [endOf]
theorem endOf_cons {s : ByteArray} (q : Nat) (l : List (At s)) (x : At s) : endOf q (x :: l) = endOf (nxt s x.1) l := by
  cases l with
  | nil => simp [endOf]
  | cons y l => simp [endOf, List.getLast?_cons]
theorem endOf_le {s : ByteArray} (l : List (At s)) : endOf 0 l ≤ s.size := by
  unfold endOf
  split
  · exact Nat.zero_le _
  · rename_i x _; exact x.lt.2.1
theorem endOf_all (s : ByteArray) : ∀ (m p : Nat), s.size - p ≤ m → endOf p (labsFrom s p) = endFrom s p := by
  intro m
  induction m with
  | zero =>
    intro p h
    have hn : ¬ isL s p = true := fun h' => by have := isL_iff.1 h'; omega
    rw [labsFrom_nil hn, endFrom_nil hn, endOf_nil]
  | succ m ih =>
    intro p h
    by_cases hl : isL s p = true
    · have h' := isL_iff.1 hl
      rw [labsFrom_cons hl, endFrom_cons hl, endOf_cons]
      exact ih (nxt s p) (by unfold nxt at *; omega)
    · rw [labsFrom_nil hl, endFrom_nil hl, endOf_nil]
theorem endOf_labs (s : ByteArray) : endOf 0 (labsFrom s 0) = endFrom s 0 := endOf_all s s.size 0 (by omega)
theorem endFrom_le (s : ByteArray) : endFrom s 0 ≤ s.size := by rw [← endOf_labs]; exact endOf_le _

/-- What is behind the labels is one zero byte. -/
def endZ (s : ByteArray) : Bool := (s.extract (endFrom s 0) s.size).toList == [0]
/-- name.count's results. -/
def cnt (s : ByteArray) : Nat := if endZ s = true ∧ s.size ≤ 255 then (labsFrom s 0).length else 0
def cerr (s : ByteArray) : Nat := if endZ s = true then (if s.size ≤ 255 then 0 else 3) else 2
theorem cnt_yes {s : ByteArray} (h : endZ s = true) (h2 : s.size ≤ 255) : cnt s = (labsFrom s 0).length ∧ cerr s = 0 := by simp [cnt, cerr, h, h2]
theorem cnt_long {s : ByteArray} (h : endZ s = true) (h2 : 255 < s.size) : cnt s = 0 ∧ cerr s = 3 := by simp [cnt, cerr, h, show ¬ s.size ≤ 255 by omega]
theorem cnt_form {s : ByteArray} (h : endZ s = false) : cnt s = 0 ∧ cerr s = 2 := by simp [cnt, cerr, h]
end Go.Proofs.YtnakljbginbenaaGreatDoor

/- The iterator name.walk: it hands on the labels at the front of a string, one after the other, each with the offset after it. -/
namespace Go.Proofs.YtnakljbginbenaaGreatDoor
open Go.RowKit Go.Shelf
attribute [local go_sem] Oper.semAt_some

/-- A block's one cell is as it was. -/
def KeepsAt (B : Nat) (W W' : World) : Prop := ∀ v, W.cell? ⟨B, 0, none⟩ = some v → W'.cell? ⟨B, 0, none⟩ = some v

/-- What the iterator hands on for a label. -/
def enc (s : ByteArray) (x : At s) : Array Value := #[.string (s.extract (x.1 + 1) (nxt s x.1)), .int .i64 (nxt s x.1 : Nat)]

theorem slice_at (s : ByteArray) (x y : Int) (a b : Nat) (hx : x = a) (hy : y = b) (h1 : a ≤ b) (h2 : b ≤ s.size) (w : World) :
    (Instr.slice 9 (.string s) (some (.int .i64 x)) (some (.int .i64 y)) none).run Tryz.prog w = .ok (.string (s.extract a b)) w := by
  subst hx hy
  have := run_slice_string (P := Tryz.prog) (w := w) 9 s .i64 .i64 (a : Int) (b : Int) Tryz.underlying9 (by omega) (by omega) (by omega)
  simpa using this

set_option maxRecDepth 100000 in
set_option maxHeartbeats 1000000 in
theorem walk1_in (n : Nat) (hn : 1 ≤ n) (l Bn : Nat) (s : ByteArray) (hs : s.size ≤ 140737488355328) (J Jx : List (At s) → World → Prop)
    (hY : ∀ pre x W, J pre W → pre.length < (labsFrom s 0).length → YieldAt Fence.wide (n - 1) Tryz.prog l (enc s x) W fun e W' =>
      (e = .returned (.bool true) ∧ J (pre ++ [x]) W' ∧ KeepsAt Bn W W') ∨ (e = .returned (.bool false) ∧ Jx (pre ++ [x]) W'))
    (W : World) (hBn : W.cell? ⟨Bn, 0, none⟩ = some (.string s)) (h0 : J [] W) :
    CallsIn Fence.wide n Tryz.prog 124 #[.func (.yield l) #[] #[], .pointer (some ⟨Bn, 0, none⟩)] W fun e W' => (∃ v, e = .returned v) ∧
      ((∃ ys, ys = labsFrom s 0 ∧ J ys W') ∨ (∃ pre, pre <+: labsFrom s 0 ∧ Jx pre W')) := by
  refine callsIn_of_wp Tryz.func124 rfl trivial ?_ rfl
  simp only [Tryz.ntmps124, List.size_toArray, List.length_cons, List.length_nil, Nat.reduceAdd, Nat.reduceSub, Array.replicate_succ, Array.replicate_zero, List.push_toArray, List.append_toArray, List.nil_append, List.cons_append]
  gi_wp2
  gi_loopw [3] (fun p wr => ∃ (pre : List (At s)) (k : Nat), k ≤ s.size ∧ p = .int .i64 k ∧ labsFrom s 0 = pre ++ labsFrom s k ∧ wr.cell? ⟨Bn, 0, none⟩ = some (.string s) ∧ J pre wr)
    (fun p wr => s.size - (intOf p).toNat)
  case atStart =>
    exact ⟨[], 0, Nat.zero_le _, rfl, rfl, hBn, h0⟩
  case round =>
    obtain ⟨pre, k, hk, rfl, hx, hc, hJs⟩ := hrel
    have HX := Lib.hid hx
    clear hx
    by_cases hlt : k < s.size
    · have h8 : s[k].toNat ≤ 255 := by have := s[k].toNat_lt; omega
      by_cases hl : isL s k = true
      · have h' := isL_iff.1 hl
        obtain ⟨_, h1, h2, h3⟩ := h'
        unfold nxt at h3
        rw [lsz_eq hlt] at h1 h2 h3
        have e1 : nxt s k = k + 1 + s[k].toNat := by unfold nxt; rw [lsz_eq hlt]
        have hxs := HX.out
        rw [labsFrom_cons hl] at hxs
        obtain ⟨fn, tmps, assign, body, hy, hR⟩ := hY pre ⟨k, hl⟩ wr hJs (by rw [hxs]; simp)
        unfold enc at hy
        dsimp only at hy
        rw [e1] at hy
        have HXS := Lib.hid hxs
        have E1 := Lib.hid e1
        clear hxs e1
        have hpc : ((k + 1 + s[k].toNat : Nat) : Int) = (k : Int) + 1 + (s[k].toNat : Int) := by omega
        rw [hpc] at hy
        clear hpc
        have b1 : ((s[k].toNat : Int) == 0) = false := by simpa using h1
        have b2 : decide (63 < (s[k].toNat : Int)) = false := by simp; omega
        have b3 : decide ((s.size : Int) < (k : Int) + 1 + (s[k].toNat : Int)) = false := by simp; omega
        have hsl := slice_at s ((k : Int) + 1) ((k : Int) + 1 + (s[k].toNat : Int)) (k + 1) (k + 1 + s[k].toNat) (by omega) (by omega) (by omega) (by omega) wr
        gi_wp2
        refine hR.mono ?_
        rintro e W3 (⟨rfl, hJ3, hk3⟩ | ⟨rfl, hJx3⟩)
        · have hc3 := hk3 _ hc
          gi_wp2
          go_roundw
          case rel => exact ⟨pre ++ [⟨k, hl⟩], k + 1 + s[k].toNat, h3, by go_num, by rw [HXS.out, E1.out]; simp, hc3, hJ3⟩
          case measure => simp [intOf]; omega
        · gi_wp2
          refine bodyPost_ret (results_none rfl _ _ _) rfl ?_
          exact ⟨⟨_, rfl⟩, .inr ⟨pre ++ [⟨k, hl⟩], ⟨labsFrom s (nxt s k), by rw [HXS.out]; simp⟩, hJx3⟩⟩
      · have hnl := labsFrom_nil hl
        have hall : labsFrom s 0 = pre := by rw [HX.out, hnl]; simp
        have HA := Lib.hid hall
        have hno : ¬ (s[k].toNat ≠ 0 ∧ s[k].toNat ≤ 63 ∧ k + 1 + s[k].toNat ≤ s.size) := by
          intro h
          apply hl
          rw [isL_iff]
          unfold nxt
          rw [lsz_eq hlt]
          exact ⟨hlt, h⟩
        clear hnl hall
        by_cases c1 : s[k].toNat = 0
        · have b1 : ((s[k].toNat : Int) == 0) = true := by simpa using c1
          clear c1 hno
          gi_wp2
          refine bodyPost_ret (results_none rfl _ _ _) rfl ?_
          exact ⟨⟨_, rfl⟩, .inl ⟨pre, HA.out.symm, hJs⟩⟩
        · have b1 : ((s[k].toNat : Int) == 0) = false := by simpa using c1
          by_cases c2 : 63 < s[k].toNat
          · have b2 : decide (63 < (s[k].toNat : Int)) = true := by simp; omega
            clear c1 c2 hno
            gi_wp2
            refine bodyPost_ret (results_none rfl _ _ _) rfl ?_
            exact ⟨⟨_, rfl⟩, .inl ⟨pre, HA.out.symm, hJs⟩⟩
          · have b2 : decide (63 < (s[k].toNat : Int)) = false := by simp; omega
            have b3 : decide ((s.size : Int) < (k : Int) + 1 + (s[k].toNat : Int)) = true := by simp; omega
            clear c1 hno
            gi_wp2
            refine bodyPost_ret (results_none rfl _ _ _) rfl ?_
            exact ⟨⟨_, rfl⟩, .inl ⟨pre, HA.out.symm, hJs⟩⟩
    · have hnl : labsFrom s k = [] := labsFrom_nil (fun h => hlt (isL_iff.1 h).1)
      have hall : labsFrom s 0 = pre := by rw [HX.out, hnl]; simp
      have HA := Lib.hid hall
      clear hnl hall
      gi_wp2
      go_end0
      exact ⟨⟨_, rfl⟩, .inl ⟨pre, HA.out.symm, hJs⟩⟩

set_option maxHeartbeats 1000000 in
theorem walk_gives (n : Nat) (s : ByteArray) (w : World) :
    CallsIn Fence.wide n Tryz.prog 110 #[.string s] w fun e w' => e = .returned (.func (.func 124) #[] #[.pointer (some ⟨w.heap.size, 0, none⟩)]) ∧ w' = w.alloc (.cells #[.string s] 9) := by
  refine callsIn_of_wp Tryz.func110 rfl trivial ?_ rfl
  simp only [Tryz.ntmps110, List.size_toArray, List.length_cons, List.length_nil, Nat.reduceAdd, Nat.reduceSub, Array.replicate_succ, Array.replicate_zero, List.push_toArray, List.append_toArray, List.nil_append, List.cons_append]
  gi_wp2
  go_ret
  exact ⟨rfl, rfl⟩

theorem keepsAt_t {B : Nat} {X Y Z : World} (h : KeepsAt B X Y) (k : KeepsAt B Y Z) : KeepsAt B X Z := fun v hv => k v (h v hv)
theorem keepsAt_b {B m : Nat} (hB : B < m) (W : World) (l : Nat) (o o' : Obj) (hl : m ≤ l) (_ : W.heap[l]? = some o) (_ : o.isCells = false) (_ : o.isWalk = false) : KeepsAt B W (W.putObj l o') := fun v hv => by
  have : (W.putObj l o').heap[B]? = W.heap[B]? := World.putObj_heap_other (by omega)
  unfold World.cell? at hv ⊢
  simp only [this]
  exact hv

theorem walk_stops (n : Nat) (hn : 1 ≤ n) (Bn : Nat) (s : ByteArray) (hs : s.size ≤ 140737488355328) (w : World) (hBn : Bn < w.heap.size) (hc : w.cell? ⟨Bn, 0, none⟩ = some (.string s)) :
    SeqStopsK Fence.wide n Tryz.prog 124 #[.pointer (some ⟨Bn, 0, none⟩)] (enc s) (KeepsAt Bn) (fun ys => ys = labsFrom s 0) (fun pre => pre <+: labsFrom s 0) (labsFrom s 0).length w := fun l J Jx W hW _ _ hY h0 =>
  walk1_in n hn l Bn s hs J Jx hY W ((hW.cell (p := ⟨Bn, 0, none⟩) hBn).trans hc) h0
end Go.Proofs.YtnakljbginbenaaGreatDoor

/- The contract of name.count: how many labels a string has, if it has the structure of a name. -/
namespace Go.Proofs.YtnakljbginbenaaGreatDoor
open Go.RowKit Go.Shelf
attribute [local go_sem] Oper.semAt_some

theorem keepsAt_heap {B : Nat} {W W' : World} (h : W'.heap[B]? = W.heap[B]?) : KeepsAt B W W' := fun v hv => by
  unfold World.cell? at hv ⊢
  simp only [h]
  exact hv
theorem keepsAt_set {B b : Nat} (hne : B ≠ b) (W : World) (v : Value) : KeepsAt B W (W.setCell ⟨b, 0, none⟩ v) :=
  keepsAt_heap (Below.heap_setCell _ _ _ B (fun e => hne e))
theorem KeepsAt.refl (B : Nat) (W : World) : KeepsAt B W W := fun _ h => h

theorem slice_from (s : ByteArray) (a : Nat) (h : a ≤ s.size) (w : World) :
    (Instr.slice 9 (.string s) (some (.int .i64 (a : Int))) none none).run Tryz.prog w = .ok (.string (s.extract a s.size)) w := by
  have := run_slice_string_l (P := Tryz.prog) (w := w) (t := 9) (s := s) Tryz.underlying9 .i64 (a : Int) (by omega) (by omega)
  simpa using this

set_option maxRecDepth 100000 in
set_option maxHeartbeats 2000000 in
theorem count_any (s : ByteArray) (hs : s.size ≤ 140737488355328) (w : World) :
    Calls Tryz.prog 88 #[.string s] w fun e w' => e = .returned (.tuple #[.int .i64 (cnt s : Nat), .int .i64 (cerr s : Nat)]) ∧ Below w.heap.size w w' := by
  refine (callsIn_wide (n := 3)).1 ?_
  have hll := labsFrom_len s s.size 0 (by omega)
  refine callsIn_of_wp_marks Tryz.func88 rfl trivial ?_ rfl
  simp only [Tryz.ntmps88, List.size_toArray, List.length_cons, List.length_nil, Nat.reduceAdd, Nat.reduceSub, Array.replicate_succ, Array.replicate_zero, List.push_toArray, List.append_toArray, List.nil_append, List.cons_append]
  gi_wp2_with (refine ⟨trivial, ?_⟩; gi_at_call 110; refine (walk_gives 2 s _).mono ?_; rintro e w' ⟨rfl, rfl⟩)
  have bM := Boxed.new w 3 (.int .i64 0)
  have bE := Boxed.new (w.alloc (.cells #[.int .i64 0] 3)) 3 (.int .i64 0)
  rw [World.size_alloc] at bE
  have bN := Boxed.new ((w.alloc (.cells #[.int .i64 0] 3)).alloc (.cells #[.int .i64 0] 3)) 9 (.string s)
  rw [World.size_alloc, World.size_alloc] at bN
  have hB0 : Below w.heap.size w (((w.alloc (.cells #[.int .i64 0] 3)).alloc (.cells #[.int .i64 0] 3)).alloc (.cells #[.string s] 9)) := (((Below.refl _ w).alloc (Nat.le_refl _) _).alloc (by simp) _).alloc (by simp; omega) _
  refine wpIn_rangeFunc_ownF rfl (by omega) (gf := 124) (lb := #[.pointer (some ⟨w.heap.size + 1 + 1, 0, none⟩)]) rfl trivial (enters_of Tryz.func124 (by kernel_rfl) rfl)
    (walk_stops 2 (by omega) (w.heap.size + 1 + 1) s hs _ (by simp) bN.cell) keepsAt_t (keepsAt_b (by simp)) (Below.refl _ _) (fun _ => rfl)
    (fun pre W => (Boxed W w.heap.size 3 (.int .i64 (pre.length : Nat)) ∧ Boxed W (w.heap.size + 1) 3 (.int .i64 (endOf 0 pre : Nat))) ∧ Below w.heap.size w W)
    (fun _ _ _ => False)
    (OwnFrom.and (OwnFrom.and (Own.from (boxed_own _ _ _) _) (Own.from (boxed_own _ _ _) _)) (ownFrom_below (Nat.le_refl _) (by simp; omega)))
    (fun _ _ _ _ _ hs _ _ => hs)
    ⟨⟨(bM.alloc _).alloc _, bE.alloc _⟩, hB0⟩
    (fun x => { tmps := #[.string s, undef, .int .i64 0, .int .i64 0, .pointer (some ⟨w.heap.size, 0, none⟩), .pointer (some ⟨w.heap.size + 1, 0, none⟩), undef, .int .i64 (nxt s x.1 : Nat), .string s, .func (.func 124) #[] #[.pointer (some ⟨w.heap.size + 1 + 1, 0, none⟩)], .string (s.extract (x.1 + 1) (nxt s x.1)), .int .i64 (nxt s x.1 : Nat), undef, undef, undef, undef, undef, undef, undef, undef, undef, undef, undef], defers := [] }) ?assign ?body ?done ?stop
  case assign =>
    intro l x W K hK
    unfold enc
    gi_wp2
    exact hK
  case body =>
    rintro l pre x W ⟨⟨b1, b2⟩, hB⟩ hlt
    have hx := x.lt
    have c1 := b1.cell
    have c2 := b2.cell
    have f1 := b1.frozen
    have f2 := b2.frozen
    gi_wp2
    exact ⟨(KeepsOthers.setCell _ _ _).trans (KeepsOthers.setCell _ _ _), keepsAt_t (keepsAt_set (by omega) _ _) (keepsAt_set (by omega) _ _), ⟨by have := (b1.set (.int .i64 ((pre.length : Int) + 1))).other (B' := w.heap.size + 1) (by omega) (.int .i64 (nxt s x.1 : Nat)); simpa using this, by rw [endOf_snoc]; exact (b2.other (B' := w.heap.size) (by omega) _).set _⟩, (hB.setCell (p := ⟨w.heap.size, 0, none⟩) (by simp) _).setCell (p := ⟨w.heap.size + 1, 0, none⟩) (by simp) _⟩
  case done =>
    rintro D ys W hD rfl ⟨⟨b1, b2⟩, hB⟩ hK
    rw [endOf_labs] at b2
    have c1 := b1.cell
    have c2 := b2.cell
    have hle := endFrom_le s
    have hsl := slice_from s (endFrom s 0) hle W
    cases hz : endZ s with
    | false =>
      obtain ⟨q1, q2⟩ := cnt_form hz
      have hz' : (!(s.extract (endFrom s 0) s.size).toList == [0]) = true := by unfold endZ at hz; simp [hz]
      have Q1 := Lib.hid q1
      have Q2 := Lib.hid q2
      clear hz q1 q2
      gi_wp2
      refine ⟨by simp, .inl ⟨_, _, rfl, run_takeDeferred hK, ?_⟩⟩
      refine ⟨.tuple #[.int .i64 0, .int .i64 2], by simp [results, Tryz.f88, go_sem], by rw [Q1.out, Q2.out]; rfl, hB.trans (belowK_b (w := w) (Nat.le_refl _) W D _ _ (by simp at hD; omega) hK rfl rfl)⟩
    | true =>
      have hz' : (!(s.extract (endFrom s 0) s.size).toList == [0]) = false := by unfold endZ at hz; simp [hz]
      by_cases h255 : s.size ≤ 255
      · obtain ⟨q1, q2⟩ := cnt_yes hz h255
        have Q1 := Lib.hid q1
        have Q2 := Lib.hid q2
        clear hz q1 q2
        gi_wp2
        refine ⟨by simp, .inl ⟨_, _, rfl, run_takeDeferred hK, ?_⟩⟩
        refine ⟨.tuple #[.int .i64 ((labsFrom s 0).length : Nat), .int .i64 0], by simp [results, Tryz.f88, go_sem], by rw [Q1.out, Q2.out]; rfl, hB.trans (belowK_b (w := w) (Nat.le_refl _) W D _ _ (by simp at hD; omega) hK rfl rfl)⟩
      · obtain ⟨q1, q2⟩ := cnt_long hz (by omega)
        have Q1 := Lib.hid q1
        have Q2 := Lib.hid q2
        clear hz q1 q2
        gi_wp2
        refine ⟨by simp, .inl ⟨_, _, rfl, run_takeDeferred hK, ?_⟩⟩
        refine ⟨.tuple #[.int .i64 0, .int .i64 3], by simp [results, Tryz.f88, go_sem], by rw [Q1.out, Q2.out]; rfl, hB.trans (belowK_b (w := w) (Nat.le_refl _) W D _ _ (by simp at hD; omega) hK rfl rfl)⟩
  case stop =>
    rintro D c pre W _ _ h _
    exact h.elim
end Go.Proofs.YtnakljbginbenaaGreatDoor

/- The contract of name.Fold: a string with its uppercase letters as lowercase letters. -/
namespace Go.Proofs.YtnakljbginbenaaGreatDoor
open Go.RowKit
set_option linter.unusedVariables false

def low (c : UInt8) : UInt8 := if 65 ≤ c.toNat ∧ c.toNat ≤ 90 then c + 32 else c
/-- A string with lowercase letters for uppercase ones. -/
def foldB (s : ByteArray) : ByteArray := ⟨(s.data.toList.map low).toArray⟩
theorem foldB_list (s : ByteArray) : (foldB s).data.toList = s.data.toList.map low := by simp [foldB]
theorem foldB_size (s : ByteArray) : (foldB s).size = s.size := by
  show (s.data.toList.map low).toArray.size = s.data.size
  simp

/-- A block's cells hold these bytes, and may be written. -/
def Row (w : World) (g : Nat) (l : List UInt8) : Prop := ∀ j (h : j < l.length), w.cell? ⟨g, j, none⟩ = some (.int .u8 (l[j].toNat : Nat)) ∧ w.frozen? ⟨g, j, none⟩ = false
theorem Row.set {w : World} {g : Nat} {l : List UInt8} (h : Row w g l) (k : Nat) (c : UInt8) (hk : k < l.length) (v : Value) (hv : v = .int .u8 (c.toNat : Nat)) : Row (w.setCell ⟨g, k, none⟩ v) g (l.set k c) := by
  intro j hj
  subst hv
  have hj' : j < l.length := by simpa using hj
  refine ⟨?_, (World.frozen?_setCell _ _ _ _).trans (h j hj').2⟩
  by_cases e : k = j
  · subst e
    rw [World.cell?_setCell_same' _ _ _ (by rw [(h k hk).1]; rfl)]
    simp
  · have hne : (⟨g, k, none⟩ : Addr) ≠ ⟨g, j, none⟩ := by intro e'; apply e; cases e'; rfl
    rw [World.cell?_setCell_other w _ _ _ hne, (h j hj').1, List.getElem_set_ne e]
theorem Row.conv {w : World} {g : Nat} {l : List UInt8} (h : Row w g l) (n cap : Nat) (hn : n = l.length) :
    (convert 88 9 (.slice (some ⟨g, 0, none⟩) n cap)).run Tryz.prog w = .ok (.string ⟨l.toArray⟩) w := by
  subst hn
  refine run_convert_bytes_back (P := Tryz.prog) w 88 9 5 ⟨g, 0, none⟩ cap l Tryz.underlying88 Tryz.underlying5 Tryz.underlying9 (fun j hj => ?_)
  have e : Addr.add ⟨g, 0, none⟩ j = ⟨g, j, none⟩ := by
    unfold Addr.add
    split
    · rename_i h0; simp_all
    · simp
  rw [e]
  exact (h j hj).1
theorem Row.new (w w' : World) (hw : w'.heap.size = w.heap.size) (s : ByteArray) (cap : Nat) :
    Row (w'.alloc (.cells (bytesRow s cap) 5 ((bytesRow s cap).size, (bytesRow s cap).size + 1))) w.heap.size s.data.toList := by
  intro j hj
  rw [← hw, World.cell?_alloc_mark, World.frozen?_alloc_mark]
  have hj' : j < s.data.size := by simpa using hj
  refine ⟨?_, ?_⟩
  · rw [bytesRow_at s cap j hj']; simp
  · have : (bytesRow s cap).size = s.data.size + (cap - s.size) := by simp [bytesRow]
    have h1 : ¬ (bytesRow s cap).size ≤ j := by omega
    simp [h1]

/-- What a string is behind k rounds. -/
def foldTo (l : List UInt8) (k : Nat) : List UInt8 := l.mapIdx fun i c => if i < k then low c else c
theorem foldTo_zero (l : List UInt8) : foldTo l 0 = l := by
  apply List.ext_getElem?
  intro i
  simp [foldTo]
theorem foldTo_all (l : List UInt8) (k : Nat) (h : l.length ≤ k) : foldTo l k = l.map low := by
  apply List.ext_getElem?
  intro i
  by_cases hi : i < l.length
  · simp [foldTo, hi, show i < k by omega]
  · simp [foldTo, hi]
theorem foldTo_len (l : List UInt8) (k : Nat) : (foldTo l k).length = l.length := by simp [foldTo]
theorem foldTo_at (l : List UInt8) (k : Nat) (h : k < l.length) : (foldTo l k)[k]'(by rw [foldTo_len]; exact h) = l[k] := by
  simp [foldTo]
theorem foldTo_set (l : List UInt8) (k : Nat) (h : k < l.length) : (foldTo l k).set k (low l[k]) = foldTo l (k + 1) := by
  apply List.ext_getElem?
  intro i
  rw [List.getElem?_set]
  by_cases e : k = i
  · subst e
    simp [foldTo, h]
  · rw [if_neg e]
    by_cases h1 : i < k
    · simp [foldTo, h1, show i < k + 1 by omega]
    · simp [foldTo, h1, show ¬ i < k + 1 by omega]
theorem foldTo_same (l : List UInt8) (k : Nat) (h : k < l.length) (hl : low l[k] = l[k]) : foldTo l k = foldTo l (k + 1) := by
  rw [← foldTo_set l k h, hl]
  have e := foldTo_at l k h
  apply List.ext_getElem?
  intro i
  rw [List.getElem?_set]
  by_cases e' : k = i
  · subst e'
    rw [if_pos rfl, if_pos (by rw [foldTo_len]; exact h), ← e, List.getElem?_eq_getElem]
  · rw [if_neg e']

set_option maxHeartbeats 400000 in
theorem fold_any (s : ByteArray) (hs : s.size ≤ 140737488355328) (w : World) :
    Calls Tryz.prog 89 #[.string s] w fun e w' => e = .returned (.string (foldB s)) ∧ Below w.heap.size w w' := by
  have hcv := run_bytes_of_string (P := Tryz.prog) w 9 88 5 s Tryz.underlying9 Tryz.underlying88 Tryz.underlying5
  obtain ⟨cap, hcap⟩ : ∃ cap, grownCap w s.size 0 5 = cap := ⟨_, rfl⟩
  rw [hcap] at hcv
  clear hcap
  go_enter Tryz.func89, Tryz.ntmps89
  go_wp2
  go_loopw [10] (fun i wr => ∃ k : Nat, k ≤ s.size ∧ i = .int .i64 k ∧ Row wr w.heap.size (foldTo s.data.toList k) ∧ Below w.heap.size w wr) (fun i _ => s.size - (intOf i).toNat)
  case atStart => exact ⟨0, Nat.zero_le _, rfl, by rw [foldTo_zero]; exact Row.new w _ rfl s _, (Below.refl _ _).drew.alloc (Nat.le_refl _) _⟩
  case round =>
    obtain ⟨k, hk, rfl, hrow, hbel⟩ := hrel
    clear hcv
    have hlen : s.data.toList.length = s.size := by simp
    by_cases hlt : k < s.size
    · have hkl : k < s.data.toList.length := by omega
      have hr := hrow k (by rw [foldTo_len]; omega)
      rw [foldTo_at _ _ hkl] at hr
      have h8 : s.data.toList[k].toNat ≤ 255 := by have := s.data.toList[k].toNat_lt; omega
      obtain ⟨hc, hf⟩ := hr
      have hset := hrow.set k (low s.data.toList[k]) (by rw [foldTo_len]; omega)
      rw [foldTo_set _ _ hkl] at hset
      have hsame := foldTo_same s.data.toList k hkl
      have hlow : low s.data.toList[k] = if 65 ≤ s.data.toList[k].toNat ∧ s.data.toList[k].toNat ≤ 90 then s.data.toList[k] + 32 else s.data.toList[k] := rfl
      generalize s.data.toList[k] = c at *
      have HS := Lib.hid hset
      have HM := Lib.hid hsame
      have HL := Lib.hid hlow
      have HR := Lib.hid hrow
      clear hset hsame hlow hlen hkl hrow
      by_cases hu : 65 ≤ c.toNat ∧ c.toNat ≤ 90
      · obtain ⟨h1, h2⟩ := hu
        have hl : low c = c + 32 := by rw [HL.out, if_pos ⟨h1, h2⟩]
        have hln : ((low c).toNat : Int) = c.toNat + 32 := by rw [hl, UInt8.toNat_add]; simp; omega
        have HN := Lib.hid hln
        clear hl hln
        go_wp2
        go_roundw
        case rel => exact ⟨k + 1, hlt, by go_num, HS.out _ (by rw [HN.out]), hbel.setCell (Nat.le_refl _) _⟩
        case measure => simp [intOf]; omega
      · have hl : low c = c := by rw [HL.out, if_neg hu]
        have hrow' : Row wr w.heap.size (foldTo s.data.toList (k + 1)) := by rw [← HM.out hl]; exact HR.out
        have HR' := Lib.hid hrow'
        clear hrow'
        clear hl
        by_cases h1 : 65 ≤ c.toNat
        · have h2 : ¬ c.toNat ≤ 90 := fun h => hu ⟨h1, h⟩
          go_wp2
          go_roundw
          case rel => exact ⟨k + 1, hlt, by go_num, HR'.out, hbel⟩
          case measure => simp [intOf]; omega
        · go_wp2
          go_roundw
          case rel => exact ⟨k + 1, hlt, by go_num, HR'.out, hbel⟩
          case measure => simp [intOf]; omega
    · obtain rfl : k = s.size := by omega
      rw [foldTo_all _ _ (by omega)] at hrow
      have hcv2 := hrow.conv s.size cap (by simp)
      go_wp2
      go_ret
      exact ⟨rfl, hbel⟩
end Go.Proofs.YtnakljbginbenaaGreatDoor

/- Plain mathematics of names: a string has the structure of a name if it is its labels, each behind its length, and a zero byte. -/
namespace Go.Proofs.YtnakljbginbenaaGreatDoor
open Go

/-- A label with its length ahead of it. -/
def enc1 (l : List UInt8) : List UInt8 := UInt8.ofNat l.length :: l
/-- The bytes of some labels, and a zero byte. -/
def wire (ls : List (List UInt8)) : List UInt8 := ls.flatMap enc1 ++ [0]
def okLb (l : List UInt8) : Prop := 1 ≤ l.length ∧ l.length ≤ 63
/-- A label's bytes. -/
def lab {s : ByteArray} (x : At s) : List UInt8 := (s.extract (x.1 + 1) (nxt s x.1)).data.toList
/-- The labels at the front of a string. -/
def labs (s : ByteArray) : List (List UInt8) := (labsFrom s 0).map lab

theorem extract_list (s : ByteArray) (a b : Nat) : (s.extract a b).data.toList = (s.data.toList.take b).drop a := by
  rw [ByteArray.data_extract, Array.toList_extract]
  simp only [List.extract]
  rw [List.drop_take]
theorem ba_ext {a b : ByteArray} (h : a.data.toList = b.data.toList) : a = b := by
  apply ByteArray.ext
  exact Array.toList_inj.1 h
theorem ba_len (s : ByteArray) : s.data.toList.length = s.size := by simp
theorem lsz_drop {s : ByteArray} {p : Nat} (h : p < s.size) : s.data.toList.drop p = UInt8.ofNat (lsz s p) :: s.data.toList.drop (p + 1) := by
  have hl : p < s.data.toList.length := by rw [ba_len]; exact h
  rw [List.drop_eq_getElem_cons hl, lsz_eq h]
  congr 1
  have : s[p] = s.data.toList[p] := by rfl
  rw [this]
  simp

theorem lab_len {s : ByteArray} (x : At s) : (lab x).length = lsz s x.1 := by
  have h := isL_iff.1 x.2
  unfold lab
  rw [extract_list, List.length_drop, List.length_take, ba_len]
  unfold nxt at *
  omega
theorem lab_ok {s : ByteArray} (x : At s) : okLb (lab x) := by
  have h := isL_iff.1 x.2
  unfold okLb
  rw [lab_len]
  omega
theorem lab_enc {s : ByteArray} (x : At s) : s.data.toList.drop x.1 = enc1 (lab x) ++ s.data.toList.drop (nxt s x.1) := by
  have h := isL_iff.1 x.2
  rw [lsz_drop h.1]
  unfold enc1
  rw [lab_len]
  unfold lab
  rw [extract_list]
  simp only [List.cons_append, List.cons.injEq, true_and]
  rw [List.drop_take]
  have e : s.data.toList.drop (nxt s x.1) = (s.data.toList.drop (x.1 + 1)).drop (nxt s x.1 - (x.1 + 1)) := by
    rw [List.drop_drop]
    congr 1
    unfold nxt
    omega
  rw [e, List.take_append_drop]

theorem split_from (s : ByteArray) : ∀ (m p : Nat), s.size - p ≤ m → s.data.toList.drop p = ((labsFrom s p).map lab).flatMap enc1 ++ s.data.toList.drop (endFrom s p) := by
  intro m
  induction m with
  | zero =>
    intro p h
    have hn : ¬ isL s p = true := fun h' => by have := isL_iff.1 h'; omega
    rw [labsFrom_nil hn, endFrom_nil hn]; rfl
  | succ m ih =>
    intro p h
    by_cases hl : isL s p = true
    · have h' := isL_iff.1 hl
      rw [labsFrom_cons hl, endFrom_cons hl, lab_enc ⟨p, hl⟩, List.map_cons, List.flatMap_cons, List.append_assoc, ← ih (nxt s p) (by unfold nxt at *; omega)]
    · rw [labsFrom_nil hl, endFrom_nil hl]; rfl

theorem endZ_iff (s : ByteArray) : endZ s = true ↔ s.data.toList.drop (endFrom s 0) = [0] := by
  unfold endZ
  rw [ByteArray.toList_eq, extract_list, ← ba_len, List.take_length]
  simp
theorem endZ_wire {s : ByteArray} (h : endZ s = true) : s.data.toList = wire (labs s) ∧ ∀ l ∈ labs s, okLb l := by
  have h1 := split_from s s.size 0 (by omega)
  rw [(endZ_iff s).1 h] at h1
  refine ⟨by simpa [wire, labs] using h1, ?_⟩
  intro l hl
  obtain ⟨x, _, rfl⟩ := List.mem_map.1 hl
  exact lab_ok x

theorem wire_from (s : ByteArray) : ∀ (ls : List (List UInt8)) (p : Nat), (∀ l ∈ ls, okLb l) → s.data.toList.drop p = ls.flatMap enc1 ++ [0] → (labsFrom s p).map lab = ls ∧ s.data.toList.drop (endFrom s p) = [0] := by
  intro ls
  induction ls with
  | nil =>
    intro p _ h
    simp at h
    have hlt : p < s.size := by
      rcases Nat.lt_or_ge p s.size with h1 | h1
      · exact h1
      · rw [List.drop_of_length_le (by rw [ba_len]; exact h1)] at h; cases h
    have h2 := lsz_drop hlt
    rw [h] at h2
    have h3 : UInt8.ofNat (lsz s p) = 0 := (List.cons.inj h2).1.symm
    have h4 : lsz s p = 0 := by
      rw [lsz_eq hlt] at h3 ⊢
      rw [UInt8.ofNat_toNat] at h3
      rw [h3]; rfl
    have hn : ¬ isL s p = true := fun h' => (isL_iff.1 h').2.1 h4
    rw [labsFrom_nil hn, endFrom_nil hn]
    exact ⟨rfl, h⟩
  | cons l ls ih =>
    intro p hok h
    have hl := hok l (by simp)
    unfold okLb at hl
    rw [List.flatMap_cons] at h
    have hlen := congrArg List.length h
    rw [List.length_drop, ba_len] at hlen
    simp [enc1] at hlen
    have hlt : p < s.size := by omega
    have h2 := lsz_drop hlt
    rw [h] at h2
    unfold enc1 at h2
    simp only [List.cons_append] at h2
    obtain ⟨h3, h5⟩ := List.cons.inj h2
    have h4 : lsz s p = l.length := by
      have h6 := congrArg UInt8.toNat h3
      have h7 : lsz s p ≤ 255 := by rw [lsz_eq hlt]; have := s[p].toNat_lt; omega
      rw [UInt8.toNat_ofNat', UInt8.toNat_ofNat'] at h6
      omega
    have hn : nxt s p = p + 1 + l.length := by unfold nxt; rw [h4]
    have hL : isL s p = true := by
      rw [isL_iff, hn, h4]
      omega
    have hlab : lab ⟨p, hL⟩ = l := by
      unfold lab
      rw [extract_list]
      simp only [hn]
      rw [List.drop_take, ← h5]
      rw [show p + 1 + l.length - (p + 1) = l.length by omega, List.append_assoc, List.take_left']
      rfl
    have hrest : s.data.toList.drop (nxt s p) = ls.flatMap enc1 ++ [0] := by
      rw [hn, ← List.drop_drop, ← h5, List.append_assoc, List.drop_left']
      all_goals rfl
    have := ih (nxt s p) (fun l' hl' => hok l' (List.mem_cons_of_mem _ hl')) hrest
    rw [labsFrom_cons hL, endFrom_cons hL, List.map_cons, hlab, this.1]
    exact ⟨rfl, this.2⟩
theorem wire_endZ {s : ByteArray} {ls : List (List UInt8)} (hok : ∀ l ∈ ls, okLb l) (h : s.data.toList = wire ls) : endZ s = true ∧ labs s = ls := by
  have := wire_from s ls 0 hok (by simpa [wire] using h)
  exact ⟨(endZ_iff s).2 this.2, this.1⟩
theorem wire_inj {a b : List (List UInt8)} (ha : ∀ l ∈ a, okLb l) (hb : ∀ l ∈ b, okLb l) (h : wire a = wire b) : a = b := by
  have h1 : (ByteArray.mk (wire a).toArray).data.toList = wire a := by simp
  rw [← (wire_endZ ha h1).2]
  exact (wire_endZ hb (h1.trans h)).2
end Go.Proofs.YtnakljbginbenaaGreatDoor

/- The contracts of name.May, Depth and Parent. -/
namespace Go.Proofs.YtnakljbginbenaaGreatDoor
open Go.RowKit
set_option linter.unusedVariables false

/-- Is a string a name? -/
def mayB (s : ByteArray) : Bool := cerr s == 0 && (foldB s).toList == s.toList
theorem bthen {a b c : World} (h : Below a.heap.size a b) (k : Below b.heap.size b c) : Below a.heap.size a c := h.trans (k.mono h.size)
theorem balloc {a b : World} (h : Below a.heap.size a b) (o : Obj) : Below a.heap.size a (b.alloc o) := h.alloc h.size o
theorem ret_bool {a b : Bool} (h : a = b) : Ending.returned (.bool a) = .returned (.bool b) := by rw [h]

set_option maxHeartbeats 400000 in
theorem may_any (s : ByteArray) (hs : s.size ≤ 140737488355328) (w : World) :
    Calls Tryz.prog 57 #[.string s] w fun e w' => e = .returned (.bool (mayB s)) ∧ Below w.heap.size w w' := by
  go_enter Tryz.func57, Tryz.ntmps57
  go_wp2_with fail
  refine (count_any s hs _).mono ?_; rintro e w1 ⟨rfl, hb1⟩
  by_cases hz : cerr s = 0
  · have hm : mayB s = ((foldB s).toList == s.toList) := by simp [mayB, hz]
    have HM := Lib.hid hm
    have hz1 : ((cerr s : Nat) : Int) = 0 := by omega
    clear hm hz
    rw [hz1]
    clear hz1
    go_wp2_with fail
    refine (fold_any s hs _).mono ?_; rintro e w2 ⟨rfl, hb2⟩
    go_wp2_with fail
    go_ret
    exact ⟨ret_bool HM.out.symm, bthen hb1 hb2⟩
  · have hm : mayB s = false := by simp [mayB, hz]
    have HM := Lib.hid hm
    have hz1 : (((cerr s : Nat) : Int) == 0) = false := by simpa using hz
    clear hm hz
    go_wp2_with fail
    go_ret
    exact ⟨ret_bool HM.out.symm, hb1⟩

/-- How many labels a name has; else -1. -/
def depthB (s : ByteArray) : Int := if mayB s = true then (cnt s : Nat) else -1
/-- A name without its first label. -/
def parB (s : ByteArray) : Bool := mayB s && !(s.toList == [0])
def parS (s : ByteArray) : ByteArray := if parB s = true then s.extract (nxt s 0) s.size else ⟨#[]⟩
theorem may_first {s : ByteArray} (h : parB s = true) : 0 < s.size ∧ nxt s 0 ≤ s.size := by
  unfold parB mayB at h
  simp only [Bool.and_eq_true, beq_iff_eq, Bool.not_eq_true', beq_eq_false_iff_ne] at h
  obtain ⟨⟨h1, _⟩, h2⟩ := h
  have hz : endZ s = true := by
    cases hz : endZ s with
    | true => rfl
    | false => rw [(cnt_form hz).2] at h1; omega
  have hw := endZ_wire hz
  by_cases hl : isL s 0 = true
  · have := isL_iff.1 hl; omega
  · have e := (endZ_iff s).1 hz
    rw [endFrom_nil hl, List.drop_zero, ← ByteArray.toList_eq] at e
    exact (h2 e).elim
set_option maxHeartbeats 400000 in
theorem parent_any (s : ByteArray) (hs : s.size ≤ 140737488355328) (w : World) :
    Calls Tryz.prog 105 #[.string s] w fun e w' => e = .returned (.tuple #[.string (parS s), .bool (parB s)]) ∧ Below w.heap.size w w' := by
  cases h0 : (s.toList == [0]) with
  | true =>
    have hp : parB s = false := by simp [parB, h0]
    have hS : parS s = ⟨#[]⟩ := by simp [parS, hp]
    have HP := Lib.hid hp
    have HS := Lib.hid hS
    clear hp hS
    go_enter Tryz.func105, Tryz.ntmps105
    go_wp2_with fail
    go_ret2
    exact ⟨by rw [HP.out, HS.out]; rfl, Below.refl _ _⟩
  | false =>
    go_enter Tryz.func105, Tryz.ntmps105
    go_wp2_with fail
    refine (may_any s hs _).mono ?_; rintro e w1 ⟨rfl, hb1⟩
    cases hm : mayB s with
    | false =>
      have hp : parB s = false := by simp [parB, hm]
      have hS : parS s = ⟨#[]⟩ := by simp [parS, hp]
      have HP := Lib.hid hp
      have HS := Lib.hid hS
      clear hp hS hm
      go_wp2_with fail
      go_ret2
      exact ⟨by rw [HP.out, HS.out]; rfl, hb1⟩
    | true =>
      have hp : parB s = true := by simp [parB, hm, h0]
      have hS : parS s = s.extract (nxt s 0) s.size := by simp [parS, hp]
      obtain ⟨hz, hn⟩ := may_first hp
      have h8 : s[0].toNat ≤ 255 := by have := s[0].toNat_lt; omega
      have e1 : nxt s 0 = 1 + s[0].toNat := by unfold nxt; rw [lsz_eq hz]
      rw [e1] at hS hn
      have hsl := slice_from s (1 + s[0].toNat) hn w1
      rw [show ((1 + s[0].toNat : Nat) : Int) = 1 + (s[0].toNat : Int) by omega] at hsl
      have HP := Lib.hid hp
      have HS := Lib.hid hS
      clear hp hS hm e1
      go_wp2_with fail
      go_ret2
      exact ⟨by rw [HP.out, HS.out]; rfl, hb1⟩
end Go.Proofs.YtnakljbginbenaaGreatDoor

/- Plain mathematics: what is a name, by its labels. -/
namespace Go.Proofs.YtnakljbginbenaaGreatDoor
open Go

theorem low_len {n : Nat} (h : n ≤ 63) : low (UInt8.ofNat n) = UInt8.ofNat n := by
  unfold low
  rw [UInt8.toNat_ofNat', if_neg (by omega)]
theorem map_low_enc1 (l : List UInt8) (h : l.length ≤ 63) : (enc1 l).map low = enc1 (l.map low) := by
  simp only [enc1, List.map_cons, low_len h, List.length_map]
theorem map_low_wire (ls : List (List UInt8)) (h : ∀ l ∈ ls, okLb l) : (wire ls).map low = wire (ls.map (·.map low)) := by
  unfold wire
  rw [List.map_append]
  congr 1
  induction ls with
  | nil => rfl
  | cons l ls ih =>
    rw [List.flatMap_cons, List.map_append, List.map_cons, List.flatMap_cons, ih (fun l' hl' => h l' (List.mem_cons_of_mem _ hl')), map_low_enc1 l (h l (by simp)).2]
theorem low_low (c : UInt8) : low (low c) = low c := by
  unfold low
  by_cases h : 65 ≤ c.toNat ∧ c.toNat ≤ 90
  · rw [if_pos h]
    have : (c + 32).toNat = c.toNat + 32 := by rw [UInt8.toNat_add]; simp; omega
    rw [if_neg (by omega)]
  · rw [if_neg h, if_neg h]
theorem okLb_low {l : List UInt8} (h : okLb l) : okLb (l.map low) := by unfold okLb at *; simpa using h

/-- A string is the name with these labels. -/
structure NameIs (s : ByteArray) (ls : List (List UInt8)) : Prop where
  ok : ∀ l ∈ ls, okLb l
  low : ∀ l ∈ ls, l.map low = l
  eq : s.data.toList = wire ls
  size : s.size ≤ 255

theorem foldB_eq_iff (s : ByteArray) : ((foldB s).toList == s.toList) = true ↔ s.data.toList.map low = s.data.toList := by
  rw [ByteArray.toList_eq, ByteArray.toList_eq, foldB_list]
  simp
theorem map_map_low {ls : List (List UInt8)} (h : ∀ l ∈ ls, l.map low = l) : ls.map (·.map low) = ls := by
  induction ls with
  | nil => rfl
  | cons l ls ih => rw [List.map_cons, h l (by simp), ih (fun l' hl' => h l' (List.mem_cons_of_mem _ hl'))]
theorem NameIs.may {s : ByteArray} {ls : List (List UInt8)} (h : NameIs s ls) : mayB s = true ∧ labs s = ls := by
  obtain ⟨hz, hl⟩ := wire_endZ h.ok h.eq
  refine ⟨?_, hl⟩
  unfold mayB
  rw [(cnt_yes hz h.size).2, Bool.and_eq_true]
  refine ⟨rfl, (foldB_eq_iff s).2 ?_⟩
  rw [h.eq, map_low_wire ls h.ok, map_map_low h.low]
theorem may_name {s : ByteArray} (h : mayB s = true) : NameIs s (labs s) := by
  unfold mayB at h
  simp only [Bool.and_eq_true, beq_iff_eq] at h
  obtain ⟨h1, h2⟩ := h
  have hz : endZ s = true := by
    cases hz : endZ s with
    | false => rw [(cnt_form hz).2] at h1; omega
    | true => rfl
  have hs : s.size ≤ 255 := by
    rcases Nat.lt_or_ge 255 s.size with h3 | h3
    · rw [(cnt_long hz h3).2] at h1; omega
    · exact h3
  obtain ⟨he, hok⟩ := endZ_wire hz
  refine ⟨hok, ?_, he, hs⟩
  have h3 := (foldB_eq_iff s).1 (by simpa using h2)
  rw [he, map_low_wire _ hok] at h3
  have h4 : (labs s).map (·.map low) = labs s := wire_inj (fun l hl => by
    obtain ⟨l', hl', rfl⟩ := List.mem_map.1 hl
    exact okLb_low (hok l' hl')) hok h3
  intro l hl
  obtain ⟨i, hi, rfl⟩ := List.getElem_of_mem hl
  have := congrArg (fun L => L[i]?) h4
  simp [hi] at this
  exact this
theorem cnt_name {s : ByteArray} (h : mayB s = true) : cnt s = (labs s).length := by
  have hn := may_name h
  rw [(cnt_yes (wire_endZ hn.ok hn.eq).1 hn.size).1]
  simp [labs]
theorem depth_name {s : ByteArray} (h : mayB s = true) : depthB s = (labs s).length := by
  unfold depthB
  rw [if_pos h, cnt_name h]
theorem may_labs_nil {s : ByteArray} (h : mayB s = true) : (s.toList == [0]) = true ↔ labs s = [] := by
  have hn := may_name h
  rw [ByteArray.toList_eq, hn.eq]
  constructor
  · intro he
    have : wire (labs s) = wire [] := by rw [eq_of_beq he]; rfl
    exact wire_inj hn.ok (by simp) this
  · intro he; rw [he]; rfl

theorem tails_aux (s : ByteArray) : ∀ (m p : Nat), s.size - p ≤ m → s.data.toList.drop (endFrom s p) = [0] → ∀ t : List UInt8, ((∃ x ∈ labsFrom s p, s.data.toList.drop (nxt s x.1) = t) ↔ ∃ k, 1 ≤ k ∧ k ≤ ((labsFrom s p).map lab).length ∧ wire (((labsFrom s p).map lab).drop k) = t) := by
  intro m
  induction m with
  | zero =>
    intro p h hz t
    have hn : ¬ isL s p = true := fun h' => by have := isL_iff.1 h'; omega
    rw [labsFrom_nil hn]
    simp
    omega
  | succ m ih =>
    intro p h hz t
    by_cases hl : isL s p = true
    · have h' := isL_iff.1 hl
      have hm : s.size - nxt s p ≤ m := by unfold nxt at *; omega
      rw [endFrom_cons hl] at hz
      have hsp := split_from s m (nxt s p) hm
      rw [hz] at hsp
      have hih := ih (nxt s p) hm hz t
      rw [labsFrom_cons hl]
      constructor
      · rintro ⟨x, hx, e⟩
        rcases List.mem_cons.1 hx with rfl | hx
        · exact ⟨1, by omega, by simp, by rw [← e, hsp]; rfl⟩
        · obtain ⟨k, h1, h2, h3⟩ := hih.1 ⟨x, hx, e⟩
          exact ⟨k + 1, by omega, by simpa using h2, by simpa using h3⟩
      · rintro ⟨k, h1, h2, e⟩
        by_cases hk : k = 1
        · subst hk
          exact ⟨⟨p, hl⟩, by simp, by rw [hsp, ← e]; rfl⟩
        · obtain ⟨x, hx, e'⟩ := hih.2 ⟨k - 1, by omega, by simp at h2 ⊢; omega, by
            rw [← e]
            obtain ⟨j, rfl⟩ : ∃ j, k = j + 1 := ⟨k - 1, by omega⟩
            simp⟩
          exact ⟨x, List.mem_cons_of_mem _ hx, e'⟩
    · rw [labsFrom_nil hl]
      simp
      omega
end Go.Proofs.YtnakljbginbenaaGreatDoor

/- Contracts of Go's library at this program (proved once in the kit's library), in plain words. -/
namespace Go.Proofs
open Go.Shelf
def Tryz.lays170_ren : Go.Shelf.Ren := ⟨fun | 170 => 117 | n => n, fun | 70 => 166 | 3 => 3 | 0 => 0 | 72 => 168 | 37 => 88 | 5 => 5 | n => n, fun | n => n⟩
theorem Tryz.lays170 : Go.Proofs.Lays.n170 Tryz.prog Tryz.lays170_ren := {
  mixed := by kernel_rfl
  f170 := Tryz.func117.trans (congrArg some (by kernel_rfl))
  t0 := Tryz.underlying0
  a0 := Tryz.isAgg0
  z0 := Tryz.sizeOf0
  v0 := Tryz.zeroValue0
  t3 := Tryz.underlying3
  a3 := Tryz.isAgg3
  z3 := Tryz.sizeOf3
  v3 := Tryz.zeroValue3
  t37 := Tryz.underlying88
  a37 := Tryz.isAgg88
  z37 := Tryz.sizeOf88
  v37 := Tryz.zeroValue88
  t70 := Tryz.underlying166
  a70 := Tryz.isAgg166
  z70 := Tryz.sizeOf166
  v70 := Tryz.zeroValue166
  t72 := Tryz.underlying168
  a72 := Tryz.isAgg168
  z72 := Tryz.sizeOf168
  v72 := Tryz.zeroValue168 }
def Tryz.lays169_ren : Go.Shelf.Ren := ⟨fun | 169 => 120 | n => n, fun | 70 => 166 | 9 => 9 | 0 => 0 | 72 => 168 | 37 => 88 | 127 => 186 | 3 => 3 | 5 => 5 | n => n, fun | n => n⟩
theorem Tryz.lays169 : Go.Proofs.Lays.n169 Tryz.prog Tryz.lays169_ren := {
  mixed := by kernel_rfl
  f169 := Tryz.func120.trans (congrArg some (by kernel_rfl))
  t0 := Tryz.underlying0
  a0 := Tryz.isAgg0
  z0 := Tryz.sizeOf0
  v0 := Tryz.zeroValue0
  t3 := Tryz.underlying3
  a3 := Tryz.isAgg3
  z3 := Tryz.sizeOf3
  v3 := Tryz.zeroValue3
  t9 := Tryz.underlying9
  a9 := Tryz.isAgg9
  z9 := Tryz.sizeOf9
  v9 := Tryz.zeroValue9
  t37 := Tryz.underlying88
  a37 := Tryz.isAgg88
  z37 := Tryz.sizeOf88
  v37 := Tryz.zeroValue88
  t70 := Tryz.underlying166
  a70 := Tryz.isAgg166
  z70 := Tryz.sizeOf166
  v70 := Tryz.zeroValue166
  t72 := Tryz.underlying168
  a72 := Tryz.isAgg168
  z72 := Tryz.sizeOf168
  v72 := Tryz.zeroValue168
  t127 := Tryz.underlying186
  a127 := Tryz.isAgg186
  z127 := Tryz.sizeOf186
  v127 := Tryz.zeroValue186 }
theorem Tryz.Builder_Extra_169 : Builder.Extra Tryz.prog Tryz.lays169_ren := {
  sizeBuilder := by kernel_rfl
  liesBuilder := by kernel_rfl
  t5 := Tryz.underlying5
  a5 := Tryz.isAgg5
  z5 := Tryz.sizeOf5
  v5 := Tryz.zeroValue5
  infoByte := by kernel_rfl
  cellsByte := by kernel_rfl
  sizeByte := by kernel_rfl
  neB5 := by decide }
open Go.RowKit in
theorem Tryz.Builder_Len_f (B b : Nat) (bs : List Value) (w : World) (h : Lib.IsBuilderF 168 5 B b bs w) :
    Calls Tryz.prog 117 #[.pointer (some ⟨b, 0, none⟩)] w fun e w' => e = .returned (.int .i64 bs.length) ∧ w' = w := Any.Builder_Len_f Tryz.lays170 B b bs w h
open Go.RowKit in
theorem Tryz.Builder_String_any_k (B b : Nat) (l : List UInt8) (w : World) (h : Lib.IsBuilderF 168 5 B b (Lib.byteCells l) w) (hBw : B ≤ w.heap.size) :
    Calls Tryz.prog 120 #[.pointer (some ⟨b, 0, none⟩)] w fun e w' => e = .returned (.string ⟨l.toArray⟩) ∧ (Lib.IsBuilderF 168 5 B b (Lib.byteCells l) w' ∧ Below B w w' ∧ Lib.OthersKept 5 (some b) w w') := Any.Builder_String_any_k Tryz.lays169 Tryz.Builder_Extra_169 B b l w h hBw
def Tryz.lays166_ren : Go.Shelf.Ren := ⟨fun | 166 => 118 | 240 => 128 | 276 => 132 | n => n, fun | 0 => 0 | 3 => 3 | 4 => 4 | 5 => 5 | 9 => 9 | 20 => 20 | 37 => 88 | 70 => 166 | 72 => 168 | 75 => 170 | 80 => 54 | 127 => 186 | 164 => 192 | n => n, fun | n => n⟩
theorem Tryz.lays166 : Go.Proofs.Lays.n166 Tryz.prog Tryz.lays166_ren := {
  mixed := by kernel_rfl
  f166 := Tryz.func118.trans (congrArg some (by kernel_rfl))
  f240 := Tryz.func128.trans (congrArg some (by kernel_rfl))
  f276 := Tryz.func132.trans (congrArg some (by kernel_rfl))
  t0 := Tryz.underlying0
  a0 := Tryz.isAgg0
  z0 := Tryz.sizeOf0
  v0 := Tryz.zeroValue0
  t3 := Tryz.underlying3
  a3 := Tryz.isAgg3
  z3 := Tryz.sizeOf3
  v3 := Tryz.zeroValue3
  t4 := Tryz.underlying4
  a4 := Tryz.isAgg4
  z4 := Tryz.sizeOf4
  v4 := Tryz.zeroValue4
  t9 := Tryz.underlying9
  a9 := Tryz.isAgg9
  z9 := Tryz.sizeOf9
  v9 := Tryz.zeroValue9
  t20 := Tryz.underlying20
  a20 := Tryz.isAgg20
  z20 := Tryz.sizeOf20
  v20 := Tryz.zeroValue20
  t37 := Tryz.underlying88
  a37 := Tryz.isAgg88
  z37 := Tryz.sizeOf88
  v37 := Tryz.zeroValue88
  t70 := Tryz.underlying166
  a70 := Tryz.isAgg166
  z70 := Tryz.sizeOf166
  v70 := Tryz.zeroValue166
  t72 := Tryz.underlying168
  a72 := Tryz.isAgg168
  z72 := Tryz.sizeOf168
  v72 := Tryz.zeroValue168
  t75 := Tryz.underlying170
  a75 := Tryz.isAgg170
  z75 := Tryz.sizeOf170
  v75 := Tryz.zeroValue170
  t164 := Tryz.underlying192
  a164 := Tryz.isAgg192
  z164 := Tryz.sizeOf192
  v164 := Tryz.zeroValue192 }
theorem Tryz.Builder_Extra_166 : Builder.Extra Tryz.prog Tryz.lays166_ren := {
  sizeBuilder := by kernel_rfl
  liesBuilder := by kernel_rfl
  t5 := Tryz.underlying5
  a5 := Tryz.isAgg5
  z5 := Tryz.sizeOf5
  v5 := Tryz.zeroValue5
  infoByte := by kernel_rfl
  cellsByte := by kernel_rfl
  sizeByte := by kernel_rfl
  neB5 := by decide }
open Go.RowKit in
theorem Tryz.Builder_WriteString_k (B b : Nat) (bs : List Value) (s : ByteArray) (w : World) (h : Lib.IsBuilderF 168 5 B b bs w) (hlen : bs.length + s.size ≤ 140737488355328) (hBw : B ≤ w.heap.size) :
    Calls Tryz.prog 118 #[.pointer (some ⟨b, 0, none⟩), .string s] w fun e w' => e = .returned (.tuple #[.int .i64 s.size, .nilIface]) ∧ (Lib.BuilderAtF 168 5 B b (.pointer (some ⟨b, 0, none⟩)) (bs ++ Lib.strCells s) w' ∧ Below B w w' ∧ Lib.OthersKept 5 (some b) w w') := Any.Builder_WriteString_k Tryz.lays166 Tryz.Builder_Extra_166 B b bs s w h hlen hBw
end Go.Proofs

/- The contract of name.Join: the name that consists of labels, folded. -/
namespace Go.Proofs.YtnakljbginbenaaGreatDoor
open Go.RowKit
set_option linter.unusedVariables false

/-- A slice's strings. -/
def Strs (w : World) (A : Option Addr) (ls : List ByteArray) : Prop := ∀ j (h : j < ls.length), ∃ ad : Addr, A = some ad ∧ ad.block < w.heap.size ∧ w.cell? (ad.add j) = some (.string ls[j])
theorem add_block (a : Addr) (n : Nat) : (a.add n).block = a.block := by unfold Addr.add; split <;> rfl
theorem Strs.below {w w' : World} {A : Option Addr} {ls : List ByteArray} (h : Strs w A ls) (hb : Below w.heap.size w w') : Strs w' A ls := fun j hj => by
  obtain ⟨ad, h1, h2, h3⟩ := h j hj
  exact ⟨ad, h1, Nat.lt_of_lt_of_le h2 hb.size, (hb.cell (by rw [add_block]; exact h2)).trans h3⟩

/-- A builder in a block holds these bytes. -/
def IsB (B b : Nat) (l : List UInt8) (w : World) : Prop := Lib.IsBuilderF 168 5 B b (Lib.byteCells l) w
theorem atF_below {B b : Nat} {p : Value} {bs : List Value} {W W' : World} (h : Lib.BuilderAtF 168 5 B b p bs W) (hb : Below W.heap.size W W') : Lib.BuilderAtF 168 5 B b p bs W' := by
  have hlt := h.lt
  obtain ⟨hB, v, hbk, hown, hne⟩ := h
  refine ⟨hB, v, (hb.block b hlt).trans hbk, ⟨hown.1, ?_⟩, hne⟩
  rcases hown.2 with hn | ⟨g, cap, cur, fz, rfl, hgb, hgg, rest⟩
  · exact .inl hn
  · exact .inr ⟨g, cap, cur, fz, rfl, hgb, (hb.block g (Array.getElem?_eq_some_iff.1 hgg).1).trans hgg, rest⟩
theorem IsB.below {B b : Nat} {l : List UInt8} {W W' : World} (h : IsB B b l W) (hb : Below W.heap.size W W') : IsB B b l W' :=
  h.elim (fun x => .inl (atF_below x hb)) (fun x => .inr (atF_below x hb))
theorem IsB.lt {B b : Nat} {l : List UInt8} {W : World} (h : IsB B b l W) : b < W.heap.size := h.elim (fun x => x.lt) (fun x => x.lt)
theorem IsB.new (w : World) : IsB w.heap.size w.heap.size [] (w.alloc (.cells #[.pointer none, .slice none 0 0] 168)) :=
  .inl ⟨Nat.le_refl _, .slice none 0 0, World.alloc_heap_new w _, World.ownsRowF_nil _ _ _ _, by simp [Value.ownBlock]⟩
theorem wstr (B b : Nat) (l : List UInt8) (s : ByteArray) (w : World) (h : IsB B b l w) (hl : l.length + s.size ≤ 140737488355328) (hB : B ≤ w.heap.size) :
    Calls Tryz.prog 118 #[.pointer (some ⟨b, 0, none⟩), .string s] w fun e w' => e = .returned (.tuple #[.int .i64 s.size, .nilIface]) ∧ IsB B b (l ++ s.data.toList) w' ∧ Below B w w' ∧ Lib.OthersKept 5 (some b) w w' := by
  refine (Tryz.Builder_WriteString_k B b (Lib.byteCells l) s w h (by rw [Lib.byteCells_length]; exact hl) hB).mono ?_
  rintro e w' ⟨he, h1', h2, h3⟩
  refine ⟨he, .inr ?_, h2, h3⟩
  rw [Lib.byteCells_append, ← Lib.strCells_eq]
  exact h1'
theorem blen (B b : Nat) (l : List UInt8) (w : World) (h : IsB B b l w) :
    Calls Tryz.prog 117 #[.pointer (some ⟨b, 0, none⟩)] w fun e w' => e = .returned (.int .i64 (l.length : Nat)) ∧ w = w' := by
  refine (Tryz.Builder_Len_f B b (Lib.byteCells l) w h).mono ?_
  rintro e w' ⟨he, hw⟩
  rw [Lib.byteCells_length] at he
  exact ⟨he, hw.symm⟩
theorem bstr (B b : Nat) (l : List UInt8) (w : World) (h : IsB B b l w) (hB : B ≤ w.heap.size) :
    Calls Tryz.prog 120 #[.pointer (some ⟨b, 0, none⟩)] w fun e w' => e = .returned (.string ⟨l.toArray⟩) ∧ Below B w w' :=
  (Tryz.Builder_String_any_k B b l w h hB).mono fun _ _ ⟨he, _, h2, _⟩ => ⟨he, h2⟩

/-- May each string be a label? -/
def lbsOk (ls : List ByteArray) : Bool := ls.all fun l => decide (1 ≤ l.size ∧ l.size ≤ 63)
def joinL (ls : List ByteArray) : List UInt8 := ls.flatMap fun l => UInt8.ofNat l.size :: l.data.toList.map low
def joinE (ls : List ByteArray) : Int := if lbsOk ls = true then (if (joinL ls).length + 1 ≤ 255 then 0 else 3) else 2
def joinS (ls : List ByteArray) : ByteArray := if lbsOk ls = true ∧ (joinL ls).length + 1 ≤ 255 then ⟨(joinL ls ++ [0]).toArray⟩ else ⟨#[]⟩
theorem lbsOk_at {ls : List ByteArray} (h : lbsOk ls = true) (k : Nat) (hk : k < ls.length) : 1 ≤ ls[k].size ∧ ls[k].size ≤ 63 := by
  unfold lbsOk at h
  rw [List.all_eq_true] at h
  simpa using h ls[k] (List.getElem_mem hk)
theorem joinL_take (ls : List ByteArray) (k : Nat) (hk : k < ls.length) : joinL (ls.take (k + 1)) = joinL (ls.take k) ++ [UInt8.ofNat ls[k].size] ++ (foldB ls[k]).data.toList := by
  unfold joinL
  rw [List.take_succ_eq_append_getElem hk, List.flatMap_append, List.flatMap_cons, List.flatMap_nil, foldB_list, List.append_nil, List.append_assoc]
  rfl
theorem joinL_len (ls : List ByteArray) (h : lbsOk ls = true) (k : Nat) (hk : k ≤ ls.length) : (joinL (ls.take k)).length ≤ 64 * k := by
  induction k with
  | zero => simp [joinL]
  | succ k ih =>
    have h1 := lbsOk_at h k (by omega)
    have h2 := ih (by omega)
    rw [joinL_take ls k (by omega)]
    simp only [List.length_append, List.length_cons, List.length_nil, ba_len, foldB_size]
    omega

theorem joinL_full (ls : List ByteArray) (k : Nat) (h : ls.length ≤ k) : joinL (ls.take k) = joinL ls := by rw [List.take_of_length_le h]

end Go.Proofs.YtnakljbginbenaaGreatDoor

/- The contracts of derrickref02.low, Fold, Labels and May: as the program has them. -/
namespace Go.Proofs.YtnakljbginbenaaGreatDoor
open Go.RowKit
set_option linter.unusedVariables false
open Go.RowKit Go.Shelf
theorem info9 : (Tryz.prog.info? 9).map (fun i => (i.zero, i.size, i.bytes)) = some (some (.string ⟨#[]⟩), 1, 16) := by kernel_rfl

/-- A label, as a string. -/
def labS {s : ByteArray} (x : At s) : ByteArray := s.extract (x.1 + 1) (nxt s x.1)
def labsB (s : ByteArray) : List ByteArray := if cerr s = 0 then (labsFrom s 0).map labS else []
/-- What name.Labels returns. -/
def LabsPost (s : ByteArray) (k : IntKind) (w : World) (e : Ending) (w' : World) : Prop :=
  ∃ A cap, e = .returned (.tuple #[.slice A (labsB s).length cap, .int k (cerr s : Nat)]) ∧ Strs w' A (labsB s) ∧ Below w.heap.size w w'

theorem strs_of_own {w : World} {n₀ : Nat} {v : Value} {ls : List ByteArray} (h : w.ownsRow n₀ 9 1 v ls.length (ls.map Value.string)) : ∃ A cap, v = .slice A ls.length cap ∧ Strs w A ls := by
  rcases h.2 with ⟨rfl, h0⟩ | ⟨g, cap, cur, rfl, _, hg, hle, _, hcs, htk⟩
  · have : ls = [] := List.eq_nil_of_length_eq_zero h0
    subst this
    exact ⟨none, 0, rfl, fun j hj => absurd hj (by simp)⟩
  · refine ⟨_, cap, rfl, fun j hj => ⟨_, rfl, (Array.getElem?_eq_some_iff.1 hg).1, ?_⟩⟩
    exact h.cells (g := g) rfl j _ (by simp [hj])

theorem labS_size {s : ByteArray} (x : At s) : (labS x).size < s.size := by
  have h := x.lt
  unfold labS
  rw [ByteArray.size_extract]
  omega

theorem info5 : (Tryz.prog.info? 5).map (fun i => (i.zero, i.size, i.bytes)) = some (some (.int .u8 0), 1, 1) := by kernel_rfl
theorem conv_nil (w : World) : (convert 88 9 (.slice none 0 0)).run Tryz.prog w = .ok (.string ⟨#[]⟩) w := by kernel_rfl
theorem conv_own {w : World} {base : Nat} {v : Value} {l : List UInt8} (h : w.ownsRow base 5 1 v l.length (Lib.byteCells l)) : (convert 88 9 v).run Tryz.prog w = .ok (.string ⟨l.toArray⟩) w := by
  rcases h.2 with ⟨rfl, h0⟩ | ⟨g, cap, cur, rfl, _, hg, hle, _, hcs, htk⟩
  · have : l = [] := List.eq_nil_of_length_eq_zero h0
    subst this
    exact conv_nil w
  · refine run_convert_bytes_back (P := Tryz.prog) w 88 9 5 ⟨g, 0, none⟩ cap l Tryz.underlying88 Tryz.underlying5 Tryz.underlying9 (fun j hj => ?_)
    exact h.cells (g := g) rfl j _ (by simp [Lib.byteCells, hj])
theorem own_form {w : World} {base : Nat} {e : TypeId} {v : Value} {n : Nat} {xs : List Value} (h : w.ownsRow base e 1 v n xs) : ∃ A cap, v = .slice A n cap := by
  rcases h.2 with ⟨rfl, rfl⟩ | ⟨g, cap, cur, rfl, _⟩
  · exact ⟨_, _, rfl⟩
  · exact ⟨_, _, rfl⟩

theorem ref_low (c : UInt8) (w : World) :
    Calls Tryz.prog 113 #[.int .u8 (c.toNat : Nat)] w fun e w' => e = .returned (.int .u8 ((low c).toNat : Nat)) ∧ w = w' := by
  have h8 : c.toNat ≤ 255 := by have := c.toNat_lt; omega
  have hlow : low c = if 65 ≤ c.toNat ∧ c.toNat ≤ 90 then c + 32 else c := rfl
  by_cases hu : 65 ≤ c.toNat ∧ c.toNat ≤ 90
  · rw [if_pos hu] at hlow
    have hln : ((low c).toNat : Int) = c.toNat + 32 := by rw [hlow, UInt8.toNat_add]; simp; omega
    have HN := Lib.hid hln
    obtain ⟨h1, h2⟩ := hu
    clear hln hlow
    go_enter Tryz.func113, Tryz.ntmps113
    go_wp2_with fail
    go_ret
    exact ⟨by rw [HN.out]; rfl, rfl⟩
  · rw [if_neg hu] at hlow
    have HL := Lib.hid hlow
    clear hlow
    by_cases h1 : 65 ≤ c.toNat
    · have h2 : ¬ c.toNat ≤ 90 := fun h => hu ⟨h1, h⟩
      clear hu
      go_enter Tryz.func113, Tryz.ntmps113
      go_wp2_with fail
      go_ret
      exact ⟨by rw [HL.out]; rfl, rfl⟩
    · clear hu
      go_enter Tryz.func113, Tryz.ntmps113
      go_wp2_with fail
      go_ret
      exact ⟨by rw [HL.out]; rfl, rfl⟩

set_option maxRecDepth 100000 in
set_option maxHeartbeats 1000000 in
theorem ref_fold (s : ByteArray) (hs : s.size ≤ 4194304) (w : World) :
    Calls Tryz.prog 92 #[.string s] w fun e w' => e = .returned (.string (foldB s)) ∧ Below w.heap.size w w' := by
  obtain ⟨i0, hi, hz0, hz1, hz2⟩ := info_parts info5
  go_enter Tryz.func92, Tryz.ntmps92
  go_wp2_with fail
  go_loopw [3, 4] (fun b i wr => ∃ k : Nat, k ≤ s.size ∧ i = .int .i64 k ∧ wr.ownsRow w.heap.size 5 1 b ((s.data.toList.take k).map low).length (Lib.byteCells ((s.data.toList.take k).map low)) ∧ Below w.heap.size w wr) (fun _ i _ => s.size - (intOf i).toNat)
  case atStart => exact ⟨0, Nat.zero_le _, rfl, World.ownsRow_nil _ _ _ _, Below.refl _ _⟩
  case round =>
    obtain ⟨k, hk, rfl, hown, hB⟩ := hrel
    obtain ⟨A, cap, rfl⟩ := own_form hown
    by_cases hlt : k < s.size
    · have h8 : s[k].toNat ≤ 255 := by have := s[k].toNat_lt; omega
      have hsn : (s.data.toList.take (k + 1)).map low = (s.data.toList.take k).map low ++ [low s[k]] := by
        rw [List.take_succ_eq_append_getElem (by rw [ba_len]; exact hlt), List.map_append]; rfl
      have hlen : ((s.data.toList.take k).map low).length ≤ k := by rw [List.length_map]; exact List.length_take_le _ _
      have HS := Lib.hid hsn
      have hs2 := hB.size
      generalize (s.data.toList.take k).map low = acc at *
      clear hsn
      go_wp2_with fail
      refine (ref_low s[k] _).mono ?_; rintro e w2 ⟨rfl, rfl⟩
      go_wp2_with (at_builtin; refine wpList_append_own _ rfl _ _ 88 rfl w.heap.size 5 i0 (.int .u8 0) 1 1 Tryz.underlying88 hi hz0 hz1 hz2 rfl (by decide) _ _ _ rfl (hown.alloc _) ⟨wr.heap.size, 0, none⟩ 1 1 [.int .u8 ((low s[k]).toNat : Nat)] rfl rfl (cell_one_new _ _ _) (by simp [Value.oneCell']) (by unfold maxLen; omega) (by omega) (by simp; omega) ?_; intro v' w3 hown' hgrow _)
      go_roundw
      case rel =>
        refine ⟨k + 1, hlt, by go_num, by rw [HS.out]; simpa [Lib.byteCells] using hown', ?_⟩
        exact (balloc hB _).grown hgrow (by simp; omega) (fun k e => (hown.lt k e).1)
      case measure => simp [intOf]; omega
    · have hfull : (s.data.toList.take k).map low = s.data.toList.map low := by rw [List.take_of_length_le (by rw [ba_len]; omega)]
      rw [hfull] at hown
      obtain ⟨fl, hfl⟩ : ∃ fl, s.data.toList.map low = fl := ⟨_, rfl⟩
      have hfb : foldB s = ⟨fl.toArray⟩ := by rw [← hfl]; rfl
      rw [hfull, hfl]
      rw [hfl] at hown
      have hcv := conv_own hown
      have HF := Lib.hid hfb
      clear hfull hfb hfl
      go_wp2_with fail
      go_ret
      exact ⟨by rw [HF.out]; rfl, hB⟩

theorem endZ_at {s : ByteArray} {k : Nat} (he : endFrom s 0 = k) (hk : k ≤ s.size) : endZ s = true ↔ ∃ h : k < s.size, k + 1 = s.size ∧ s[k].toNat = 0 := by
  rw [endZ_iff, he]
  constructor
  · intro h
    have hlen := congrArg List.length h
    rw [List.length_drop, ba_len] at hlen
    simp at hlen
    have hlt : k < s.size := by omega
    refine ⟨hlt, by omega, ?_⟩
    have h2 := lsz_drop hlt
    rw [h] at h2
    have h3 := (List.cons.inj h2).1
    rw [lsz_eq hlt, UInt8.ofNat_toNat] at h3
    rw [← h3]; rfl
  · rintro ⟨hlt, h1, h2⟩
    rw [lsz_drop hlt, lsz_eq hlt, h2, List.drop_of_length_le (by rw [ba_len]; omega)]
    rfl

set_option maxRecDepth 100000 in
set_option maxHeartbeats 1000000 in
theorem ref_labels (s : ByteArray) (hs : s.size ≤ 4194304) (w : World) :
    Calls Tryz.prog 91 #[.string s] w (LabsPost s .i64 w) := by
  obtain ⟨i0, hi, hz0, hz1, hz2⟩ := info_parts info9
  go_enter Tryz.func91, Tryz.ntmps91
  go_wp2_with fail
  go_loopw [4, 5] (fun b i wr => ∃ (k : Nat) (pre : List (At s)), k ≤ s.size ∧ i = .int .i64 k ∧ wr.ownsRow w.heap.size 9 1 b pre.length (pre.map fun x => Value.string (labS x)) ∧ labsFrom s 0 = pre ++ labsFrom s k ∧ endFrom s 0 = endFrom s k ∧ pre.length ≤ k ∧ Below w.heap.size w wr) (fun _ i _ => s.size - (intOf i).toNat)
  case atStart => exact ⟨0, [], Nat.zero_le _, rfl, World.ownsRow_nil _ _ _ _, rfl, rfl, Nat.zero_le _, Below.refl _ _⟩
  case round =>
    obtain ⟨k, pre, hk, rfl, hown, hlf, hef, hpk, hB⟩ := hrel
    obtain ⟨A, cap, rfl⟩ := own_form hown
    have HL := Lib.hid hlf
    have HE := Lib.hid hef
    clear hlf hef
    have hs2 := hB.size
    by_cases hlt : k < s.size
    · have h8 : s[k].toNat ≤ 255 := by have := s[k].toNat_lt; omega
      by_cases c0 : s[k].toNat = 0
      · have hnl : ¬ isL s k = true := fun h => (isL_iff.1 h).2.1 (by rw [lsz_eq hlt]; exact c0)
        have hend : endFrom s 0 = k := by rw [HE.out, endFrom_nil hnl]
        have hlb : labsFrom s 0 = pre := by rw [HL.out, labsFrom_nil hnl]; simp
        have b0 : ((s[k].toNat : Int) != 0) = false := by simp; omega
        by_cases c1 : k + 1 = s.size
        · have hz := (endZ_at hend hk).2 ⟨hlt, c1, c0⟩
          have b1 : ((k : Int) != (s.size : Int) - 1) = false := by simp; omega
          by_cases c2 : s.size ≤ 255
          · have hce := (cnt_yes hz c2).2
            have hla : labsB s = pre.map labS := by unfold labsB; rw [if_pos hce, hlb]
            have H1 := Lib.hid hce
            have H2 := Lib.hid hla
            have b2 : decide (255 < (s.size : Int)) = false := by simp; omega
            have hown' : wr.ownsRow w.heap.size 9 1 (.slice A pre.length cap) (labsB s).length ((labsB s).map Value.string) := by
              rw [hla, List.length_map, List.map_map]; exact hown
            obtain ⟨A', cap', hv, hS⟩ := strs_of_own hown'
            have hlen : (labsB s).length = pre.length := by rw [hla, List.length_map]
            have HLen := Lib.hid hlen
            clear hce hla hz hend hlb hnl c0 hlen hown'
            go_wp2_with fail
            go_ret2
            refine ⟨A', cap', ?_, hS, hB⟩
            rw [← hv, H1.out]
            rfl
          · have hce := (cnt_long hz (by omega)).2
            have hla : labsB s = [] := by unfold labsB; rw [if_neg (by rw [hce]; decide)]
            have H1 := Lib.hid hce
            have H2 := Lib.hid hla
            have b2 : decide (255 < (s.size : Int)) = true := by simp; omega
            clear hce hla hz hend hlb hnl c0
            go_wp2_with fail
            go_ret2
            exact ⟨none, 0, by rw [H1.out, H2.out]; rfl, by rw [H2.out]; exact fun j hj => absurd hj (by simp), hB⟩
        · have hz : endZ s = false := by
            cases hz : endZ s with
            | false => rfl
            | true => obtain ⟨_, h, _⟩ := (endZ_at hend hk).1 hz; exact (c1 h).elim
          have hce := (cnt_form hz).2
          have hla : labsB s = [] := by unfold labsB; rw [if_neg (by rw [hce]; decide)]
          have H1 := Lib.hid hce
          have H2 := Lib.hid hla
          have b1 : ((k : Int) != (s.size : Int) - 1) = true := by simp; omega
          clear hce hla hz hend hlb hnl c0
          go_wp2_with fail
          go_ret2
          exact ⟨none, 0, by rw [H1.out, H2.out]; rfl, by rw [H2.out]; exact fun j hj => absurd hj (by simp), hB⟩
      · have b0 : ((s[k].toNat : Int) != 0) = true := by simp; omega
        by_cases hl : isL s k = true
        · obtain ⟨_, h1, h2, h3⟩ := isL_iff.1 hl
          unfold nxt at h3
          rw [lsz_eq hlt] at h1 h2 h3
          have e1 : nxt s k = k + 1 + s[k].toNat := by unfold nxt; rw [lsz_eq hlt]
          have hlc := labsFrom_cons hl
          have hec := endFrom_cons hl
          have b1 : decide (63 < (s[k].toNat : Int)) = false := by simp; omega
          have b2 : decide ((s.size : Int) < (k : Int) + 1 + (s[k].toNat : Int)) = false := by simp; omega
          have hsl := fun W => slice_at s ((k : Int) + 1) ((k : Int) + 1 + (s[k].toNat : Int)) (k + 1) (k + 1 + s[k].toNat) (by omega) (by omega) (by omega) (by omega) W
          have hlx : labS ⟨k, hl⟩ = s.extract (k + 1) (k + 1 + s[k].toNat) := by unfold labS; rw [e1]
          have H1 := Lib.hid hlc
          have H2 := Lib.hid hec
          have H3 := Lib.hid e1
          have H4 := Lib.hid hlx
          clear hlc hec e1 hlx c0
          go_wp2_with (at_builtin; refine wpList_append_own _ rfl _ _ 132 rfl w.heap.size 9 i0 (.string ⟨#[]⟩) 1 16 Tryz.underlying132 hi hz0 hz1 hz2 rfl (by decide) _ _ _ rfl (hown.alloc _) ⟨wr.heap.size, 0, none⟩ 1 1 [.string (s.extract (k + 1) (k + 1 + s[k].toNat))] rfl rfl (cell_one_new _ _ _) (by simp [Value.oneCell']) (by unfold maxLen; omega) (by omega) (by simp; omega) ?_; intro v' w3 hown' hgrow _)
          go_roundw
          case rel =>
            refine ⟨k + 1 + s[k].toNat, pre ++ [⟨k, hl⟩], h3, by go_num, ?_, ?_, ?_, by simp; omega, ?_⟩
            · rw [← H4.out] at hown'; simpa using hown'
            · rw [HL.out, H1.out, H3.out]; simp
            · rw [HE.out, H2.out, H3.out]
            · exact (balloc hB _).grown hgrow (by simp; omega) (fun k e => (hown.lt k e).1)
          case measure => simp [intOf]; omega
        · have hend : endFrom s 0 = k := by rw [HE.out, endFrom_nil hl]
          have hz : endZ s = false := by
            cases hz : endZ s with
            | false => rfl
            | true => obtain ⟨_, _, h⟩ := (endZ_at hend hk).1 hz; exact (c0 h).elim
          have hce := (cnt_form hz).2
          have hla : labsB s = [] := by unfold labsB; rw [if_neg (by rw [hce]; decide)]
          have H1 := Lib.hid hce
          have H2 := Lib.hid hla
          have hbad : 63 < s[k].toNat ∨ s.size < k + 1 + s[k].toNat := by
            rcases Nat.lt_or_ge 63 s[k].toNat with h | h
            · exact .inl h
            · rcases Nat.lt_or_ge s.size (k + 1 + s[k].toNat) with h' | h'
              · exact .inr h'
              · refine (hl ?_).elim
                rw [isL_iff]
                unfold nxt
                rw [lsz_eq hlt]
                exact ⟨hlt, c0, h, h'⟩
          by_cases c1 : 63 < s[k].toNat
          · have b1 : decide (63 < (s[k].toNat : Int)) = true := by simp; omega
            clear hce hla hz hend hbad c1 c0
            go_wp2_with fail
            go_ret2
            exact ⟨none, 0, by rw [H1.out, H2.out]; rfl, by rw [H2.out]; exact fun j hj => absurd hj (by simp), hB⟩
          · have b1 : decide (63 < (s[k].toNat : Int)) = false := by simp; omega
            have b2 : decide ((s.size : Int) < (k : Int) + 1 + (s[k].toNat : Int)) = true := by simp; omega
            clear hce hla hz hend hbad c0
            go_wp2_with fail
            go_ret2
            exact ⟨none, 0, by rw [H1.out, H2.out]; rfl, by rw [H2.out]; exact fun j hj => absurd hj (by simp), hB⟩
    · have hnl : ¬ isL s k = true := fun h => hlt (isL_iff.1 h).1
      have hend : endFrom s 0 = k := by rw [HE.out, endFrom_nil hnl]
      have hz : endZ s = false := by
        cases hz : endZ s with
        | false => rfl
        | true => obtain ⟨h, _, _⟩ := (endZ_at hend hk).1 hz; exact (hlt h).elim
      have hce := (cnt_form hz).2
      have hla : labsB s = [] := by unfold labsB; rw [if_neg (by rw [hce]; decide)]
      have H1 := Lib.hid hce
      have H2 := Lib.hid hla
      have b1 : ((k : Int) != (s.size : Int) - 1) = true := by simp; omega
      clear hce hla hz hend hnl
      go_wp2_with fail
      go_ret2
      exact ⟨none, 0, by rw [H1.out, H2.out]; rfl, by rw [H2.out]; exact fun j hj => absurd hj (by simp), hB⟩

set_option maxHeartbeats 400000 in
theorem ref_may (s : ByteArray) (hs : s.size ≤ 4194304) (w : World) :
    Calls Tryz.prog 59 #[.string s] w fun e w' => e = .returned (.bool (mayB s)) ∧ Below w.heap.size w w' := by
  go_enter Tryz.func59, Tryz.ntmps59
  go_wp2_with fail
  refine (ref_labels s hs _).mono ?_; rintro e w1 ⟨A, cap, rfl, hS, hb1⟩
  by_cases hz : cerr s = 0
  · have hm : mayB s = ((foldB s).toList == s.toList) := by simp [mayB, hz]
    have HM := Lib.hid hm
    have hz1 : ((cerr s : Nat) : Int) = 0 := by omega
    clear hm hz
    rw [hz1]
    clear hz1
    go_wp2_with fail
    refine (ref_fold s hs _).mono ?_; rintro e w2 ⟨rfl, hb2⟩
    go_wp2_with fail
    go_ret
    exact ⟨ret_bool HM.out.symm, bthen hb1 hb2⟩
  · have hm : mayB s = false := by simp [mayB, hz]
    have HM := Lib.hid hm
    have hz1 : (((cerr s : Nat) : Int) == 0) = false := by simpa using hz
    clear hm hz
    go_wp2_with fail
    go_ret
    exact ⟨ret_bool HM.out.symm, hb1⟩
end Go.Proofs.YtnakljbginbenaaGreatDoor
