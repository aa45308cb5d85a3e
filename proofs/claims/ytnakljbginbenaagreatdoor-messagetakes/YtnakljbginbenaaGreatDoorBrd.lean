/- Joined texts: Rpa Rst Rrd Rsp Rjn Rmt Rpu Rmm Rmn Lve. -/
import Derived.Test.YtnakljbginbenaaGreatDoorBoc
import Derived.Test.YtnakljbginbenaaGreatDoorBnm
import Derived.Deep.MidRow
import Derived.Test.YtnakljbginbenaaGreatDoorBwi
import Derived.Laws.ResultCell
import Derived.Maps.AppendAt
import Derived.Test.YtnakljbginbenaaGreatDoorBma

/- The contract of rdata.partsOf: the parts of the data of a type. -/
namespace Go.Proofs.YtnakljbginbenaaGreatDoor
open Go.RowKit
set_option linter.unusedVariables false

/-- The table's rows. -/
def layR : Nat → Int × Int × Int × Int
  | 0 => (1, 4, 0, 0)
  | 1 => (2, -1, 0, 0)
  | 2 => (5, -1, 0, 0)
  | 3 => (6, -1, -1, 20)
  | 4 => (12, -1, 0, 0)
  | 5 => (15, 2, -1, 0)
  | 6 => (16, -2, 0, 0)
  | _ => (28, 16, 0, 0)
def rowV (i : Nat) : List Value := [.int .u16 (layR i).1, .int .i64 (layR i).2.1, .int .i64 (layR i).2.2.1, .int .i64 (layR i).2.2.2]
def layC : List Value := (List.range 8).flatMap rowV
/-- The parts of the data of a type. -/
def lay (k : Nat) : Int × Int × Int :=
  if k = 1 then (4, 0, 0) else if k = 2 ∨ k = 5 ∨ k = 12 then (-1, 0, 0) else if k = 6 then (-1, -1, 20) else if k = 15 then (2, -1, 0) else if k = 16 then (-2, 0, 0) else if k = 28 then (16, 0, 0) else (-3, 0, 0)
/-- The table lies in memory. -/
def Lay (w : World) : Prop := ∃ t f, w.heap[0]? = some (.cells layC.toArray t f)
theorem lay_lt {w : World} (h : Lay w) : 0 < w.heap.size := by
  obtain ⟨t, f, h⟩ := h
  exact (Array.getElem?_eq_some_iff.1 h).1
theorem Lay.below {w w' : World} {B : Nat} (h : Lay w) (hB : 0 < B) (hb : Below B w w') : Lay w' := by
  obtain ⟨t, f, h⟩ := h
  exact ⟨t, f, (hb.block 0 hB).trans h⟩
theorem Lay.range {w : World} (h : Lay w) : w.rangeAt 0 0 layC := by
  obtain ⟨t, f, h⟩ := h
  intro j v hv
  rw [cell_of_row w 0 (0 + j) _ t f h]
  simpa using hv
theorem lay_load {w : World} (h : Lay w) : (Instr.loadAt 190 (.pointer (some ⟨0, 0, none⟩))).run Tryz.prog w = .ok (.agg layC.toArray) w :=
  run_loadAt_mid w 0 0 190 layC _ h.range Tryz.underlying190 rfl (by kernel_rfl)

theorem lay_index (j : Nat) (hj : j < 8) (w : World) : (Instr.index 190 (.agg layC.toArray) (.int .i64 (j : Nat))).run Tryz.prog w = .ok (.agg #[.int .u16 (layR j).1, .int .i64 (layR j).2.1, .int .i64 (layR j).2.2.1, .int .i64 (layR j).2.2.2]) w := by
  rcases (by omega : j = 0 ∨ j = 1 ∨ j = 2 ∨ j = 3 ∨ j = 4 ∨ j = 5 ∨ j = 6 ∨ j = 7) with rfl | rfl | rfl | rfl | rfl | rfl | rfl | rfl <;> kernel_rfl
theorem lay_row (j k : Nat) (hj : j < 8) (h : (layR j).1 = (k : Int)) : lay k = (layR j).2 := by
  rcases (by omega : j = 0 ∨ j = 1 ∨ j = 2 ∨ j = 3 ∨ j = 4 ∨ j = 5 ∨ j = 6 ∨ j = 7) with rfl | rfl | rfl | rfl | rfl | rfl | rfl | rfl <;> (simp only [layR] at h; have h := Int.ofNat.inj h.symm; subst h; rfl)
theorem lay_else (k : Nat) (h : ∀ x, x < 8 → (layR x).1 ≠ (k : Int)) : lay k = (-3, 0, 0) := by
  have h0 := h 0 (by omega)
  have h1 := h 1 (by omega)
  have h2 := h 2 (by omega)
  have h3 := h 3 (by omega)
  have h4 := h 4 (by omega)
  have h5 := h 5 (by omega)
  have h6 := h 6 (by omega)
  have h7 := h 7 (by omega)
  simp only [layR] at h0 h1 h2 h3 h4 h5 h6 h7
  unfold lay
  rw [if_neg (by omega), if_neg (by omega), if_neg (by omega), if_neg (by omega), if_neg (by omega), if_neg (by omega)]

theorem info81 : (Tryz.prog.info? 180).map (·.size) = some 3 := by kernel_rfl
theorem ret_parts {w : World} {fn : Func} {p : Tmp} {R : Ending → World → Prop} {a : Act} {g : Nat} {x y z : Value} (h : fn.results = #[.cell p 180]) (hp : a.tmps.getD p undef = .pointer (some ⟨g, 0, none⟩)) (hd : a.defers = [])
    (hg : w.heap[g]? = some (.cells #[x, y, z] 180 (0, 0))) (hR : R (.returned (.agg #[x, y, z])) w) : bodyPost Tryz.prog fn R .ret a w :=
  bodyPost_ret (results_cell_row h _ w g 180 #[x, y, z] (0, 0) _ hp hg Tryz.underlying180 rfl info81) hd hR
theorem one3 (b c d : Int) : (#[Value.int .i64 b, .int .i64 c, .int .i64 d] : Array Value).all (·.oneCell') = true := by kernel_rfl
theorem setRow_below {B g : Nat} {w0 w : World} (hb : Below B w0 w) (hBg : B ≤ g) (cs : Array Value) : Below B w0 (w.setRow g cs) :=
  ⟨hb.os, hb.tape, hb.output, by rw [setRow_size]; exact hb.size, fun k hk => by rw [setRow_other w g k cs (by omega)]; exact hb.block k hk⟩

set_option maxRecDepth 100000 in
set_option maxHeartbeats 1000000 in
theorem parts_any (k : Nat) (hk : k < 65536) (w : World) (hL : Lay w) :
    Calls Tryz.prog 125 #[.int .u16 (k : Nat)] w fun e w' => e = .returned (.agg #[.int .i64 (lay k).1, .int .i64 (lay k).2.1, .int .i64 (lay k).2.2]) ∧ Below w.heap.size w w' := by
  have HL := Lib.hid hL
  have hR : ∀ o, (w.alloc o).rangeAt 0 0 layC := fun o => (HL.out.below (lay_lt HL.out) ((Below.refl _ w).alloc (Nat.le_refl _) o)).range
  have hI : (Tryz.prog.info? 190).map (·.size) = some layC.length := by kernel_rfl
  have HR := Lib.hid hR
  have HI := Lib.hid hI
  clear hL hR hI
  go_enter Tryz.func125, Tryz.ntmps125
  go_wp2_with (refine wpList_load_mid rfl 190 _ rfl 0 0 rfl layC _ (HR.out _) Tryz.underlying190 rfl HI.out ?_)
  have H0 := Lib.hid ((Below.refl w.heap.size w).alloc (Nat.le_refl _) (Obj.cells #[Value.int IntKind.i64 0, Value.int IntKind.i64 0, Value.int IntKind.i64 0] 180))
  have HN := Lib.hid (World.alloc_heap_new w (Obj.cells #[Value.int IntKind.i64 0, Value.int IntKind.i64 0, Value.int IntKind.i64 0] 180))
  generalize hw1 : w.alloc (Obj.cells #[Value.int IntKind.i64 0, Value.int IntKind.i64 0, Value.int IntKind.i64 0] 180) = w1 at H0 HN ⊢
  have hIx := fun (j : Nat) (hj : j < 8) => lay_index j hj
  generalize layC.toArray = C at hIx ⊢
  have HX := Lib.hid hIx
  clear HR HI HL hw1 hIx
  go_loopw [6] (fun i wr => ∃ j : Nat, j ≤ 8 ∧ i = .int .i64 j ∧ (∀ x, x < j → (layR x).1 ≠ (k : Int)) ∧ wr.heap[w.heap.size]? = some (.cells #[Value.int IntKind.i64 0, Value.int IntKind.i64 0, Value.int IntKind.i64 0] 180) ∧ Below w.heap.size w wr) (fun i _ => 8 - (intOf i).toNat)
  case atStart => exact ⟨0, Nat.zero_le _, rfl, (fun x hx => by cases hx), HN.out, H0.out⟩
  case round =>
    obtain ⟨j, hj, rfl, hno, hcell, hbel⟩ := hrel
    by_cases hlt : j < 8
    · have HNO := Lib.hid hno
      have HC := Lib.hid hcell
      have hix := HX.out j hlt
      have hrow := lay_row j k hlt
      obtain ⟨a, ha⟩ : ∃ a, (layR j).1 = a := ⟨_, rfl⟩
      obtain ⟨b, hb⟩ : ∃ b, (layR j).2.1 = b := ⟨_, rfl⟩
      obtain ⟨c, hc⟩ : ∃ c, (layR j).2.2.1 = c := ⟨_, rfl⟩
      obtain ⟨d, hd⟩ : ∃ d, (layR j).2.2.2 = d := ⟨_, rfl⟩
      rw [ha, hb, hc, hd] at hix
      rw [ha] at hrow
      clear hno hcell
      by_cases he : a = (k : Int)
      · have HR := Lib.hid (show (lay k).1 = b ∧ (lay k).2.1 = c ∧ (lay k).2.2 = d by rw [hrow he]; exact ⟨hb, hc, hd⟩)
        subst he
        clear hrow ha hb hc hd HNO
        have HC1 := Lib.hid (fun o => ((((Below.refl _ wr).alloc (Nat.le_refl _) o).block w.heap.size (Array.getElem?_eq_some_iff.1 HC.out).1).trans HC.out))
        have HB1 := Lib.hid (fun o => hbel.alloc hbel.size o)
        clear hbel
        go_wp2_with (refine wpList_store_row rfl 180 _ _ rfl w.heap.size #[.int .i64 b, .int .i64 c, .int .i64 d] rfl rfl 180 _ (HC1.out _) info81 rfl (one3 _ _ _) ?_)
        refine ret_parts (g := w.heap.size) (x := .int .i64 b) (y := .int .i64 c) (z := .int .i64 d) rfl rfl rfl ?_ ?_
        · exact setRow_heap _ _ _ _ _ _ (HC1.out _)
        · exact ⟨by rw [HR.out.1, HR.out.2.1, HR.out.2.2], setRow_below (HB1.out _) (Nat.le_refl _) _⟩
      · have hbne : (a == (k : Int)) = false := by simpa using he
        have HE := Lib.hid (And.intro ha he)
        have HC1 := Lib.hid (fun o => ((((Below.refl _ wr).alloc (Nat.le_refl _) o).block w.heap.size (Array.getElem?_eq_some_iff.1 HC.out).1).trans HC.out))
        have HB1 := Lib.hid (fun o => hbel.alloc hbel.size o)
        clear hrow ha hb hc hd he hbel
        go_wp2_with fail
        go_roundw
        case rel => exact ⟨j + 1, hlt, rfl, (fun x hx => by
          by_cases hxj : x < j
          · exact HNO.out x hxj
          · have : x = j := by omega
            rw [this, HE.out.1]; exact HE.out.2), HC1.out _, HB1.out _⟩
        case measure => simp [intOf]; omega
    · have HE := Lib.hid (lay_else k (fun x hx => hno x (by omega)))
      have HC := Lib.hid hcell
      clear hno hcell
      go_wp2_with (refine wpList_store_row rfl 180 _ _ rfl w.heap.size #[.int .i64 (-3), .int .i64 0, .int .i64 0] rfl rfl 180 _ HC.out info81 rfl (one3 _ _ _) ?_)
      refine ret_parts (g := w.heap.size) (x := .int .i64 (-3)) (y := .int .i64 0) (z := .int .i64 0) rfl rfl rfl ?_ ?_
      · exact setRow_heap _ _ _ _ _ _ HC.out
      · exact ⟨by rw [HE.out], setRow_below hbel (Nat.le_refl _) _⟩
end Go.Proofs.YtnakljbginbenaaGreatDoor

/- The contract of rdata.readStrings: strings, each behind its length byte, up to an end. -/
namespace Go.Proofs.YtnakljbginbenaaGreatDoor
open Go.RowKit
set_option linter.unusedVariables false

/-- The offset behind strings that begin ahead of an end, one at least. -/
def txG (s : ByteArray) (p e : Nat) : Option Nat :=
  if h : p < s.size ∧ p + 1 + lsz s p ≤ s.size then (if p + 1 + lsz s p < e then txG s (p + 1 + lsz s p) e else some (p + 1 + lsz s p)) else none
termination_by s.size - p
decreasing_by omega
theorem txG_no {s : ByteArray} {p e : Nat} (h : ¬ (p < s.size ∧ p + 1 + lsz s p ≤ s.size)) : txG s p e = none := by rw [txG, dif_neg h]
theorem txG_go {s : ByteArray} {p e : Nat} (h : p < s.size ∧ p + 1 + lsz s p ≤ s.size) (h2 : p + 1 + lsz s p < e) : txG s p e = txG s (p + 1 + lsz s p) e := by rw [txG, dif_pos h, if_pos h2]
theorem txG_end {s : ByteArray} {p e : Nat} (h : p < s.size ∧ p + 1 + lsz s p ≤ s.size) (h2 : ¬ p + 1 + lsz s p < e) : txG s p e = some (p + 1 + lsz s p) := by rw [txG, dif_pos h, if_neg h2]
theorem txG_lt {s : ByteArray} {e : Nat} : ∀ (m p : Nat), s.size - p ≤ m → ∀ q, txG s p e = some q → p < q ∧ q ≤ s.size ∧ e ≤ q := by
  intro m
  induction m with
  | zero =>
    intro p hm q h
    rw [txG_no (by omega)] at h
    cases h
  | succ m ih =>
    intro p hm q h
    by_cases h1 : p < s.size ∧ p + 1 + lsz s p ≤ s.size
    · by_cases h2 : p + 1 + lsz s p < e
      · rw [txG_go h1 h2] at h
        have := ih _ (by omega) q h
        omega
      · rw [txG_end h1 h2] at h
        cases h
        omega
    · rw [txG_no h1] at h
      cases h
def rsS (s : ByteArray) (p e : Nat) : ByteArray := match txG s p e with | some q => s.extract p q | none => ⟨#[]⟩
def rsX (s : ByteArray) (p e : Nat) : Nat := match txG s p e with | some q => q | none => 0
def rsE (s : ByteArray) (p e : Nat) : Nat := match txG s p e with | some _ => 0 | none => 2
theorem rs_some {s : ByteArray} {p e q : Nat} (h : txG s p e = some q) : rsS s p e = s.extract p q ∧ rsX s p e = q ∧ rsE s p e = 0 := by unfold rsS rsX rsE; rw [h]; exact ⟨rfl, rfl, rfl⟩
theorem rs_none {s : ByteArray} {p e : Nat} (h : txG s p e = none) : rsS s p e = ⟨#[]⟩ ∧ rsX s p e = 0 ∧ rsE s p e = 2 := by unfold rsS rsX rsE; rw [h]; exact ⟨rfl, rfl, rfl⟩

set_option maxRecDepth 100000 in
set_option maxHeartbeats 1000000 in
theorem strings_any (s : ByteArray) (p e : Nat) (hs : s.size ≤ 140737488355328) (hp : p ≤ 140737488355328) (he : e ≤ 140737488355328) (w : World) :
    Calls Tryz.prog 130 #[.string s, .int .i64 (p : Nat), .int .i64 (e : Nat)] w fun en w' => en = .returned (.tuple #[.string (rsS s p e), .int .i64 (rsX s p e : Nat), .int .i64 (rsE s p e : Nat)]) ∧ Below w.heap.size w w' := by
  have hs' : s.size ≤ maxLen := by unfold maxLen; omega
  have HS := Lib.hid hs'
  clear hs'
  go_enter Tryz.func130, Tryz.ntmps130
  go_wp2_with fail
  go_loopw [9] (fun i wr => ∃ k : Nat, i = .int .i64 k ∧ p ≤ k ∧ (k = p ∨ k ≤ s.size) ∧ ((k = p ∨ k < e) → txG s p e = txG s k e) ∧ (k ≠ p → e ≤ k → txG s p e = some k) ∧ Below w.heap.size w wr) (fun i _ => s.size - (intOf i).toNat)
  case atStart => exact ⟨p, rfl, Nat.le_refl _, .inl rfl, (fun _ => rfl), (fun h => absurd rfl h), Below.refl _ _⟩
  case round =>
    obtain ⟨k, rfl, hpk, hks, hgo, hend, hbel⟩ := hrel
    by_cases hx : k ≠ p ∧ e ≤ k
    · have HR := Lib.hid (rs_some (hend hx.1 hx.2))
      have hb0 : ((k : Int) == (p : Int)) = false := by simp; omega
      have hb1 : decide (k < e) = false := by simp; omega
      have hb2 : ¬ k < e := by omega
      have hsl := slice_mid s p k hpk (by omega)
      clear hgo hend hx hks
      go_wp2_with fail
      go_ret3
      exact ⟨by rw [HR.out.1, HR.out.2.1, HR.out.2.2]; rfl, hbel⟩
    · have hgo' := hgo (by omega)
      have HG := Lib.hid hgo'
      have hcond : ((k : Int) == (p : Int)) = true ∨ (((k : Int) == (p : Int)) = false ∧ decide (k < e) = true ∧ k < e) := by
        by_cases h : k = p
        · left; simp [h]
        · right; exact ⟨by simp; omega, by simp; omega, by omega⟩
      have hkm : (k : Int) ≤ maxLen := by unfold maxLen; omega
      clear hgo hend hgo' hx
      rcases hcond with hb0 | ⟨hb0, hb2, hb3⟩
      all_goals
        go_wp2_with fail
        refine (Oc.u8_any s k _ HS.out hkm).mono ?_
        rintro en w1 ⟨rfl, hb1⟩
        have hbel1 : Below w.heap.size w w1 := hbel.trans (hb1.mono hbel.size)
        clear hkm hbel hb1
        by_cases hlt : k < s.size
        · obtain ⟨e1, e2, e3⟩ := un_one hlt
          rw [e1, e2, e3]
          clear e1 e2 e3
          have h8 := lsz_le s k
          have hk1 : (k : Int) + 1 ≤ maxLen := by unfold maxLen; omega
          by_cases hn : k + 1 + lsz s k ≤ s.size
          · have hok : Oc.okS s ((k : Int) + 1) (lsz s k : Nat) := ⟨by omega, by omega, by omega⟩
            have e2 : Oc.so s ((k : Int) + 1) (lsz s k : Nat) = ((k + 1 + lsz s k : Nat) : Int) := by unfold Oc.so; rw [if_pos hok]; omega
            have e3 : Oc.se s ((k : Int) + 1) (lsz s k : Nat) = 0 := by unfold Oc.se; rw [if_pos hok]
            clear hok hks
            go_wp2_with fail
            refine (Oc.some_any s ((k : Int) + 1) (lsz s k : Nat) _ HS.out hk1).mono ?_
            rintro en w2 ⟨rfl, rfl⟩
            rw [e2, e3]
            clear e2 e3 hk1
            go_wp2_with fail
            go_roundw
            case rel => exact ⟨k + 1 + lsz s k, rfl, by omega, .inr hn, (fun h => by rw [HG.out, txG_go ⟨hlt, hn⟩ (by omega)]), (fun _ h => by rw [HG.out, txG_end ⟨hlt, hn⟩ (by omega)]), hbel1⟩
            case measure => simp [intOf]; omega
          · have HR := Lib.hid (rs_none (HG.out.trans (txG_no (fun h => hn h.2))))
            obtain ⟨_, e2, e3, e4⟩ := un_not (s := s) (p := (k : Int) + 1) (m := (lsz s k : Nat)) (fun h => hn (by have := h.2.2; omega))
            clear hn hks
            go_wp2_with fail
            refine (Oc.some_any s ((k : Int) + 1) (lsz s k : Nat) _ HS.out hk1).mono ?_
            rintro en w2 ⟨rfl, rfl⟩
            rw [e2, e3, e4]
            clear e2 e3 e4 hk1
            go_wp2_with fail
            go_ret3
            exact ⟨by rw [HR.out.1, HR.out.2.1, HR.out.2.2]; rfl, hbel1⟩
        · have HR := Lib.hid (rs_none (HG.out.trans (txG_no (fun h => hlt h.1))))
          obtain ⟨e1, e2, e3, _⟩ := un_not (s := s) (p := (k : Int)) (m := 1) (fun h => hlt (by have := h.2.2; omega))
          rw [e1, e2, e3]
          clear e1 e2 e3 hks hlt
          go_wp2_with fail
          go_ret3
          exact ⟨by rw [HR.out.1, HR.out.2.1, HR.out.2.2]; rfl, hbel1⟩
end Go.Proofs.YtnakljbginbenaaGreatDoor

/- The contract of rdata.read: one part of data at an offset. -/
namespace Go.Proofs.YtnakljbginbenaaGreatDoor
open Go.RowKit
set_option linter.unusedVariables false

/-- How many bytes are read. -/
def rdM (p e : Nat) (q : Int) : Int := if q = -3 then (e : Int) - p else q
def rdB (s : ByteArray) (p e : Nat) (q : Int) : ByteArray := if q = -1 then tkS s p else if q = -2 then rsS s p e else Oc.sx s p (rdM p e q)
def rdX (s : ByteArray) (p e : Nat) (q : Int) : Int := if q = -1 then (tkX s p : Nat) else if q = -2 then (rsX s p e : Nat) else Oc.so s p (rdM p e q)
def rdE (s : ByteArray) (p e : Nat) (q : Int) : Int := if q = -1 then (tkE s p : Nat) else if q = -2 then (rsE s p e : Nat) else Oc.se s p (rdM p e q)
def rdN (q : Int) : Bool := decide (q = -1)

theorem info65 : (Tryz.prog.info? 154).map (·.size) = some 2 := by kernel_rfl
theorem one2 (b : ByteArray) (c : Bool) : (#[Value.string b, .bool c] : Array Value).all (·.oneCell') = true := by kernel_rfl
theorem load_piece (w : World) (g : Nat) (a b : Value) (hg : w.heap[g]? = some (.cells #[a, b] 154 (0, 0))) : (loadVar 154 ⟨g, 0, none⟩).run Tryz.prog w = .ok (.agg #[a, b]) w :=
  run_loadVar_row w g 154 154 #[a, b] (0, 0) _ hg Tryz.underlying154 rfl info65
theorem results_cell_tmp2 {fn : Func} {p u v : Tmp} {ty : TypeId} (h : fn.results = #[.cell p ty, .tmp u, .tmp v]) (tmps : Array Value) (P : Program) (w : World) :
    (results fn tmps).run P w =
      ((asAddr (tmps.getD p undef)).run P w).andThen fun a w₁ => ((loadVar ty a).run P w₁).andThen fun x w₂ => .ok (.tuple #[x, tmps.getD u undef, tmps.getD v undef]) w₂ := by
  simp only [results, h]
  simp [Sem.run_bind, Result.andThen]
theorem ret_piece {w : World} {fn : Func} {p u v : Tmp} {R : Ending → World → Prop} {a : Act} {g : Nat} {x y z t : Value} (h : fn.results = #[.cell p 154, .tmp u, .tmp v]) (hp : a.tmps.getD p undef = .pointer (some ⟨g, 0, none⟩)) (hu : a.tmps.getD u undef = z) (hv : a.tmps.getD v undef = t) (hd : a.defers = [])
    (hg : w.heap[g]? = some (.cells #[x, y] 154 (0, 0))) (hR : R (.returned (.tuple #[.agg #[x, y], z, t])) w) : bodyPost Tryz.prog fn R .ret a w := by
  refine bodyPost_ret (v := .tuple #[.agg #[x, y], z, t]) ?_ hd hR
  rw [results_cell_tmp2 h, hp, hu, hv]
  simp [asAddr, Result.andThen, load_piece w g x y hg]

set_option maxRecDepth 100000 in
set_option maxHeartbeats 1000000 in
theorem read_any (s : ByteArray) (p e : Nat) (q : Int) (hs : s.size ≤ 140737488355328) (hp : p ≤ 140737488355328) (he : e ≤ 140737488355328) (hq : -3 ≤ q) (w : World) :
    Calls Tryz.prog 126 #[.string s, .int .i64 (p : Nat), .int .i64 (e : Nat), .int .i64 q] w fun en w' => en = .returned (.tuple #[.agg #[.string (rdB s p e q), .bool (rdN q)], .int .i64 (rdX s p e q), .int .i64 (rdE s p e q)]) ∧ Below w.heap.size w w' := by
  have hs' : s.size ≤ maxLen := by unfold maxLen; omega
  have hp' : (p : Int) ≤ maxLen := by unfold maxLen; omega
  have HS := Lib.hid (And.intro hs' hp')
  have H0 := Lib.hid ((Below.refl w.heap.size w).alloc (Nat.le_refl _) (Obj.cells #[Value.string ⟨#[]⟩, Value.bool false] 154))
  have HN := Lib.hid (World.alloc_heap_new w (Obj.cells #[Value.string ⟨#[]⟩, Value.bool false] 154))
  clear hs' hp'
  by_cases h1 : q = -1
  · subst h1
    have e1 : rdB s p e (-1) = tkS s p := rfl
    have e2 : rdX s p e (-1) = (tkX s p : Nat) := rfl
    have e3 : rdE s p e (-1) = (tkE s p : Nat) := rfl
    have e4 : rdN (-1) = true := rfl
    rw [e1, e2, e3, e4]
    clear e1 e2 e3 e4
    have hc := fun w' => take_any s p hs HS.out.2 w'
    generalize tkS s p = B at hc ⊢
    generalize tkX s p = X at hc ⊢
    generalize tkE s p = E at hc ⊢
    have HK := Lib.hid hc
    clear hc
    go_enter Tryz.func126, Tryz.ntmps126
    go_wp2_with fail
    refine (HK.out _).mono ?_
    rintro en w1 ⟨rfl, hb1⟩
    have HC := Lib.hid ((hb1.block w.heap.size (by simp)).trans HN.out)
    have HB := Lib.hid (H0.out.trans (hb1.mono H0.out.size))
    clear hb1
    clear HK HN H0 HS
    go_wp2_with (refine wpList_store_row rfl 154 _ _ rfl w.heap.size #[.string B, .bool true] rfl rfl 154 _ HC.out info65 rfl (one2 _ _) ?_)
    refine ret_piece (g := w.heap.size) (x := .string B) (y := .bool true) (z := .int .i64 (X : Nat)) (t := .int .i64 (E : Nat)) rfl rfl rfl rfl rfl ?_ ?_
    · exact setRow_heap _ _ _ _ _ _ HC.out
    · exact ⟨rfl, setRow_below HB.out (Nat.le_refl _) _⟩
  · by_cases h2 : q = -2
    · subst h2
      have e1 : rdB s p e (-2) = rsS s p e := rfl
      have e2 : rdX s p e (-2) = (rsX s p e : Nat) := rfl
      have e3 : rdE s p e (-2) = (rsE s p e : Nat) := rfl
      have e4 : rdN (-2) = false := rfl
      rw [e1, e2, e3, e4]
      clear e1 e2 e3 e4 h1
      have hc := fun w' => strings_any s p e hs hp he w'
      generalize rsS s p e = B at hc ⊢
      generalize rsX s p e = X at hc ⊢
      generalize rsE s p e = E at hc ⊢
      have HK := Lib.hid hc
      clear hc
      go_enter Tryz.func126, Tryz.ntmps126
      go_wp2_with fail
      refine (HK.out _).mono ?_
      rintro en w1 ⟨rfl, hb1⟩
      have HC := Lib.hid ((hb1.block w.heap.size (by simp)).trans HN.out)
      have HB := Lib.hid (H0.out.trans (hb1.mono H0.out.size))
      clear hb1
      clear HK HN H0 HS
      go_wp2_with (refine wpList_store_row rfl 154 _ _ rfl w.heap.size #[.string B, .bool false] rfl rfl 154 _ HC.out info65 rfl (one2 _ _) ?_)
      refine ret_piece (g := w.heap.size) (x := .string B) (y := .bool false) (z := .int .i64 (X : Nat)) (t := .int .i64 (E : Nat)) rfl rfl rfl rfl rfl ?_ ?_
      · exact setRow_heap _ _ _ _ _ _ HC.out
      · exact ⟨rfl, setRow_below HB.out (Nat.le_refl _) _⟩
    · have e1 : rdB s p e q = Oc.sx s p (rdM p e q) := by unfold rdB; rw [if_neg h1, if_neg h2]
      have e2 : rdX s p e q = Oc.so s p (rdM p e q) := by unfold rdX; rw [if_neg h1, if_neg h2]
      have e3 : rdE s p e q = Oc.se s p (rdM p e q) := by unfold rdE; rw [if_neg h1, if_neg h2]
      have e4 : rdN q = false := by unfold rdN; simp [h1]
      rw [e1, e2, e3, e4]
      by_cases h3 : q = -3
      · subst h3
        have e5 : rdM p e (-3) = (e : Int) - p := rfl
        rw [e5]
        clear e1 e2 e3 e4 e5 h1 h2 hq
        have hc := fun w' => Oc.some_any s p ((e : Int) - p) w' HS.out.1 HS.out.2
        generalize Oc.sx s p ((e : Int) - p) = B at hc ⊢
        generalize Oc.so s p ((e : Int) - p) = X at hc ⊢
        generalize Oc.se s p ((e : Int) - p) = E at hc ⊢
        have HK := Lib.hid hc
        clear hc
        go_enter Tryz.func126, Tryz.ntmps126
        go_wp2_with fail
        refine (HK.out _).mono ?_
        rintro en w1 ⟨rfl, rfl⟩
        have HC := Lib.hid HN.out
        have HB := Lib.hid H0.out
        clear HK HN H0 HS
        go_wp2_with (refine wpList_store_row rfl 154 _ _ rfl w.heap.size #[.string B, .bool false] rfl rfl 154 _ HC.out info65 rfl (one2 _ _) ?_)
        refine ret_piece (g := w.heap.size) (x := .string B) (y := .bool false) (z := .int .i64 X) (t := .int .i64 E) rfl rfl rfl rfl rfl ?_ ?_
        · exact setRow_heap _ _ _ _ _ _ HC.out
        · exact ⟨rfl, setRow_below HB.out (Nat.le_refl _) _⟩
      · have e5 : rdM p e q = q := by unfold rdM; rw [if_neg h3]
        rw [e5]
        have b1 : (q == -1) = false := by simpa using h1
        have b2 : (q == -2) = false := by simpa using h2
        have b3 : (q == -3) = false := by simpa using h3
        clear e1 e2 e3 e4 e5 h1 h2 h3
        have hc := fun w' => Oc.some_any s p q w' HS.out.1 HS.out.2
        generalize Oc.sx s p q = B at hc ⊢
        generalize Oc.so s p q = X at hc ⊢
        generalize Oc.se s p q = E at hc ⊢
        have HK := Lib.hid hc
        clear hc
        go_enter Tryz.func126, Tryz.ntmps126
        go_wp2_with fail
        refine (HK.out _).mono ?_
        rintro en w1 ⟨rfl, rfl⟩
        have HC := Lib.hid HN.out
        have HB := Lib.hid H0.out
        clear HK HN H0 HS
        go_wp2_with (refine wpList_store_row rfl 154 _ _ rfl w.heap.size #[.string B, .bool false] rfl rfl 154 _ HC.out info65 rfl (one2 _ _) ?_)
        refine ret_piece (g := w.heap.size) (x := .string B) (y := .bool false) (z := .int .i64 X) (t := .int .i64 E) rfl rfl rfl rfl rfl ?_ ?_
        · exact setRow_heap _ _ _ _ _ _ HC.out
        · exact ⟨rfl, setRow_below HB.out (Nat.le_refl _) _⟩
end Go.Proofs.YtnakljbginbenaaGreatDoor

/- The contract of rdata.split: the pieces of an encoding. -/
namespace Go.Proofs.YtnakljbginbenaaGreatDoor
open Go.RowKit
set_option linter.unusedVariables false

/-- One part, or nothing. -/
def rdP (s : ByteArray) (p e : Nat) (q : Int) : Option ((ByteArray × Bool) × Nat) := if rdE s p e q = 0 then some ((rdB s p e q, rdN q), (rdX s p e q).toNat) else none
/-- Parts, one behind the other, and where they end. -/
def spl3 (s : ByteArray) (e : Nat) : Nat → List Int → Option (List (ByteArray × Bool) × Nat)
  | p, [] => some ([], p)
  | p, q :: qs => match rdP s p e q with
    | some r => (spl3 s e r.2 qs).map fun x => (r.1 :: x.1, x.2)
    | none => none
def lays (k : Nat) : List Int := [(lay k).1, (lay k).2.1, (lay k).2.2]
/-- The pieces of an encoding that ends at e. -/
def spl (s : ByteArray) (p e k : Nat) : Option (List (ByteArray × Bool)) :=
  if p + 65535 < e then none else match spl3 s e p (lays k) with
    | some r => if r.2 = e then some r.1 else none
    | none => none
theorem lay_ge (k : Nat) : -3 ≤ (lay k).1 ∧ -3 ≤ (lay k).2.1 ∧ -3 ≤ (lay k).2.2 := by
  unfold lay
  split
  · decide
  · split
    · decide
    · split
      · decide
      · split
        · decide
        · split
          · decide
          · split <;> decide
theorem rd_cases (s : ByteArray) (p e : Nat) (q : Int) : rdE s p e q = 2 ∨ (rdE s p e q = 0 ∧ ∃ n : Nat, rdX s p e q = n ∧ n ≤ s.size) := by
  unfold rdE rdX
  by_cases h1 : q = -1
  · rw [if_pos h1, if_pos h1]
    rcases tk_cases s p with ⟨h, _⟩ | ⟨h, _, _, h2⟩
    · left; rw [h]; rfl
    · right; exact ⟨by rw [h]; rfl, _, rfl, h2⟩
  · rw [if_neg h1, if_neg h1]
    by_cases h2 : q = -2
    · rw [if_pos h2, if_pos h2]
      cases hg : txG s p e with
      | none => left; rw [(rs_none hg).2.2]; rfl
      | some n => right; rw [(rs_some hg).2.2, (rs_some hg).2.1]; exact ⟨rfl, n, rfl, (txG_lt _ p (Nat.le_refl _) n hg).2.1⟩
    · rw [if_neg h2, if_neg h2]
      unfold Oc.se Oc.so
      by_cases h : Oc.okS s p (rdM p e q)
      · right
        rw [if_pos h, if_pos h]
        unfold Oc.okS at h
        exact ⟨rfl, ((p : Int) + rdM p e q).toNat, by omega, by omega⟩
      · left; rw [if_neg h]

/-- The cells of pieces. -/
def pcCells (L : List (ByteArray × Bool)) : List Value := L.flatMap fun p => [.string p.1, .bool p.2]
theorem pcCells_len (L : List (ByteArray × Bool)) : (pcCells L).length = L.length * 2 := by
  induction L with
  | nil => rfl
  | cons a r ih => simp only [pcCells, List.flatMap_cons, List.length_append, List.length_cons, List.length_nil] at *; omega
theorem pcCells_at : ∀ (L : List (ByteArray × Bool)) (j : Nat) (h : j < L.length), (pcCells L)[j * 2]? = some (.string L[j].1) ∧ (pcCells L)[j * 2 + 1]? = some (.bool L[j].2)
  | [], j, h => by cases h
  | p :: r, 0, h => ⟨rfl, rfl⟩
  | p :: r, j + 1, h => by
    have := pcCells_at r j (by simpa using h)
    have e : pcCells (p :: r) = .string p.1 :: .bool p.2 :: pcCells r := rfl
    rw [e, show (j + 1) * 2 = j * 2 + 2 by omega, show j * 2 + 2 + 1 = j * 2 + 1 + 2 by omega]
    simpa using this
theorem pcCells_snoc (L : List (ByteArray × Bool)) (x : ByteArray × Bool) : pcCells (L ++ [x]) = pcCells L ++ [.string x.1, .bool x.2] := by simp [pcCells]
/-- A slice of pieces that the call made. -/
def Pcs (B : Nat) (v : Value) (L : List (ByteArray × Bool)) (w : World) : Prop := w.ownsRow B 154 2 v L.length (pcCells L)
theorem Pcs.form {B : Nat} {v : Value} {L : List (ByteArray × Bool)} {w : World} (h : Pcs B v L w) : ∃ A cap, v = .slice A L.length cap := by
  rcases h.2 with ⟨rfl, h0⟩ | ⟨g, cap, cur, rfl, _⟩
  · exact ⟨none, 0, by rw [h0]⟩
  · exact ⟨_, _, rfl⟩
theorem Pcs.ge {B : Nat} {v : Value} {L : List (ByteArray × Bool)} {w : World} (h : Pcs B v L w) : ∀ g, v.ownBlock = some g → B ≤ g := by
  intro g hg
  rcases h.2 with ⟨rfl, _⟩ | ⟨g', cap, cur, rfl, hb, hgg, _⟩
  · cases hg
  · cases hg
    exact hb
theorem Pcs.below {B : Nat} {v : Value} {L : List (ByteArray × Bool)} {w w' : World} (h : Pcs B v L w) (hb : Below w.heap.size w w') : Pcs B v L w' :=
  World.ownsRow.kept (row := none) h ⟨hb.os, hb.tape, hb.output, hb.size, fun k hk _ => hb.block k hk⟩ (by cases v.ownBlock <;> simp)
theorem Pcs.parts {B : Nat} {A : Option Addr} {n cap : Nat} {L : List (ByteArray × Bool)} {w : World} (h : Pcs B (.slice A n cap) L w) : Parts w A L := by
  intro j hj
  have h' := h
  rcases h.2 with ⟨hv, h0⟩ | ⟨g, cap', cur, hv, hb, hgg, _⟩
  · omega
  · cases hv
    obtain ⟨h1, h2⟩ := pcCells_at L j hj
    have hc : ∀ i u, (pcCells L)[i]? = some u → w.cell? ⟨g, i, none⟩ = some u := fun i u hu => by
      have := World.ownsRow.cells h' (g := g) rfl i u hu
      unfold Addr.add at this
      split at this
      · rename_i h0; subst h0; exact this
      · simpa using this
    refine ⟨g, 0, rfl, (Array.getElem?_eq_some_iff.1 hgg).1, ?_, ?_⟩
    · rw [Nat.zero_add]; exact hc _ _ h1
    · rw [Nat.zero_add]; exact hc _ _ h2
theorem infoPc : (Tryz.prog.info? 154).map (fun i => (i.zero, i.size, i.bytes)) = some (some (.agg #[.string ⟨#[]⟩, .bool false]), 2, 24) := by kernel_rfl
theorem lay3_index (a b c : Int) : ∀ (i : Nat) (hi : i < [a, b, c].length) (w : World), (Instr.index 180 (.agg #[.int .i64 a, .int .i64 b, .int .i64 c]) (.int .i64 (i : Nat))).run Tryz.prog w = .ok (.int .i64 ([a, b, c][i])) w
  | 0, _, w => by kernel_rfl
  | 1, _, w => by kernel_rfl
  | 2, _, w => by kernel_rfl
theorem spl3_step {s : ByteArray} {e n : Nat} {qs : List Int} {i : Nat} (hi : i < qs.length) {ps : List (ByteArray × Bool)} {R : Option (List (ByteArray × Bool) × Nat)} (h : R = (spl3 s e n (qs.drop i)).map fun r => (ps ++ r.1, r.2)) :
    (rdP s n e qs[i] = none → R = none) ∧ ∀ r, rdP s n e qs[i] = some r → R = (spl3 s e r.2 (qs.drop (i + 1))).map fun x => ((ps ++ [r.1]) ++ x.1, x.2) := by
  rw [List.drop_eq_getElem_cons hi, spl3] at h
  refine ⟨fun h1 => by rw [h, h1]; rfl, fun r h1 => ?_⟩
  rw [h, h1]
  simp only [Option.map_map]
  congr 1
  funext x
  simp
theorem two_new' (w : World) (a b : Value) (t : TypeId) : ∀ j u, [a, b][j]? = some u → (w.alloc (.cells #[a, b] t)).cell? ((⟨w.heap.size, 0, none⟩ : Addr).add j) = some u := by
  intro j u h
  have hh : (w.alloc (.cells #[a, b] t)).heap[w.heap.size]? = some (.cells #[a, b] t (0, 0)) := World.alloc_heap_new w _
  have hadd : (⟨w.heap.size, 0, none⟩ : Addr).add j = ⟨w.heap.size, j, none⟩ := by unfold Addr.add; split <;> simp_all
  rw [hadd, cell_of_row _ _ _ _ _ _ hh]
  simpa using h
theorem two_new2 (w : World) (o : Obj) (a b : Value) (t : TypeId) : ∀ j u, [a, b][j]? = some u → ((w.alloc o).alloc (.cells #[a, b] t)).cell? ((⟨w.heap.size + 1, 0, none⟩ : Addr).add j) = some u := by
  have h := two_new' (w.alloc o) a b t
  rw [show (w.alloc o).heap.size = w.heap.size + 1 by simp] at h
  exact h
/-- What rdata.split hands back. -/
def SplPost (s : ByteArray) (p e k : Nat) (w : World) (en : Ending) (w' : World) : Prop :=
  (∃ v, en = .returned (.tuple #[v, .bool (spl s p e k).isSome]) ∧ ∀ l, spl s p e k = some l → Pcs w.heap.size v l w') ∧ Below w.heap.size w w'

set_option maxRecDepth 100000 in
set_option maxHeartbeats 1000000 in
theorem split_any (s : ByteArray) (p e k : Nat) (hs : s.size ≤ 140737488355328) (hp : p ≤ s.size) (he : e ≤ s.size) (hk : k < 65536) (w : World) (hL : Lay w) :
    Calls Tryz.prog 111 #[.string s, .int .i64 (p : Nat), .int .i64 (e : Nat), .int .u16 (k : Nat)] w fun en w' => SplPost s p e k w en w' := by
  have HL := Lib.hid hL
  clear hL
  by_cases hbig : p + 65535 < e
  · have hn : spl s p e k = none := by unfold spl; rw [if_pos hbig]
    have HN := Lib.hid hn
    have b0 : decide ((65535 : Int) < (e : Int) - (p : Int)) = true := by simp; omega
    clear hn
    go_enter Tryz.func111, Tryz.ntmps111
    go_wp2_with fail
    go_ret2
    exact ⟨⟨_, by rw [HN.out]; rfl, fun l h => by rw [HN.out] at h; cases h⟩, Below.refl _ _⟩
  · have hspl : spl s p e k = match spl3 s e p (lays k) with | some r => if r.2 = e then some r.1 else none | none => none := by unfold spl; rw [if_neg hbig]
    have HSpl := Lib.hid hspl
    have b0 : decide ((65535 : Int) < (e : Int) - (p : Int)) = false := by simp; omega
    clear hspl hbig
    go_enter Tryz.func111, Tryz.ntmps111
    go_wp2_with fail
    refine (parts_any k hk _ HL.out).mono ?_
    rintro en w1 ⟨rfl, hb1⟩
    have hg := lay_ge k
    have hq : ∀ i (hi : i < (lays k).length), -3 ≤ (lays k)[i] := by
      intro i hi
      have : i < 3 := hi
      rcases (by omega : i = 0 ∨ i = 1 ∨ i = 2) with h | h | h <;> (subst h; simp only [lays]; first | exact hg.1 | exact hg.2.1 | exact hg.2.2)
    have hIx := lay3_index (lay k).1 (lay k).2.1 (lay k).2.2
    change ∀ (i : Nat) (hi : i < (lays k).length) (w : World), (Instr.index 180 (.agg #[.int .i64 (lay k).1, .int .i64 (lay k).2.1, .int .i64 (lay k).2.2]) (.int .i64 (i : Nat))).run Tryz.prog w = .ok (.int .i64 ((lays k)[i])) w at hIx
    have hlen : (lays k).length = 3 := rfl
    generalize #[Value.int IntKind.i64 (lay k).1, .int .i64 (lay k).2.1, .int .i64 (lay k).2.2] = C at hIx ⊢
    generalize lays k = qs at *
    have HX := Lib.hid hIx
    have HQ := Lib.hid hq
    have HLen := Lib.hid hlen
    clear hIx hq hlen hg hk
    go_wp2_with fail
    go_loopw [1, 10, 22] (fun at_ l i wr => ∃ (j n : Nat) (ps : List (ByteArray × Bool)), j ≤ 3 ∧ i = .int .i64 j ∧ at_ = .int .i64 n ∧ n ≤ s.size ∧ ps.length = j ∧ spl3 s e p qs = ((spl3 s e n (qs.drop j)).map fun r => (ps ++ r.1, r.2)) ∧ Pcs w.heap.size l ps wr ∧ Below w.heap.size w wr) (fun _ _ i _ => 3 - (intOf i).toNat)
    case atStart => exact ⟨0, p, [], Nat.zero_le _, rfl, rfl, hp, rfl, by simp, World.ownsRow_nil _ _ _ _, hb1⟩
    case round =>
      obtain ⟨j, n, ps, hj, rfl, rfl, hn, hpl, hR, hP, hbel⟩ := hrel
      subst hpl
      obtain ⟨A, cap, rfl⟩ := hP.form
      by_cases hlt : ps.length < 3
      · have hj3 : ps.length < qs.length := by rw [HLen.out]; exact hlt
        have hix := HX.out ps.length hj3
        have hq := HQ.out ps.length hj3
        have hst := spl3_step hj3 hR
        generalize qs[ps.length] = q at *
        have HSt := Lib.hid hst
        have HP := Lib.hid hP
        clear hst hP hR hj3
        go_wp2_with fail
        refine (read_any s n e q hs (by omega) (by omega) hq _).mono ?_
        rintro en w2 ⟨rfl, hb2⟩
        have HP2 := Lib.hid (HP.out.below hb2)
        have HB2 := Lib.hid (bthen hbel hb2)
        clear hix hq hbel hb2
        rcases rd_cases s n e q with hE | ⟨hE, n', hX, hn'⟩
        · have hnone : rdP s n e q = none := by unfold rdP; rw [hE, if_neg (by decide)]
          have hsn : spl s p e k = none := by rw [HSpl.out, HSt.out.1 hnone]
          have HN := Lib.hid hsn
          rw [hE]
          clear hnone hsn hE
          generalize rdX s n e q = X
          generalize rdB s n e q = Bb
          generalize rdN q = Nn
          go_wp2_with fail
          go_ret2
          exact ⟨⟨_, by rw [HN.out]; rfl, fun l h => by rw [HN.out] at h; cases h⟩, balloc HB2.out _⟩
        · have hsome : rdP s n e q = some ((rdB s n e q, rdN q), n') := by unfold rdP; rw [hE, if_pos rfl, hX]; rfl
          have hnext := HSt.out.2 _ hsome
          rw [hE, hX]
          clear hsome hE hX
          simp only at hnext
          generalize rdB s n e q = Bb at *
          generalize rdN q = Nn at *
          have HNx := Lib.hid hnext
          clear hnext
          obtain ⟨i0, hi, hz0, hz1, hz2⟩ := info_parts infoPc
          have hsz2 := HB2.out.size
          have HO := Lib.hid (fun o o' => World.ownsRow.alloc (World.ownsRow.alloc HP2.out o) o')
          go_wp2_with (at_builtin; refine wpList_append_own _ rfl _ _ 129 rfl w.heap.size 154 i0 _ 2 24 Tryz.underlying129 hi hz0 hz1 hz2 rfl (by decide) (.slice A ps.length cap) _ _ rfl (HO.out _ _) ⟨w2.heap.size + 1, 0, none⟩ 1 1 [.string Bb, .bool Nn] rfl rfl (two_new2 _ _ _ _ _) (by simp [Value.oneCell']) (by unfold maxLen; omega) (by omega) (by simp; omega) ?_; intro u' w4 hown' hgrow _)
          have hP4 : Pcs w.heap.size u' (ps ++ [(Bb, Nn)]) w4 := by unfold Pcs; rw [pcCells_snoc, List.length_append]; exact hown'
          have HP4 := Lib.hid hP4
          have HB4 := Lib.hid ((balloc (balloc HB2.out _) _).grown hgrow (by simp; omega) HP2.out.ge)
          clear hP4 hown' hgrow HO HP2 HB2
          go_wp2_with fail
          go_roundw
          case rel => exact ⟨ps.length + 1, n', ps ++ [(Bb, Nn)], hlt, by go_num, rfl, hn', by simp, HNx.out, HP4.out, HB4.out⟩
          case measure => simp [intOf]; omega
      · have h3 : ps.length = 3 := by omega
        have hfin : spl s p e k = if n = e then some ps else none := by
          rw [HSpl.out, hR, List.drop_of_length_le (by rw [HLen.out]; omega), spl3]
          simp
        have HF := Lib.hid hfin
        have HP := Lib.hid hP
        clear hR hP
        by_cases hne : n = e
        · subst hne
          have hs2 : spl s p n k = some ps := by rw [HF.out, if_pos rfl]
          have HS2 := Lib.hid hs2
          clear hs2 hfin
          go_wp2_with fail
          go_ret2
          exact ⟨⟨_, by rw [HS2.out]; rfl, fun l h => by rw [HS2.out] at h; cases h; have h2 := HP.out; rw [h3] at h2; exact h2⟩, hbel⟩
        · have hs2 : spl s p e k = none := by rw [HF.out, if_neg hne]
          have HS2 := Lib.hid hs2
          have hb : ((n : Int) == (e : Int)) = false := by simp; omega
          clear hs2 hfin
          go_wp2_with fail
          go_ret2
          exact ⟨⟨_, by rw [HS2.out]; rfl, fun l h => by rw [HS2.out] at h; cases h⟩, hbel⟩
end Go.Proofs.YtnakljbginbenaaGreatDoor

/- The contracts of rdata.join and rdata.pieces. -/
namespace Go.Proofs.YtnakljbginbenaaGreatDoor
open Go.RowKit
set_option linter.unusedVariables false

/-- All pieces' bytes. -/
def cat (l : List (ByteArray × Bool)) : List UInt8 := l.flatMap fun p => p.1.data.toList
theorem cat_append (a b : List (ByteArray × Bool)) : cat (a ++ b) = cat a ++ cat b := List.flatMap_append
theorem cat_cons (a : ByteArray × Bool) (b : List (ByteArray × Bool)) : cat (a :: b) = a.1.data.toList ++ cat b := by simp [cat]
theorem cat_take (l : List (ByteArray × Bool)) (j : Nat) (hj : j < l.length) : cat (l.take (j + 1)) = cat (l.take j) ++ l[j].1.data.toList := by
  rw [List.take_succ_eq_append_getElem hj, cat_append, cat_cons]
  simp [cat]
theorem cat_le (l : List (ByteArray × Bool)) (j : Nat) : (cat (l.take j)).length ≤ (cat l).length := by
  have h : cat l = cat (l.take j) ++ cat (l.drop j) := by rw [← cat_append, List.take_append_drop]
  rw [h, List.length_append]
  omega
theorem Parts.cells {w : World} {A : Option Addr} {l : List (ByteArray × Bool)} (h : Parts w A l) {wr : World} (hb : Below w.heap.size w wr) (j : Nat) (hj : j < l.length) :
    ∃ b off, A = some ⟨b, off, none⟩ ∧ wr.cell? ⟨b, off + j * 2, none⟩ = some (.string l[j].1) ∧ wr.cell? ⟨b, off + j * 2 + 1, none⟩ = some (.bool l[j].2) ∧
      ∀ o, (wr.alloc o).cell? ⟨b, off + j * 2, none⟩ = some (.string l[j].1) ∧ (wr.alloc o).cell? ⟨b, off + j * 2 + 1, none⟩ = some (.bool l[j].2) := by
  obtain ⟨b, off, h1, h2, h3, h4⟩ := h j hj
  have k3 := (hb.cell (p := ⟨b, off + j * 2, none⟩) h2).trans h3
  have k4 := (hb.cell (p := ⟨b, off + j * 2 + 1, none⟩) h2).trans h4
  have hal : ∀ o, Below wr.heap.size wr (wr.alloc o) := fun o => (Below.refl _ wr).alloc (Nat.le_refl _) o
  have hlt : b < wr.heap.size := Nat.lt_of_lt_of_le h2 hb.size
  exact ⟨b, off, h1, k3, k4, fun o => ⟨((hal o).cell (p := ⟨b, off + j * 2, none⟩) hlt).trans k3, ((hal o).cell (p := ⟨b, off + j * 2 + 1, none⟩) hlt).trans k4⟩⟩

set_option maxRecDepth 100000 in
set_option maxHeartbeats 1000000 in
theorem join_any (A : Option Addr) (cap : Nat) (l : List (ByteArray × Bool)) (hl : l.length ≤ 1099511627776) (hc : (cat l).length ≤ 1099511627776) (w : World) (hP : Parts w A l) :
    Calls Tryz.prog 112 #[.slice A l.length cap] w fun e w' => e = .returned (.string ⟨(cat l).toArray⟩) ∧ Below w.heap.size w w' := by
  have HP := Lib.hid hP
  clear hP
  have H0 := Lib.hid ((Below.refl w.heap.size w).alloc (Nat.le_refl _) (Obj.cells #[Value.pointer none, Value.slice none 0 0] 168))
  have HN := Lib.hid (IsB.new w)
  have HC := Lib.hid hc
  clear hc
  go_enter Tryz.func112, Tryz.ntmps112
  go_wp2_with fail
  go_loopw [8] (fun i wr => ∃ j : Nat, j ≤ l.length ∧ i = .int .i64 j ∧ IsB w.heap.size w.heap.size (cat (l.take j)) wr ∧ Below w.heap.size w wr) (fun i _ => l.length - (intOf i).toNat)
  case atStart => exact ⟨0, Nat.zero_le _, rfl, HN.out, H0.out⟩
  case round =>
    obtain ⟨j, hj, rfl, hB, hbel⟩ := hrel
    have HB := Lib.hid hB
    clear hB
    by_cases hlt : j < l.length
    · obtain ⟨b, off, rfl, hc0, hc1, hcs⟩ := HP.out.cells hbel j hlt
      have hle := cat_le l (j + 1)
      rw [cat_take l j hlt, List.length_append, ba_len] at hle
      have HT := Lib.hid (cat_take l j hlt)
      have HLe := Lib.hid hle
      clear hle hcs
      generalize l[j].1 = X at *
      generalize l[j].2 = Y at *
      go_wp2_with fail
      refine (wstr w.heap.size w.heap.size (cat (l.take j)) X _ (HB.out.below ((Below.refl _ wr).alloc (Nat.le_refl _) _)) (by have := HLe.out; have := HC.out; omega) (by have := hbel.size; simp; omega)).mono ?_
      rintro e w1 ⟨rfl, hB1, hb1, _⟩
      have HB1 := Lib.hid hB1
      have HBel1 := Lib.hid ((balloc hbel _).trans hb1)
      clear hB1 hb1 hbel hc0 hc1
      go_wp2_with fail
      go_roundw
      case rel => exact ⟨j + 1, hlt, by go_num, by rw [HT.out]; exact HB1.out, HBel1.out⟩
      case measure => simp [intOf]; omega
    · have hall : cat (l.take j) = cat l := by rw [List.take_of_length_le (by omega)]
      have HA := Lib.hid hall
      clear hall
      go_wp2_with fail
      refine (bstr w.heap.size w.heap.size (cat (l.take j)) _ HB.out hbel.size).mono ?_
      rintro e w1 ⟨rfl, hb1⟩
      rw [HA.out]
      obtain ⟨R, hR⟩ : ∃ R, (⟨(cat l).toArray⟩ : ByteArray) = R := ⟨_, rfl⟩
      rw [hR]
      have HR := Lib.hid hR
      clear hR
      go_wp2_with fail
      go_ret
      exact ⟨by rw [HR.out]; rfl, hbel.trans hb1⟩

theorem rdB_size (s : ByteArray) (p e : Nat) (q : Int) : (rdB s p e q).size ≤ s.size + 255 := by
  unfold rdB
  split
  · rcases tk_cases s p with ⟨_, h, _⟩ | ⟨_, h, _⟩
    · rw [h]; exact Nat.zero_le _
    · have := (may_name h).size; omega
  · split
    · unfold rsS
      split
      · rw [ByteArray.size_extract]; omega
      · exact Nat.zero_le _
    · have := Oc.sx_size s p (rdM p e q); omega
theorem spl3_size {s : ByteArray} {e : Nat} : ∀ (qs : List Int) (p : Nat) (r : List (ByteArray × Bool) × Nat), spl3 s e p qs = some r → r.1.length = qs.length ∧ (cat r.1).length ≤ qs.length * (s.size + 255)
  | [], p, r, h => by
    rw [spl3] at h
    cases h
    exact ⟨rfl, Nat.zero_le _⟩
  | q :: qs, p, r, h => by
    rw [spl3] at h
    unfold rdP at h
    split at h
    · rename_i r' hr
      rw [Option.map_eq_some_iff] at h
      obtain ⟨x, hx, rfl⟩ := h
      obtain ⟨h1, h2⟩ := spl3_size qs _ x hx
      have h3 := rdB_size s p e q
      split at hr
      · cases hr
        refine ⟨by simp [h1], ?_⟩
        show (cat ((rdB s p e q, rdN q) :: x.1)).length ≤ _
        rw [cat_cons]
        show ((rdB s p e q).data.toList ++ cat x.1).length ≤ _
        rw [List.length_append, ba_len, List.length_cons, Nat.add_mul, Nat.one_mul]
        generalize qs.length * (s.size + 255) = z at *
        omega
      · cases hr
    · cases h
theorem spl_size {s : ByteArray} {p e k : Nat} {l : List (ByteArray × Bool)} (h : spl s p e k = some l) : l.length = 3 ∧ (cat l).length ≤ 3 * (s.size + 255) := by
  unfold spl at h
  split at h
  · cases h
  · split at h
    · rename_i r hr
      split at h
      · cases h
        exact spl3_size (lays k) p r hr
      · cases h
    · cases h
/-- rdata.pieces. -/
def pcs (k : Nat) (d : ByteArray) : Option (List (ByteArray × Bool)) := match spl d 0 d.size k with
  | some l => if cat l = d.data.toList then some l else none
  | none => none
def PcsPost (k : Nat) (d : ByteArray) (w : World) (en : Ending) (w' : World) : Prop :=
  (∃ v, en = .returned (.tuple #[v, .bool (pcs k d).isSome]) ∧ (pcs k d = none → v = .slice none 0 0) ∧ ∀ l, pcs k d = some l → Pcs w.heap.size v l w') ∧ Below w.heap.size w w'

set_option maxRecDepth 100000 in
set_option maxHeartbeats 1000000 in
theorem pieces_any (k : Nat) (d : ByteArray) (hd : d.size ≤ 1073741824) (hk : k < 65536) (w : World) (hL : Lay w) :
    Calls Tryz.prog 90 #[.int .u16 (k : Nat), .string d] w fun en w' => PcsPost k d w en w' := by
  have HL := Lib.hid hL
  clear hL
  go_enter Tryz.func90, Tryz.ntmps90
  go_wp2_with fail
  refine (split_any d 0 d.size k (by omega) (Nat.zero_le _) (Nat.le_refl _) hk _ HL.out).mono ?_
  rintro en w1 ⟨⟨v, rfl, hv⟩, hb1⟩
  cases hs : spl d 0 d.size k with
  | none =>
    have hn : pcs k d = none := by unfold pcs; rw [hs]
    have HN := Lib.hid hn
    clear hn hs hv
    go_wp2_with fail
    go_ret2
    exact ⟨⟨_, by rw [HN.out]; rfl, (fun _ => rfl), (fun l h => by rw [HN.out] at h; cases h)⟩, hb1⟩
  | some l =>
    have hP := hv l hs
    obtain ⟨A, cap, rfl⟩ := hP.form
    obtain ⟨hl, hc⟩ := spl_size hs
    have hp2 : pcs k d = if cat l = d.data.toList then some l else none := by unfold pcs; rw [hs]
    have HP := Lib.hid hP
    have HS := Lib.hid hp2
    have HSz := Lib.hid (And.intro (show l.length ≤ 1099511627776 by omega) (show (cat l).length ≤ 1099511627776 by omega))
    clear hp2 hs hv hP hl hc
    go_wp2_with fail
    refine (join_any A cap l HSz.out.1 HSz.out.2 _ HP.out.parts).mono ?_
    rintro en w2 ⟨rfl, hb2⟩
    have HP2 := Lib.hid (HP.out.below hb2)
    have HB2 := Lib.hid (bthen hb1 hb2)
    clear hb1 hb2 HP
    by_cases he : cat l = d.data.toList
    · have hn : pcs k d = some l := by rw [HS.out, if_pos he]
      have HN := Lib.hid hn
      have hb : ((⟨(cat l).toArray⟩ : ByteArray).toList == d.toList) = true := by rw [ByteArray.toList_eq, ByteArray.toList_eq, he]; simp
      generalize (⟨(cat l).toArray⟩ : ByteArray) = R at *
      clear hn he
      go_wp2_with fail
      go_ret2
      exact ⟨⟨_, by rw [HN.out]; rfl, (fun h => by rw [HN.out] at h; cases h), (fun l' h => by rw [HN.out] at h; cases h; exact HP2.out)⟩, HB2.out⟩
    · have hn : pcs k d = none := by rw [HS.out, if_neg he]
      have HN := Lib.hid hn
      have hb : ((⟨(cat l).toArray⟩ : ByteArray).toList == d.toList) = false := by rw [ByteArray.toList_eq, ByteArray.toList_eq]; simpa using he
      generalize (⟨(cat l).toArray⟩ : ByteArray) = R at *
      clear hn he
      go_wp2_with fail
      go_ret2
      exact ⟨⟨_, by rw [HN.out]; rfl, (fun _ => rfl), (fun l h => by rw [HN.out] at h; cases h)⟩, HB2.out⟩
end Go.Proofs.YtnakljbginbenaaGreatDoor

/- The contracts of rdata.May, rdata.Take and rdata.Target. -/
namespace Go.Proofs.YtnakljbginbenaaGreatDoor
open Go.RowKit
set_option linter.unusedVariables false

set_option maxHeartbeats 1000000 in
theorem rmay_any (k : Nat) (d : ByteArray) (hd : d.size ≤ 1073741824) (hk : k < 65536) (w : World) (hL : Lay w) :
    Calls Tryz.prog 58 #[.int .u16 (k : Nat), .string d] w fun en w' => en = .returned (.bool (pcs k d).isSome) ∧ Below w.heap.size w w' := by
  have HL := Lib.hid hL
  clear hL
  go_enter Tryz.func58, Tryz.ntmps58
  go_wp2_with fail
  refine (pieces_any k d hd hk _ HL.out).mono ?_
  rintro en w1 ⟨⟨v, rfl, _, _⟩, hb1⟩
  obtain ⟨R, hR⟩ : ∃ R, (pcs k d).isSome = R := ⟨_, rfl⟩
  rw [hR]
  have HR := Lib.hid hR
  clear hR
  go_wp2_with fail
  go_ret
  exact ⟨by rw [HR.out]; rfl, hb1⟩

/-- rdata.Take. -/
def tdO (s : ByteArray) (p m : Int) (k : Nat) : Option (List UInt8) := if Oc.okB s p m = true then (spl s p.toNat (p + m).toNat k).map cat else none
def tdS (s : ByteArray) (p m : Int) (k : Nat) : ByteArray := match tdO s p m k with | some l => ⟨l.toArray⟩ | none => ⟨#[]⟩
def tdE (s : ByteArray) (p m : Int) (k : Nat) : Int := match tdO s p m k with | some _ => 0 | none => 2
theorem td_some {s : ByteArray} {p m : Int} {k : Nat} {l : List UInt8} (h : tdO s p m k = some l) : tdS s p m k = ⟨l.toArray⟩ ∧ tdE s p m k = 0 := by unfold tdS tdE; rw [h]; exact ⟨rfl, rfl⟩
theorem td_none {s : ByteArray} {p m : Int} {k : Nat} (h : tdO s p m k = none) : tdS s p m k = ⟨#[]⟩ ∧ tdE s p m k = 2 := by unfold tdS tdE; rw [h]; exact ⟨rfl, rfl⟩

set_option maxRecDepth 100000 in
set_option maxHeartbeats 1000000 in
theorem rtake_any (s : ByteArray) (p m : Int) (k : Nat) (hs : s.size ≤ 1073741824) (hp : p ≤ maxLen) (hk : k < 65536) (w : World) (hL : Lay w) :
    Calls Tryz.prog 96 #[.string s, .int .i64 p, .int .i64 m, .int .u16 (k : Nat)] w fun en w' => en = .returned (.tuple #[.string (tdS s p m k), .int .i64 (tdE s p m k)]) ∧ Below w.heap.size w w' := by
  have HL := Lib.hid hL
  have hs' : s.size ≤ maxLen := by unfold maxLen; omega
  have HS := Lib.hid (And.intro hs' hp)
  clear hL hs' hp
  go_enter Tryz.func96, Tryz.ntmps96
  go_wp2_with fail
  refine (Oc.some_any s p m _ HS.out.1 HS.out.2).mono ?_
  rintro en w1 ⟨rfl, rfl⟩
  by_cases hok : Oc.okS s p m
  · have e1 : Oc.se s p m = 0 := by unfold Oc.se; rw [if_pos hok]
    have e2 : Oc.so s p m = ((p + m).toNat : Nat) := by unfold Oc.so; rw [if_pos hok]; unfold Oc.okS at hok; omega
    obtain ⟨P, rfl⟩ : ∃ P : Nat, p = P := ⟨p.toNat, by unfold Oc.okS at hok; omega⟩
    have ht : tdO s P m k = (spl s P ((P : Int) + m).toNat k).map cat := by unfold tdO; rw [if_pos (Oc.okB_yes hok)]; rfl
    have HT := Lib.hid ht
    have hpe : P ≤ s.size ∧ ((P : Int) + m).toNat ≤ s.size := by unfold Oc.okS at hok; omega
    have HPe := Lib.hid hpe
    rw [e1, e2]
    obtain ⟨E, hE⟩ : ∃ E, ((P : Int) + m).toNat = E := ⟨_, rfl⟩
    rw [hE] at HT HPe ⊢
    generalize Oc.sx s P m = X
    clear e1 e2 ht hpe hok hE
    go_wp2_with fail
    refine (split_any s P E k (by omega) HPe.out.1 HPe.out.2 hk _ HL.out).mono ?_
    rintro en w2 ⟨⟨v, rfl, hv⟩, hb2⟩
    cases hsp : spl s P E k with
    | none =>
      have hr := td_none (HT.out.trans (by rw [hsp]; rfl))
      have HR := Lib.hid hr
      clear hr hsp hv
      go_wp2_with fail
      go_ret2
      exact ⟨by rw [HR.out.1, HR.out.2]; rfl, hb2⟩
    | some l =>
      have hP := hv l hsp
      obtain ⟨A, cap, rfl⟩ := hP.form
      obtain ⟨hl, hc⟩ := spl_size hsp
      have hr := td_some (HT.out.trans (by rw [hsp]; rfl))
      have HR := Lib.hid hr
      have HP := Lib.hid hP
      have HSz := Lib.hid (And.intro (show l.length ≤ 1099511627776 by omega) (show (cat l).length ≤ 1099511627776 by omega))
      clear hsp hv hP hl hc hr
      go_wp2_with fail
      refine (join_any A cap l HSz.out.1 HSz.out.2 _ HP.out.parts).mono ?_
      rintro en w3 ⟨rfl, hb3⟩
      have HB := Lib.hid (bthen hb2 hb3)
      obtain ⟨R, hR⟩ : ∃ R, (⟨(cat l).toArray⟩ : ByteArray) = R := ⟨_, rfl⟩
      rw [hR]
      have HRR := Lib.hid hR
      clear hR hb2 hb3
      go_wp2_with fail
      go_ret2
      exact ⟨by rw [HR.out.1, HR.out.2, HRR.out]; rfl, HB.out⟩
  · have e1 : Oc.se s p m = 2 := by unfold Oc.se; rw [if_neg hok]
    have hr := td_none (s := s) (p := p) (m := m) (k := k) (by unfold tdO; rw [if_neg (by rw [Oc.okB_no hok]; decide)])
    have HR := Lib.hid hr
    rw [e1]
    generalize Oc.sx s p m = X
    generalize Oc.so s p m = Y
    clear e1 hr hok
    go_wp2_with fail
    go_ret2
    exact ⟨by rw [HR.out.1, HR.out.2]; rfl, Below.refl _ _⟩

/-- How many names there are, and the last one. -/
def nmC (l : List (ByteArray × Bool)) : Nat := (l.filter (·.2)).length
def nmL (l : List (ByteArray × Bool)) : ByteArray := match (l.filter (·.2)).getLast? with | some x => x.1 | none => ⟨#[]⟩
theorem nm_yes {l : List (ByteArray × Bool)} {j : Nat} (hj : j < l.length) (h : l[j].2 = true) : nmC (l.take (j + 1)) = nmC (l.take j) + 1 ∧ nmL (l.take (j + 1)) = l[j].1 := by
  have e : (l.take (j + 1)).filter (·.2) = (l.take j).filter (·.2) ++ [l[j]] := by rw [List.take_succ_eq_append_getElem hj, List.filter_append]; simp [h]
  unfold nmC nmL
  rw [e]
  simp
theorem nm_no {l : List (ByteArray × Bool)} {j : Nat} (hj : j < l.length) (h : l[j].2 = false) : nmC (l.take (j + 1)) = nmC (l.take j) ∧ nmL (l.take (j + 1)) = nmL (l.take j) := by
  have e : (l.take (j + 1)).filter (·.2) = (l.take j).filter (·.2) := by rw [List.take_succ_eq_append_getElem hj, List.filter_append]; simp [h]
  unfold nmC nmL
  rw [e]
  exact ⟨rfl, rfl⟩
/-- rdata.Target. -/
def tgL (k : Nat) (d : ByteArray) : List (ByteArray × Bool) := match pcs k d with | some l => l | none => []
def tgB (k : Nat) (d : ByteArray) : Bool := decide (nmC (tgL k d) = 1)
def tgS (k : Nat) (d : ByteArray) : ByteArray := if nmC (tgL k d) = 1 then nmL (tgL k d) else ⟨#[]⟩
theorem pcs_size {k : Nat} {d : ByteArray} {l : List (ByteArray × Bool)} (h : pcs k d = some l) : l.length = 3 ∧ cat l = d.data.toList := by
  unfold pcs at h
  split at h
  · rename_i l' hs
    split at h
    · rename_i hc
      cases h
      exact ⟨(spl_size hs).1, hc⟩
    · cases h
  · cases h

end Go.Proofs.YtnakljbginbenaaGreatDoor

/- The contract of rdata.Put. -/
namespace Go.Proofs.YtnakljbginbenaaGreatDoor
open Go.RowKit
set_option linter.unusedVariables false

theorem Pcs.kp {B : Nat} {v : Value} {L : List (ByteArray × Bool)} {w w' : World} (h : Pcs B v L w) (hk : Kp w w') : Pcs B v L w' := by
  refine ⟨h.1, ?_⟩
  rcases h.2 with hn | ⟨g, cap, cur, rfl, hb, hgg, rest⟩
  · exact .inl hn
  · exact .inr ⟨g, cap, cur, rfl, hb, hk g cur 154 (0, 0) (by decide) (by decide) hgg, rest⟩
/-- What the pieces make of a pack. -/
def putP (S : List UInt8) (L : Kn) : List (ByteArray × Bool) → List UInt8 × Kn
  | [] => (S, L)
  | x :: r => if x.2 = true then putP (stp S L x.1).1 (stp S L x.1).2 r else putP (S ++ x.1.data.toList) L r
theorem putP_snoc : ∀ (l : List (ByteArray × Bool)) (S : List UInt8) (L : Kn) (x : ByteArray × Bool), putP S L (l ++ [x]) = if x.2 = true then stp (putP S L l).1 (putP S L l).2 x.1 else ((putP S L l).1 ++ x.1.data.toList, (putP S L l).2)
  | [], S, L, x => by simp [putP]
  | y :: l, S, L, x => by
    rw [List.cons_append, putP, putP]
    split
    · rename_i h; exact putP_snoc l _ _ x
    · rename_i h; exact putP_snoc l _ _ x
theorem putP_take {l : List (ByteArray × Bool)} {j : Nat} (hj : j < l.length) (S : List UInt8) (L : Kn) : putP S L (l.take (j + 1)) = if l[j].2 = true then stp (putP S L (l.take j)).1 (putP S L (l.take j)).2 l[j].1 else ((putP S L (l.take j)).1 ++ l[j].1.data.toList, (putP S L (l.take j)).2) := by
  rw [List.take_succ_eq_append_getElem hj, putP_snoc]
def ptS (S : List UInt8) (L : Kn) (k : Nat) (d : ByteArray) : List UInt8 × Kn := match pcs k d with | some l => putP S L l | none => (S, L)
def ptE (k : Nat) (d : ByteArray) : Int := if (pcs k d).isSome = true then 0 else 1

set_option maxRecDepth 100000 in
set_option maxHeartbeats 1000000 in
theorem rput_any (B b : Nat) (S : List UInt8) (L : Kn) (k : Nat) (d : ByteArray) (hd : d.size ≤ 4194304) (hS : S.length ≤ 1073741824) (hk : k < 65536) (w : World) (hL : Lay w) (h : St B b S L w) (hB : B ≤ w.heap.size) :
    Calls Tryz.prog 80 #[.pointer (some ⟨b, 0, none⟩), .int .u16 (k : Nat), .string d] w fun en w' => en = .returned (.int .i64 (ptE k d)) ∧ St B b (ptS S L k d).1 (ptS S L k d).2 w' ∧ Below B w w' ∧ Kp w w' := by
  have HL := Lib.hid hL
  have HSt := Lib.hid h
  clear hL h
  go_enter Tryz.func80, Tryz.ntmps80
  go_wp2_with fail
  refine (pieces_any k d (by omega) hk _ HL.out).mono ?_
  rintro en w1 ⟨⟨v, rfl, hv0, hv⟩, hb1⟩
  cases hp : pcs k d with
  | none =>
    have HR := Lib.hid (show ptE k d = 1 ∧ ptS S L k d = (S, L) by unfold ptE ptS; rw [hp]; exact ⟨rfl, rfl⟩)
    have HB1 := Lib.hid hb1
    have HSt1 := Lib.hid (HSt.out.below hb1)
    clear hv0 hv hp hb1
    go_wp2_with fail
    go_ret
    exact ⟨by rw [HR.out.1]; rfl, by rw [HR.out.2]; exact HSt1.out, HB1.out.mono hB, Kp.below HB1.out⟩
  | some l =>
    have hP := hv l hp
    obtain ⟨A, cap, rfl⟩ := hP.form
    obtain ⟨hl3, hcat⟩ := pcs_size hp
    have hcs : (cat l).length ≤ 4194304 := by rw [hcat, ba_len]; exact hd
    have HR := Lib.hid (show ptE k d = 0 ∧ ptS S L k d = putP S L l by unfold ptE ptS; rw [hp]; exact ⟨rfl, rfl⟩)
    have HP := Lib.hid hP
    have HB1 := Lib.hid hb1
    have HSt1 := Lib.hid (HSt.out.below hb1)
    have HCs := Lib.hid (And.intro hcs (show l.length ≤ 3 by omega))
    clear hv0 hv hp hP hb1 hcat hl3 hcs HSt
    have hl3 := HCs.out.2
    go_wp2_with fail
    go_loopw [25] (fun i wr => ∃ j : Nat, j ≤ l.length ∧ i = .int .i64 j ∧ St B b (putP S L (l.take j)).1 (putP S L (l.take j)).2 wr ∧ (putP S L (l.take j)).1.length ≤ S.length + (cat (l.take j)).length ∧ Below B w wr ∧ Kp w wr ∧ Pcs w.heap.size (.slice A l.length cap) l wr ∧ w.heap.size ≤ wr.heap.size) (fun i _ => l.length - (intOf i).toNat)
    case atStart => exact ⟨0, Nat.zero_le _, rfl, HSt1.out, by simp [putP], HB1.out.mono hB, Kp.below HB1.out, HP.out, HB1.out.size⟩
    case round =>
      obtain ⟨j, hj, rfl, hst, hlen, hbel, hkp, hpc, hws⟩ := hrel
      by_cases hlt : j < l.length
      · obtain ⟨b', off, hA, hc0, hc1, hcs⟩ := hpc.parts.cells (Below.refl _ wr) j hlt
        subst hA
        have hle := cat_le l (j + 1)
        have hct := cat_take l j hlt
        rw [hct, List.length_append, ba_len] at hle
        have hpt := putP_take hlt S L
        have hxs : l[j].1.size ≤ 4194304 := by have := HCs.out.1; omega
        have hl0 : (putP S L (l.take j)).1.length ≤ 1073741824 + 4194304 := by have := HCs.out.1; omega
        have HAll := Lib.hid (And.intro hst (And.intro hbel (And.intro hkp (And.intro hpc hws))))
        have HLn := Lib.hid hlen
        have HCt := Lib.hid hct
        clear hct hst hbel hkp hpc hws hlen hle hcs
        cases hY : l[j].2 with
        | true =>
          rw [hY] at hc1 hpt
          rw [if_pos rfl] at hpt
          have HPt := Lib.hid hpt
          clear hpt hY
          generalize l[j].1 = X at *
          go_wp2_with fail
          refine (name_step B b (putP S L (l.take j)).1 (putP S L (l.take j)).2 X _ (HAll.out.1.below ((Below.refl _ wr).alloc (Nat.le_refl _) _)) (by have h1 := HAll.out.2.1.size; have := HAll.out.2.2.2.2; simp; omega) (by omega) (by omega)).mono ?_
          rintro en w2 ⟨rfl, hs2, hb2, hk2⟩
          have hal := (Below.refl wr.heap.size wr).alloc (Nat.le_refl _) (Obj.cells #[Value.string X, Value.bool true] 154)
          have HAll2 := Lib.hid (And.intro hs2 (And.intro ((HAll.out.2.1.alloc (by have := HAll.out.2.2.2.2; omega) _).trans hb2) (And.intro ((HAll.out.2.2.1.trans (Kp.below hal)).trans hk2) (And.intro ((HAll.out.2.2.2.1.below hal).kp hk2) (show w.heap.size ≤ w2.heap.size by have h1 := hb2.size; have h2 := HAll.out.2.2.2.2; simp at h1; omega)))))
          have hgr : (stp (putP S L (l.take j)).1 (putP S L (l.take j)).2 X).1.length ≤ (putP S L (l.take j)).1.length + X.size := by
            obtain ⟨Y, h1, h2, _⟩ := (stepped HAll.out.1.good X).1.app
            rw [h1, List.length_append]; omega
          have HGr := Lib.hid hgr
          clear hs2 hb2 hk2 hal hgr
          generalize stE X = E0
          go_wp2_with fail
          go_roundw
          case rel => exact ⟨j + 1, hlt, by go_num, by rw [HPt.out]; exact HAll2.out.1, by rw [HPt.out, HCt.out, List.length_append, ba_len]; have h1 := HGr.out; have h2 := HLn.out; omega, HAll2.out.2.1, HAll2.out.2.2.1, HAll2.out.2.2.2.1, HAll2.out.2.2.2.2⟩
          case measure => simp [intOf]; omega
        | false =>
          rw [hY] at hc1 hpt
          rw [if_neg (by decide)] at hpt
          have HPt := Lib.hid hpt
          clear hpt hY
          generalize l[j].1 = X at *
          go_wp2_with fail
          refine (add_step B b (putP S L (l.take j)).1 (putP S L (l.take j)).2 X _ (HAll.out.1.below ((Below.refl _ wr).alloc (Nat.le_refl _) _)) (by omega) (by have h1 := HAll.out.2.1.size; have := HAll.out.2.2.2.2; simp; omega)).mono ?_
          rintro en w2 ⟨rfl, hs2, hb2, hk2⟩
          have hal := (Below.refl wr.heap.size wr).alloc (Nat.le_refl _) (Obj.cells #[Value.string X, Value.bool false] 154)
          have HAll2 := Lib.hid (And.intro hs2 (And.intro ((HAll.out.2.1.alloc (by have := HAll.out.2.2.2.2; omega) _).trans hb2) (And.intro ((HAll.out.2.2.1.trans (Kp.below hal)).trans hk2) (And.intro ((HAll.out.2.2.2.1.below hal).kp hk2) (show w.heap.size ≤ w2.heap.size by have h1 := hb2.size; have h2 := HAll.out.2.2.2.2; simp at h1; omega)))))
          clear hs2 hb2 hk2 hal
          go_wp2_with fail
          go_roundw
          case rel => exact ⟨j + 1, hlt, by go_num, by rw [HPt.out]; exact HAll2.out.1, by rw [HPt.out, HCt.out, List.length_append, List.length_append]; have h2 := HLn.out; omega, HAll2.out.2.1, HAll2.out.2.2.1, HAll2.out.2.2.2.1, HAll2.out.2.2.2.2⟩
          case measure => simp [intOf]; omega
      · have hall : l.take j = l := List.take_of_length_le (by omega)
        rw [hall] at hst
        have HF := Lib.hid (And.intro hst (And.intro hbel hkp))
        clear hst hbel hkp hpc hall hlen hws
        go_wp2_with fail
        go_ret
        exact ⟨by rw [HR.out.1]; rfl, by rw [HR.out.2]; exact HF.out.1, HF.out.2.1, HF.out.2.2⟩

set_option maxHeartbeats 1000000 in
theorem rput_nil (k : Nat) (d : ByteArray) (hd : d.size ≤ 4194304) (hk : k < 65536) (w : World) (hL : Lay w) :
    Calls Tryz.prog 80 #[.pointer none, .int .u16 (k : Nat), .string d] w fun en w' => en = .returned (.int .i64 1) ∧ Below w.heap.size w w' := by
  have HL := Lib.hid hL
  clear hL
  go_enter Tryz.func80, Tryz.ntmps80
  go_wp2_with fail
  refine (pieces_any k d (by omega) hk _ HL.out).mono ?_
  rintro en w1 ⟨⟨v, rfl, hv0, hv⟩, hb1⟩
  generalize (pcs k d).isSome = Q
  clear hv0 hv
  go_wp2_with fail
  go_ret
  exact ⟨rfl, hb1⟩
end Go.Proofs.YtnakljbginbenaaGreatDoor

/- Plain mathematics of record data: the pieces of an encoding, type by type; what the program's parts say is what the document's words say. -/
namespace Go.Proofs.YtnakljbginbenaaGreatDoor
open Go

theorem ext_nil (s : ByteArray) (n : Nat) : s.extract n n = ⟨#[]⟩ := by
  apply ba_ext
  rw [extract_list, List.drop_take]
  simp
/-- No bytes. -/
def Zp : ByteArray × Bool := (⟨#[]⟩, false)
theorem rdP_name (s : ByteArray) (p e : Nat) : rdP s p e (-1) = (nm1 s p).map fun r => ((⟨r.1.toArray⟩, true), r.2) := by
  have e1 : rdE s p e (-1) = (tkE s p : Nat) := rfl
  have e2 : rdB s p e (-1) = tkS s p := rfl
  have e3 : rdX s p e (-1) = (tkX s p : Nat) := rfl
  have e4 : rdN (-1) = true := rfl
  unfold rdP
  rw [e1, e2, e3, e4]
  have hN : tkN s p = (tkB s p p).filter fun r => decide (r.1.length ≤ 255) := by unfold tkN; rw [if_pos (by omega)]; rfl
  unfold nm1 tkE tkS tkX
  rw [hN]
  cases (tkB s p p).filter fun r => decide (r.1.length ≤ 255) with
  | none => rfl
  | some r => rfl
theorem rdP_num (s : ByteArray) (p e n : Nat) : rdP s p e (n : Int) = if p + n ≤ s.size then some ((s.extract p (p + n), false), p + n) else none := by
  have h1 : ¬ (n : Int) = -1 := by omega
  have h2 : ¬ (n : Int) = -2 := by omega
  have h3 : ¬ (n : Int) = -3 := by omega
  have e1 : rdB s p e n = Oc.sx s p n := by unfold rdB rdM; rw [if_neg h1, if_neg h2, if_neg h3]
  have e2 : rdX s p e n = Oc.so s p n := by unfold rdX rdM; rw [if_neg h1, if_neg h2, if_neg h3]
  have e3 : rdE s p e n = Oc.se s p n := by unfold rdE rdM; rw [if_neg h1, if_neg h2, if_neg h3]
  have e4 : rdN n = false := by unfold rdN; simp [h1]
  unfold rdP
  rw [e1, e2, e3, e4]
  unfold Oc.se Oc.sx Oc.so
  by_cases h : p + n ≤ s.size
  · have hok : Oc.okS s p n := ⟨by omega, by omega, by omega⟩
    rw [if_pos h, if_pos hok, if_pos rfl, if_pos hok, if_pos hok]
    rfl
  · have hok : ¬ Oc.okS s p n := fun x => h (by have := x.2.2; omega)
    rw [if_neg h, if_neg hok, if_neg (by decide)]
theorem rdP_all (s : ByteArray) {p e : Nat} (h : p ≤ e) (he : e ≤ s.size) : rdP s p e (-3) = some ((s.extract p e, false), e) := by
  have e0 : rdM p e (-3) = ((e - p : Nat) : Int) := by show (e : Int) - p = _; omega
  have e1 : rdB s p e (-3) = Oc.sx s p (rdM p e (-3)) := rfl
  have e2 : rdX s p e (-3) = Oc.so s p (rdM p e (-3)) := rfl
  have e3 : rdE s p e (-3) = Oc.se s p (rdM p e (-3)) := rfl
  have e4 : rdN (-3) = false := rfl
  unfold rdP
  rw [e1, e2, e3, e4, e0]
  unfold Oc.se Oc.sx Oc.so
  have hok : Oc.okS s p ((e - p : Nat) : Int) := ⟨by omega, by omega, by omega⟩
  rw [if_pos hok, if_pos rfl, if_pos hok, if_pos hok, show ((p : Int) + ((e - p : Nat) : Int)).toNat = e by omega]
  rfl
theorem rdP_txt (s : ByteArray) (p e : Nat) : rdP s p e (-2) = (txG s p e).map fun q => ((s.extract p q, false), q) := by
  have e1 : rdE s p e (-2) = (rsE s p e : Nat) := rfl
  have e2 : rdB s p e (-2) = rsS s p e := rfl
  have e3 : rdX s p e (-2) = (rsX s p e : Nat) := rfl
  have e4 : rdN (-2) = false := rfl
  unfold rdP
  rw [e1, e2, e3, e4]
  unfold rsE rsS rsX
  cases txG s p e with
  | none => rfl
  | some q => rfl
theorem rdP_zero (s : ByteArray) {n : Nat} (e : Nat) (h : n ≤ s.size) : rdP s n e 0 = some (Zp, n) := by
  have := rdP_num s n e 0
  rw [Nat.add_zero, if_pos h, ext_nil] at this
  exact this
theorem spl3_z (s : ByteArray) {n : Nat} (e : Nat) (h : n ≤ s.size) : spl3 s e n [0] = some ([Zp], n) := by rw [spl3, rdP_zero s e h]; rfl
theorem spl3_zz (s : ByteArray) {n : Nat} (e : Nat) (h : n ≤ s.size) : spl3 s e n [0, 0] = some ([Zp, Zp], n) := by rw [spl3, rdP_zero s e h]; simp only; rw [spl3_z s e h]; rfl
theorem spl_of {s : ByteArray} {p e k : Nat} (h : e ≤ p + 65535) : spl s p e k = (spl3 s e p (lays k)).bind fun r => if r.2 = e then some r.1 else none := by
  unfold spl
  rw [if_neg (by omega)]
  cases spl3 s e p (lays k) <;> rfl
theorem spl_N {s : ByteArray} {p e k : Nat} (h : e ≤ p + 65535) (hk : isN k = true) : spl s p e k = (nm1 s p).bind fun r => if r.2 = e then some [(⟨r.1.toArray⟩, true), Zp, Zp] else none := by
  have hl : lays k = [-1, 0, 0] := by
    unfold isN at hk
    rw [decide_eq_true_iff] at hk
    unfold lays lay
    rw [if_neg (by omega), if_pos hk]
  rw [spl_of h, hl, spl3, rdP_name]
  cases hn : nm1 s p with
  | none => rfl
  | some r =>
    simp only [Option.map_some, Option.bind_some]
    rw [spl3_zz s e (nm1_is hn).2.2.1]
    simp
theorem spl_M {s : ByteArray} {p e : Nat} (h : e ≤ p + 65535) : spl s p e 15 = if p + 2 ≤ s.size then (nm1 s (p + 2)).bind fun r => if r.2 = e then some [(s.extract p (p + 2), false), (⟨r.1.toArray⟩, true), Zp] else none else none := by
  have hl : lays 15 = [((2 : Nat) : Int), -1, 0] := rfl
  rw [spl_of h, hl, spl3, rdP_num]
  by_cases h2 : p + 2 ≤ s.size
  · rw [if_pos h2, if_pos h2]
    simp only
    rw [spl3, rdP_name]
    cases hn : nm1 s (p + 2) with
    | none => rfl
    | some r =>
      simp only [Option.map_some, Option.bind_some]
      rw [spl3_z s e (nm1_is hn).2.2.1]
      simp
  · rw [if_neg h2, if_neg h2]
    rfl
theorem spl_S {s : ByteArray} {p e : Nat} (h : e ≤ p + 65535) : spl s p e 6 = (nm1 s p).bind fun r => (nm1 s r.2).bind fun q => if q.2 + 20 ≤ s.size ∧ q.2 + 20 = e then some [(⟨r.1.toArray⟩, true), (⟨q.1.toArray⟩, true), (s.extract q.2 (q.2 + 20), false)] else none := by
  have hl : lays 6 = [-1, -1, ((20 : Nat) : Int)] := rfl
  rw [spl_of h, hl, spl3, rdP_name]
  cases hn : nm1 s p with
  | none => rfl
  | some r =>
    simp only [Option.map_some, Option.bind_some]
    rw [spl3, rdP_name]
    cases hm : nm1 s r.2 with
    | none => rfl
    | some q =>
      simp only [Option.map_some, Option.bind_some]
      rw [spl3, rdP_num]
      by_cases h2 : q.2 + 20 ≤ s.size
      · rw [if_pos h2]
        simp only [spl3, Option.map_some, Option.bind_some, h2, true_and]
      · rw [if_neg h2, if_neg (fun x => h2 x.1)]
        rfl
theorem spl_T {s : ByteArray} {p e : Nat} (h : e ≤ p + 65535) : spl s p e 16 = (txG s p e).bind fun q => if q = e then some [(s.extract p q, false), Zp, Zp] else none := by
  have hl : lays 16 = [-2, 0, 0] := rfl
  rw [spl_of h, hl, spl3, rdP_txt]
  cases hn : txG s p e with
  | none => rfl
  | some q =>
    simp only [Option.map_some, Option.bind_some]
    rw [spl3_zz s e (txG_lt _ p (Nat.le_refl _) q hn).2.1]
    simp
theorem spl_F {s : ByteArray} {p e k n : Nat} (h : e ≤ p + 65535) (hl : lays k = [(n : Int), 0, 0]) : spl s p e k = if p + n ≤ s.size ∧ p + n = e then some [(s.extract p (p + n), false), Zp, Zp] else none := by
  rw [spl_of h, hl, spl3, rdP_num]
  by_cases h2 : p + n ≤ s.size
  · rw [if_pos h2]
    simp only
    rw [spl3_zz s e h2]
    simp [h2]
  · rw [if_neg h2, if_neg (fun x => h2 x.1)]
    rfl
theorem spl_O {s : ByteArray} {p e k : Nat} (h : e ≤ p + 65535) (h1 : p ≤ e) (he : e ≤ s.size) (hl : lays k = [-3, 0, 0]) : spl s p e k = some [(s.extract p e, false), Zp, Zp] := by
  rw [spl_of h, hl, spl3, rdP_all s h1 he]
  simp only
  rw [spl3_zz s e he]
  simp
/-- Which types there are. -/
theorem kinds (k : Nat) : isN k = true ∨ (isN k = false ∧ (k = 15 ∨ k = 6 ∨ k = 16 ∨ k = 1 ∨ k = 28 ∨ (k ≠ 15 ∧ k ≠ 6 ∧ k ≠ 16 ∧ k ≠ 1 ∧ k ≠ 28 ∧ lays k = [-3, 0, 0]))) := by
  cases hN : isN k with
  | true => exact .inl rfl
  | false =>
    right
    refine ⟨rfl, ?_⟩
    unfold isN at hN
    rw [decide_eq_false_iff_not] at hN
    by_cases h15 : k = 15
    · exact .inl h15
    · by_cases h6 : k = 6
      · exact .inr (.inl h6)
      · by_cases h16 : k = 16
        · exact .inr (.inr (.inl h16))
        · by_cases h1 : k = 1
          · exact .inr (.inr (.inr (.inl h1)))
          · by_cases h28 : k = 28
            · exact .inr (.inr (.inr (.inr (.inl h28))))
            · refine .inr (.inr (.inr (.inr (.inr ⟨h15, h6, h16, h1, h28, ?_⟩))))
              unfold lays lay
              rw [if_neg h1, if_neg hN, if_neg h6, if_neg h15, if_neg h16, if_neg h28]

theorem lsz_first {l : List UInt8} {s : ByteArray} {p e : Nat} (hp : p < e) (he : e ≤ s.size) (h : (s.data.toList.take e).drop p = l) : ∃ c r, l = c :: r ∧ c.toNat = lsz s p ∧ r = (s.data.toList.take e).drop (p + 1) ∧ r.length = e - (p + 1) := by
  have hd := lsz_drop (s := s) (p := p) (by omega)
  have hl : l.length = e - p := by rw [← h, List.length_drop, List.length_take, ba_len]; omega
  cases l with
  | nil => simp at hl; omega
  | cons c r =>
    refine ⟨c, r, rfl, ?_, ?_, by simp at hl; omega⟩
    · rw [List.drop_take, hd] at h
      have h2 := congrArg List.head? h
      rw [show e - p = (e - p - 1) + 1 by omega] at h2
      simp at h2
      rw [← h2, UInt8.toNat_ofNat', Nat.mod_eq_of_lt]
      have := lsz_le s p
      omega
    · have h2 := congrArg List.tail h
      rw [List.tail_drop] at h2
      exact h2.symm
/-- Strings up to an end, as the document tells them. -/
theorem txt_iff {s : ByteArray} {e : Nat} (he : e ≤ s.size) : ∀ (m p : Nat), e - p ≤ m → p ≤ e → (txG s p e = some e ↔ txtB ((s.data.toList.take e).drop p) = true) := by
  intro m
  induction m with
  | zero =>
    intro p hm hp
    have hpe : p = e := by omega
    subst hpe
    constructor
    · intro h
      have := (txG_lt _ p (Nat.le_refl _) p h).1
      omega
    · intro h
      rw [List.drop_of_length_le (by rw [List.length_take]; omega)] at h
      rw [txtB] at h
      cases h
  | succ m ih =>
    intro p hm hp
    by_cases hpe : p = e
    · subst hpe
      constructor
      · intro h
        have := (txG_lt _ p (Nat.le_refl _) p h).1
        omega
      · intro h
        rw [List.drop_of_length_le (by rw [List.length_take]; omega)] at h
        rw [txtB] at h
        cases h
    · obtain ⟨c, r, hl, hc, hr, hrl⟩ := lsz_first (s := s) (p := p) (e := e) (by omega) he rfl
      rw [hl, txtB, hc, hrl]
      by_cases h1 : p + 1 + lsz s p < e
      · rw [txG_go ⟨by omega, by omega⟩ h1, if_pos (by omega), if_neg (by omega), ih _ (by omega) (by omega), hr, List.drop_drop]
      · by_cases h2 : p + 1 + lsz s p = e
        · rw [txG_end ⟨by omega, by omega⟩ h1, if_pos (by omega), if_pos (by omega), h2]
          simp
        · rw [if_neg (by omega)]
          constructor
          · intro h
            exfalso
            by_cases h3 : p < s.size ∧ p + 1 + lsz s p ≤ s.size
            · rw [txG_end h3 h1] at h
              cases h
              exact h2 rfl
            · rw [txG_no h3] at h
              cases h
          · intro h; cases h
end Go.Proofs.YtnakljbginbenaaGreatDoor

/- Plain mathematics of record data: May, Put, Take and Target of the program are the document's. -/
namespace Go.Proofs.YtnakljbginbenaaGreatDoor
open Go

theorem ba_mk (d : ByteArray) : (⟨d.data.toList.toArray⟩ : ByteArray) = d := by apply ba_ext; rfl
theorem cat_3 (a b c : ByteArray × Bool) : cat [a, b, c] = a.1.data.toList ++ (b.1.data.toList ++ c.1.data.toList) := by simp [cat]
theorem zp_nil : Zp.1.data.toList = [] := rfl
theorem cat_zz (a : ByteArray × Bool) : cat [a, Zp, Zp] = a.1.data.toList := by rw [cat_3, zp_nil]; simp
theorem takeD_oth {s : ByteArray} {p m k : Nat} (hN : isN k = false) (h15 : k ≠ 15) (h6 : k ≠ 6) : takeD s p m k = if mayD k ⟨((s.data.toList.drop p).take m).toArray⟩ = true then some ((s.data.toList.drop p).take m) else none := by
  unfold takeD
  rw [if_neg (by rw [hN]; decide), if_neg h15, if_neg h6]
theorem mayD_16 (d : ByteArray) : mayD 16 d = (decide (d.size ≤ 65535) && txtB d.data.toList) := by
  unfold mayD
  rw [if_neg (by decide), if_neg (by decide), if_neg (by decide), if_neg (by decide), if_neg (by decide), if_pos rfl]
theorem mayD_1 (d : ByteArray) : mayD 1 d = (decide (d.size ≤ 65535) && decide (d.size = 4)) := by
  unfold mayD
  rw [if_pos rfl]
theorem mayD_28 (d : ByteArray) : mayD 28 d = (decide (d.size ≤ 65535) && decide (d.size = 16)) := by
  unfold mayD
  rw [if_neg (by decide), if_pos rfl]
theorem take_eq {s : ByteArray} {p m : Nat} (k : Nat) (hp : p + m ≤ s.size) (hm : m ≤ 65535) : (spl s p (p + m) k).map cat = takeD s p m k := by
  have he : p + m ≤ p + 65535 := by omega
  have hx : ∀ a b, (s.extract a b).data.toList = (s.data.toList.take b).drop a := fun a b => extract_list s a b
  have hdt : (s.data.toList.take (p + m)).drop p = (s.data.toList.drop p).take m := by rw [List.drop_take]; congr 1; omega
  have hlen : ((s.data.toList.drop p).take m).length = m := by rw [List.length_take, List.length_drop, ba_len]; omega
  rcases kinds k with hN | ⟨hN, h⟩
  · rw [spl_N he hN]
    unfold takeD
    rw [if_pos hN]
    cases nm1 s p with
    | none => rfl
    | some r =>
      simp only [Option.bind_some]
      by_cases h1 : r.2 = p + m
      · rw [if_pos h1, if_pos h1, Option.map_some, cat_zz]
      · rw [if_neg h1, if_neg h1]; rfl
  · have hN' : ¬ isN k = true := by rw [hN]; decide
    rcases h with rfl | rfl | rfl | rfl | rfl | ⟨h15, h6, h16, h1, h28, hl⟩
    · rw [spl_M he]
      unfold takeD
      rw [if_neg hN', if_pos rfl]
      by_cases hm3 : m < 3
      · rw [if_pos hm3]
        split
        · cases hn : nm1 s (p + 2) with
          | none => rfl
          | some r =>
            have := (nm1_is hn).2.1
            simp only [Option.bind_some]
            rw [if_neg (by omega)]
            rfl
        · rfl
      · rw [if_neg hm3, if_pos (by omega)]
        cases nm1 s (p + 2) with
        | none => rfl
        | some r =>
          simp only [Option.bind_some]
          by_cases h1 : r.2 = p + m
          · rw [if_pos h1, if_pos h1, Option.map_some, cat_3, zp_nil]
            simp only [hx, List.append_nil]
            rw [List.drop_take, show p + 2 - p = 2 by omega]
          · rw [if_neg h1, if_neg h1]; rfl
    · rw [spl_S he]
      unfold takeD
      rw [if_neg hN', if_neg (by decide), if_pos rfl]
      cases hn : nm1 s p with
      | none => rfl
      | some r =>
        simp only [Option.bind_some]
        cases hq : nm1 s r.2 with
        | none => split <;> rfl
        | some q =>
          have h1 := (nm1_is hq).2.1
          simp only [Option.bind_some]
          by_cases h2 : q.2 + 20 = p + m
          · rw [if_pos ⟨by omega, h2⟩, if_pos (by omega), if_pos ⟨by omega, by omega⟩, Option.map_some, cat_3]
            simp only [hx]
            rw [List.drop_take, show q.2 + 20 - q.2 = 20 by omega, List.append_assoc]
          · rw [if_neg (fun x => h2 x.2)]
            split
            · rw [if_neg (by omega)]; rfl
            · rfl
    · rw [spl_T he, takeD_oth hN (by decide) (by decide), mayD_16, mk_size, hlen]
      have hi := txt_iff hp _ p (Nat.le_refl _) (by omega)
      rw [hdt] at hi
      by_cases ht : txG s p (p + m) = some (p + m)
      · have h2 := hi.1 ht
        rw [ht]
        simp only [Option.bind_some, if_true, Option.map_some, cat_zz, hx, hdt]
        rw [if_pos (by rw [h2]; simpa using hm)]
      · have h2 : ¬ txtB ((s.data.toList.drop p).take m) = true := fun x => ht (hi.2 x)
        rw [show (if (decide (m ≤ 65535) && txtB ((s.data.toList.drop p).take m)) = true then some ((s.data.toList.drop p).take m) else none) = none from if_neg (by simp only [Bool.and_eq_true]; exact fun x => h2 x.2)]
        cases hq : txG s p (p + m) with
        | none => rfl
        | some q =>
          simp only [Option.bind_some]
          rw [if_neg (fun x => ht (by rw [hq, x]))]
          rfl
    · rw [spl_F he (n := 4) rfl, takeD_oth hN (by decide) (by decide), mayD_1, mk_size ((s.data.toList.drop p).take m), hlen]
      by_cases h4 : m = 4
      · subst h4
        rw [if_pos ⟨hp, rfl⟩, if_pos (by decide), Option.map_some, cat_zz, hx, hdt]
      · rw [if_neg (fun x => h4 (by omega)), if_neg (by simp [h4])]
        rfl
    · rw [spl_F he (n := 16) rfl, takeD_oth hN (by decide) (by decide), mayD_28, mk_size ((s.data.toList.drop p).take m), hlen]
      by_cases h4 : m = 16
      · subst h4
        rw [if_pos ⟨hp, rfl⟩, if_pos (by decide), Option.map_some, cat_zz, hx, hdt]
      · rw [if_neg (fun x => h4 (by omega)), if_neg (by simp [h4])]
        rfl
    · rw [spl_O he (by omega) hp hl, takeD_oth hN h15 h6]
      unfold mayD
      rw [if_neg h1, if_neg h28, if_neg hN', if_neg h15, if_neg h6, if_neg h16, mk_size, hlen, if_pos (by simpa using hm), Option.map_some, cat_zz, hx, hdt]

theorem nm_at {d n : ByteArray} {p : Nat} {R : List UInt8} (hm : mayB n = true) (h : d.data.toList.drop p = n.data.toList ++ R) : nm1 d p = some (n.data.toList, p + n.size) := by
  have hn := may_name hm
  have h2 : tkB d p p = some (wire (labs n), p + (wire (labs n)).length) := tkB_wire (labs n) p R hn.ok (by rw [← hn.eq]; exact h)
  rw [nm1_name hm h2, ← hn.eq, ba_len]
/-- The pieces of data. -/
def form (k : Nat) (d : ByteArray) : List (ByteArray × Bool) :=
  if isN k = true then [(d, true), Zp, Zp]
  else if k = 15 then [(d.extract 0 2, false), (d.extract 2 d.size, true), Zp]
  else if k = 6 then [(d.extract 0 (szN d), true), ((d.extract (szN d) d.size).extract 0 (szN (d.extract (szN d) d.size)), true), (d.extract (szN d + szN (d.extract (szN d) d.size)) d.size, false)]
  else [(d, false), Zp, Zp]
theorem form_cat (k : Nat) (d : ByteArray) : cat (form k d) = d.data.toList := by
  unfold form
  by_cases hN : isN k = true
  · rw [if_pos hN, cat_zz]
  · rw [if_neg hN]
    by_cases h15 : k = 15
    · rw [if_pos h15, cat_3, zp_nil]
      simp only [List.append_nil]
      rw [extract_list, extract_list, ← ba_len d, List.take_length, List.drop_zero, List.take_append_drop]
    · rw [if_neg h15]
      by_cases h6 : k = 6
      · rw [if_pos h6, cat_3]
        simp only
        rw [ext_list, ext_list, extract_list, extract_list, ← ba_len d, List.take_length, ← List.drop_drop, List.take_append_drop, List.take_append_drop]
      · rw [if_neg h6, cat_zz]
theorem pcs_form {k : Nat} {d : ByteArray} (h : mayD k d = true) : pcs k d = some (form k d) := by
  have h0 := h
  have hc := form_cat k d
  unfold mayD at h
  rw [Bool.and_eq_true, decide_eq_true_iff] at h
  obtain ⟨hsz, h⟩ := h
  have he : d.size ≤ 0 + 65535 := by omega
  suffices hs : spl d 0 d.size k = some (form k d) by unfold pcs; rw [hs]; simp only; rw [if_pos hc]
  clear hc h0
  have hd0 : d.data.toList.drop 0 = d.data.toList ++ [] := by simp
  have hself : d.extract 0 d.size = d := by apply ba_ext; rw [ext_list, ← ba_len, List.take_length]
  unfold form
  rcases kinds k with hN | ⟨hN, hk⟩
  · have h1 : k ≠ 1 := by unfold isN at hN; simp at hN; omega
    have h28 : k ≠ 28 := by unfold isN at hN; simp at hN; omega
    rw [if_neg h1, if_neg h28, if_pos hN] at h
    rw [if_pos hN, spl_N he hN, nm_at h hd0]
    simp only [Option.bind_some, Nat.zero_add, if_true]
  · have hN' : ¬ isN k = true := by rw [hN]; decide
    rw [if_neg hN']
    rcases hk with rfl | rfl | rfl | rfl | rfl | ⟨h15, h6, h16, h1, h28, hl⟩
    · rw [if_neg (by decide), if_neg (by decide), if_neg hN', if_pos rfl, Bool.and_eq_true, decide_eq_true_iff] at h
      have hx : (d.extract 2 d.size).data.toList = d.data.toList.drop 2 := by rw [extract_list, ← ba_len, List.take_length]
      have hsz2 : (d.extract 2 d.size).size = d.size - 2 := by rw [ByteArray.size_extract]; omega
      rw [if_pos rfl, spl_M he, if_pos (by omega), Nat.zero_add, nm_at (R := []) h.2 (by rw [hx]; simp)]
      simp only [Option.bind_some]
      rw [if_pos (by rw [hsz2]; omega), ba_mk]
    · rw [if_neg (by decide), if_neg (by decide), if_neg hN', if_neg (by decide), if_pos rfl] at h
      unfold soaB at h
      rw [decide_eq_true_iff] at h
      obtain ⟨ha, hb, hsum⟩ := h
      obtain ⟨a1, a2, a3⟩ := szN_pos ha
      obtain ⟨b1, b2, b3⟩ := szN_pos hb
      rw [if_neg (by decide), if_pos rfl, spl_S he]
      generalize szN (d.extract (szN d) d.size) = b at *
      generalize szN d = a at *
      have x1 : (d.extract 0 a).data.toList = d.data.toList.take a := ext_list d a
      have x2 : (d.extract a d.size).data.toList = d.data.toList.drop a := by rw [extract_list, ← ba_len, List.take_length]
      have x3 : ((d.extract a d.size).extract 0 b).data.toList = (d.data.toList.drop a).take b := by rw [ext_list, x2]
      have z1 : (d.extract 0 a).size = a := by rw [ByteArray.size_extract]; omega
      have z2 : ((d.extract a d.size).extract 0 b).size = b := by rw [← ba_len, x3, List.length_take, List.length_drop, ba_len]; omega
      rw [nm_at (n := d.extract 0 a) (R := d.data.toList.drop a) a3 (by rw [x1]; simp)]
      simp only [Option.bind_some, Nat.zero_add, z1]
      rw [nm_at (n := (d.extract a d.size).extract 0 b) (R := d.data.toList.drop (a + b)) b3 (by rw [x3, ← List.drop_drop, List.take_append_drop])]
      simp only [Option.bind_some, z2]
      rw [if_pos ⟨by omega, by omega⟩, ba_mk, ba_mk, ← hsum]
    · rw [if_neg (by decide), if_neg (by decide), if_neg hN', if_neg (by decide), if_neg (by decide), if_pos rfl] at h
      rw [if_neg (by decide), if_neg (by decide), spl_T he]
      have hi := (txt_iff (s := d) (Nat.le_refl _) _ 0 (Nat.le_refl _) (Nat.zero_le _)).2 (by rw [← ba_len, List.take_length, List.drop_zero]; exact h)
      rw [hi]
      simp only [Option.bind_some, if_true]
      rw [hself]
    · rw [if_pos rfl, decide_eq_true_iff] at h
      rw [if_neg (by decide), if_neg (by decide), spl_F he (n := 4) rfl, if_pos ⟨by omega, by omega⟩, Nat.zero_add, ← h, hself]
    · rw [if_neg (by decide), if_pos rfl, decide_eq_true_iff] at h
      rw [if_neg (by decide), if_neg (by decide), spl_F he (n := 16) rfl, if_pos ⟨by omega, by omega⟩, Nat.zero_add, ← h, hself]
    · rw [if_neg h15, if_neg h6, spl_O he (Nat.zero_le _) (Nat.le_refl _) hl, hself]
/-- P4.1: May. -/
theorem may_eq (k : Nat) (d : ByteArray) : (pcs k d).isSome = mayD k d := by
  cases h : mayD k d with
  | true => rw [pcs_form h]; rfl
  | false =>
    cases hp : pcs k d with
    | none => rfl
    | some l =>
      exfalso
      unfold pcs at hp
      cases hs : spl d 0 d.size k with
      | none => rw [hs] at hp; cases hp
      | some l' =>
        rw [hs] at hp
        simp only at hp
        split at hp
        · rename_i hc
          have hsz : d.size ≤ 65535 := by
            unfold spl at hs
            split at hs
            · cases hs
            · omega
          have ht := take_eq (s := d) (p := 0) (m := d.size) k (by omega) hsz
          rw [Nat.zero_add, hs, Option.map_some, hc] at ht
          have := takeD_may (by omega) ht.symm
          rw [ba_mk, h] at this
          cases this
        · cases hp
/-- P4.1: Put. -/
theorem put_eq (S : List UInt8) (L : Kn) (k : Nat) (d : ByteArray) : ptS S L k d = if mayD k d = true then putD S L k d else (S, L) := by
  have he := may_eq k d
  cases h : mayD k d with
  | false =>
    rw [h] at he
    cases hp : pcs k d with
    | none => unfold ptS; rw [hp]; rfl
    | some l => rw [hp] at he; cases he
  | true =>
    have hf := pcs_form h
    rw [if_pos rfl]
    unfold ptS
    rw [hf]
    simp only
    unfold form putD
    have hz : ∀ (S : List UInt8) (L : Kn), putP S L [Zp, Zp] = (S, L) := by intro S L; simp [putP, Zp]
    have hz1 : ∀ (S : List UInt8) (L : Kn), putP S L [Zp] = (S, L) := by intro S L; simp [putP, Zp]
    unfold mayD at h
    rw [Bool.and_eq_true, decide_eq_true_iff] at h
    obtain ⟨hsz, h⟩ := h
    by_cases hN : isN k = true
    · have h1 : k ≠ 1 := by unfold isN at hN; simp at hN; omega
      have h28 : k ≠ 28 := by unfold isN at hN; simp at hN; omega
      rw [if_neg h1, if_neg h28, if_pos hN] at h
      rw [if_pos hN, if_pos hN, putP, if_pos rfl, hz]
      unfold stp
      rw [if_pos h]
    · rw [if_neg hN, if_neg hN]
      by_cases h15 : k = 15
      · subst h15
        rw [if_neg (by decide), if_neg (by decide), if_neg hN, if_pos rfl, Bool.and_eq_true, decide_eq_true_iff] at h
        rw [if_pos rfl, if_pos rfl, putP, if_neg (fun x => by cases x), putP, if_pos rfl, hz1]
        unfold stp
        rw [if_pos h.2, ext_list]
      · rw [if_neg h15, if_neg h15]
        by_cases h6 : k = 6
        · subst h6
          rw [if_neg (by decide), if_neg (by decide), if_neg hN, if_neg (by decide), if_pos rfl] at h
          unfold soaB at h
          rw [decide_eq_true_iff] at h
          obtain ⟨ha, hb, hsum⟩ := h
          obtain ⟨a1, a2, a3⟩ := szN_pos ha
          obtain ⟨b1, b2, b3⟩ := szN_pos hb
          rw [if_pos rfl, if_pos rfl, putP, if_pos rfl, putP, if_pos rfl, putP, if_neg (fun x => by cases x), putP]
          simp only
          unfold stp
          rw [if_pos a3, if_pos b3, extract_list, ← ba_len d, List.take_length]
        · rw [if_neg h6, if_neg h6, putP, if_neg (fun x => by cases x), hz]
/-- P4.3: Target. -/
theorem tgt_eq (k : Nat) (d : ByteArray) : tgB k d = (tgtD k d).isSome ∧ tgS k d = (tgtD k d).getD ⟨#[]⟩ := by
  unfold tgB tgS tgtD
  cases h : mayD k d with
  | false =>
    have he := may_eq k d
    rw [h] at he
    have hl : tgL k d = [] := by
      unfold tgL
      cases hp : pcs k d with
      | none => rfl
      | some l => rw [hp] at he; cases he
    rw [hl, if_neg (by decide), if_neg (by decide)]
    exact ⟨rfl, rfl⟩
  | true =>
    have hl : tgL k d = form k d := by unfold tgL; rw [pcs_form h]
    rw [hl, if_pos rfl]
    unfold form
    have c1 : ∀ x : ByteArray, nmC [(x, true), Zp, Zp] = 1 ∧ nmL [(x, true), Zp, Zp] = x := fun x => ⟨rfl, rfl⟩
    have c2 : ∀ x y : ByteArray, nmC [(x, false), (y, true), Zp] = 1 ∧ nmL [(x, false), (y, true), Zp] = y := fun x y => ⟨rfl, rfl⟩
    have c3 : ∀ x y z : ByteArray, nmC [(x, true), (y, true), (z, false)] = 2 := fun x y z => rfl
    have c4 : ∀ x : ByteArray, nmC [(x, false), Zp, Zp] = 0 := fun x => rfl
    by_cases hN : isN k = true
    · rw [if_pos hN, if_pos hN, (c1 d).1, (c1 d).2]
      exact ⟨rfl, rfl⟩
    · rw [if_neg hN, if_neg hN]
      by_cases h15 : k = 15
      · rw [if_pos h15, if_pos h15, (c2 _ _).1, (c2 _ _).2]
        exact ⟨rfl, rfl⟩
      · rw [if_neg h15, if_neg h15]
        by_cases h6 : k = 6
        · rw [if_pos h6, c3]
          exact ⟨rfl, rfl⟩
        · rw [if_neg h6, c4]
          exact ⟨rfl, rfl⟩
end Go.Proofs.YtnakljbginbenaaGreatDoor

/- The walk of derricklaw04.RdataVery: what is taken may be; with a byte more, or less, it isn't; a target is a name. -/
namespace Go.Proofs.YtnakljbginbenaaGreatDoor
open Go.RowKit
set_option linter.unusedVariables false

theorem tdO_eq {s : ByteArray} {p m k : Nat} (hm : m ≤ 65535) : tdO s p m k = if p + m ≤ s.size then takeD s p m k else none := by
  unfold tdO
  by_cases h : p + m ≤ s.size
  · rw [if_pos h, if_pos (Oc.okB_yes ⟨by omega, by omega, by omega⟩), show ((p : Int) + (m : Int)).toNat = p + m by omega]
    exact take_eq k h hm
  · rw [if_neg h, if_neg (by rw [Oc.okB_no (fun x => h (by have := x.2.2; omega))]; decide)]
theorem tdO_neg {s : ByteArray} {p k : Nat} {m : Int} (hm : m < 0) : tdO s p m k = none := by
  unfold tdO
  rw [if_neg (by rw [Oc.okB_no (fun x => by have := x.2.1; omega)]; decide)]
theorem td_may {s : ByteArray} {p m k : Nat} (hm : m ≤ 65535) {l : List UInt8} (h : tdO s p m k = some l) : mayD k ⟨l.toArray⟩ = true ∧ takeD s p m k = some l ∧ p + m ≤ s.size := by
  rw [tdO_eq hm] at h
  split at h
  · rename_i hp
    exact ⟨takeD_may hp h, h, hp⟩
  · cases h
theorem td_more {s : ByteArray} {p m k : Nat} (hm : m < 256) (hf : fixedD k = true) {l : List UInt8} (h : tdO s p m k = some l) : tdE s p ((m : Int) + 1) k = 2 ∧ tdE s p ((m : Int) - 1) k = 2 := by
  obtain ⟨_, h1, hp⟩ := td_may (by omega) h
  refine ⟨(td_none ?_).2, (td_none ?_).2⟩
  · rw [show (m : Int) + 1 = ((m + 1 : Nat) : Int) by omega, tdO_eq (by omega)]
    split
    · rename_i hp2
      exact takeD_exact hf hp hp2 h1 (by omega)
    · rfl
  · by_cases h0 : m = 0
    · subst h0
      exact tdO_neg (by omega)
    · rw [show (m : Int) - 1 = ((m - 1 : Nat) : Int) by omega, tdO_eq (by omega)]
      split
      · rename_i hp2
        exact takeD_exact hf hp hp2 h1 (by omega)
      · rfl
theorem fixed_or (k : Nat) : (k ≠ 1 ∧ k ≠ 28 ∧ k ≠ 2 ∧ k ≠ 5 ∧ k ≠ 12 ∧ k ≠ 15 ∧ k ≠ 6) ∨ k = 1 ∨ k = 28 ∨ k = 2 ∨ k = 5 ∨ k = 12 ∨ k = 15 ∨ k = 6 := by omega
theorem tg_cases (k : Nat) (d : ByteArray) : (tgB k d = false ∧ tgS k d = ⟨#[]⟩) ∨ (tgB k d = true ∧ mayB (tgS k d) = true ∧ (tgS k d).size ≤ d.size) := by
  obtain ⟨h1, h2⟩ := tgt_eq k d
  cases h : tgtD k d with
  | none => rw [h] at h1 h2; exact .inl ⟨h1, h2⟩
  | some n =>
    rw [h] at h1 h2
    obtain ⟨a, b⟩ := tgtD_name h
    refine .inr ⟨h1, ?_, ?_⟩
    · rw [h2]; exact a
    · rw [h2]; exact b

end Go.Proofs.YtnakljbginbenaaGreatDoor
