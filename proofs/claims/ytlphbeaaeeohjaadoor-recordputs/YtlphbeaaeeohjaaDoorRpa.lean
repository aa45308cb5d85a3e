/- The contract of rdata.partsOf: the parts of the data of a type. -/
import Derived.Test.YtlphbeaaeeohjaaDoorOcd
import Derived.Test.YtlphbeaaeeohjaaDoorNmn
import Derived.Deep.MidRow
namespace Go.Proofs.YtlphbeaaeeohjaaDoor
open Go.RowKit
set_option linter.unusedVariables false

/-- The table's rows. -/
def layR : Nat → Int × Int × Int × Int
  | 0 => (1, 4, 0, 0)
  | 1 => (2, -1, 0, 0)
  | 2 => (5, -1, 0, 0)
  | 3 => (6, -1, -1, 20)
  | 4 => (12, -1, 0, 0)
  | 5 => (15, 2, -1, 0)
  | 6 => (16, -2, 0, 0)
  | _ => (28, 16, 0, 0)
def rowV (i : Nat) : List Value := [.int .u16 (layR i).1, .int .i64 (layR i).2.1, .int .i64 (layR i).2.2.1, .int .i64 (layR i).2.2.2]
def layC : List Value := (List.range 8).flatMap rowV
/-- The parts of the data of a type. -/
def lay (k : Nat) : Int × Int × Int :=
  if k = 1 then (4, 0, 0) else if k = 2 ∨ k = 5 ∨ k = 12 then (-1, 0, 0) else if k = 6 then (-1, -1, 20) else if k = 15 then (2, -1, 0) else if k = 16 then (-2, 0, 0) else if k = 28 then (16, 0, 0) else (-3, 0, 0)
/-- The table lies in memory. -/
def Lay (w : World) : Prop := ∃ t f, w.heap[0]? = some (.cells layC.toArray t f)
theorem lay_lt {w : World} (h : Lay w) : 0 < w.heap.size := by
  obtain ⟨t, f, h⟩ := h
  exact (Array.getElem?_eq_some_iff.1 h).1
theorem Lay.below {w w' : World} {B : Nat} (h : Lay w) (hB : 0 < B) (hb : Below B w w') : Lay w' := by
  obtain ⟨t, f, h⟩ := h
  exact ⟨t, f, (hb.block 0 hB).trans h⟩
theorem Lay.range {w : World} (h : Lay w) : w.rangeAt 0 0 layC := by
  obtain ⟨t, f, h⟩ := h
  intro j v hv
  rw [cell_of_row w 0 (0 + j) _ t f h]
  simpa using hv
theorem lay_load {w : World} (h : Lay w) : (Instr.loadAt 153 (.pointer (some ⟨0, 0, none⟩))).run Tryd.prog w = .ok (.agg layC.toArray) w :=
  run_loadAt_mid w 0 0 153 layC _ h.range Tryd.underlying153 rfl (by kernel_rfl)

theorem lay_index (j : Nat) (hj : j < 8) (w : World) : (Instr.index 153 (.agg layC.toArray) (.int .i64 (j : Nat))).run Tryd.prog w = .ok (.agg #[.int .u16 (layR j).1, .int .i64 (layR j).2.1, .int .i64 (layR j).2.2.1, .int .i64 (layR j).2.2.2]) w := by
  rcases (by omega : j = 0 ∨ j = 1 ∨ j = 2 ∨ j = 3 ∨ j = 4 ∨ j = 5 ∨ j = 6 ∨ j = 7) with rfl | rfl | rfl | rfl | rfl | rfl | rfl | rfl <;> kernel_rfl
theorem lay_row (j k : Nat) (hj : j < 8) (h : (layR j).1 = (k : Int)) : lay k = (layR j).2 := by
  rcases (by omega : j = 0 ∨ j = 1 ∨ j = 2 ∨ j = 3 ∨ j = 4 ∨ j = 5 ∨ j = 6 ∨ j = 7) with rfl | rfl | rfl | rfl | rfl | rfl | rfl | rfl <;> (simp only [layR] at h; have h := Int.ofNat.inj h.symm; subst h; rfl)
theorem lay_else (k : Nat) (h : ∀ x, x < 8 → (layR x).1 ≠ (k : Int)) : lay k = (-3, 0, 0) := by
  have h0 := h 0 (by omega)
  have h1 := h 1 (by omega)
  have h2 := h 2 (by omega)
  have h3 := h 3 (by omega)
  have h4 := h 4 (by omega)
  have h5 := h 5 (by omega)
  have h6 := h 6 (by omega)
  have h7 := h 7 (by omega)
  simp only [layR] at h0 h1 h2 h3 h4 h5 h6 h7
  unfold lay
  rw [if_neg (by omega), if_neg (by omega), if_neg (by omega), if_neg (by omega), if_neg (by omega), if_neg (by omega)]

theorem info81 : (Tryd.prog.info? 143).map (·.size) = some 3 := by kernel_rfl
theorem ret_parts {w : World} {fn : Func} {p : Tmp} {R : Ending → World → Prop} {a : Act} {g : Nat} {x y z : Value} (h : fn.results = #[.cell p 143]) (hp : a.tmps.getD p undef = .pointer (some ⟨g, 0, none⟩)) (hd : a.defers = [])
    (hg : w.heap[g]? = some (.cells #[x, y, z] 143 (0, 0))) (hR : R (.returned (.agg #[x, y, z])) w) : bodyPost Tryd.prog fn R .ret a w :=
  bodyPost_ret (results_cell_row h _ w g 143 #[x, y, z] (0, 0) _ hp hg Tryd.underlying143 rfl info81) hd hR
theorem one3 (b c d : Int) : (#[Value.int .i64 b, .int .i64 c, .int .i64 d] : Array Value).all (·.oneCell') = true := by kernel_rfl
theorem setRow_below {B g : Nat} {w0 w : World} (hb : Below B w0 w) (hBg : B ≤ g) (cs : Array Value) : Below B w0 (w.setRow g cs) :=
  ⟨hb.os, hb.tape, hb.output, by rw [setRow_size]; exact hb.size, fun k hk => by rw [setRow_other w g k cs (by omega)]; exact hb.block k hk⟩

set_option maxRecDepth 100000 in
set_option maxHeartbeats 1000000 in
theorem parts_any (k : Nat) (hk : k < 65536) (w : World) (hL : Lay w) :
    Calls Tryd.prog 92 #[.int .u16 (k : Nat)] w fun e w' => e = .returned (.agg #[.int .i64 (lay k).1, .int .i64 (lay k).2.1, .int .i64 (lay k).2.2]) ∧ Below w.heap.size w w' := by
  have HL := Lib.hid hL
  have hR : ∀ o, (w.alloc o).rangeAt 0 0 layC := fun o => (HL.out.below (lay_lt HL.out) ((Below.refl _ w).alloc (Nat.le_refl _) o)).range
  have hI : (Tryd.prog.info? 153).map (·.size) = some layC.length := by kernel_rfl
  have HR := Lib.hid hR
  have HI := Lib.hid hI
  clear hL hR hI
  go_enter Tryd.func92, Tryd.ntmps92
  go_wp2_with (refine wpList_load_mid rfl 153 _ rfl 0 0 rfl layC _ (HR.out _) Tryd.underlying153 rfl HI.out ?_)
  have H0 := Lib.hid ((Below.refl w.heap.size w).alloc (Nat.le_refl _) (Obj.cells #[Value.int IntKind.i64 0, Value.int IntKind.i64 0, Value.int IntKind.i64 0] 143))
  have HN := Lib.hid (World.alloc_heap_new w (Obj.cells #[Value.int IntKind.i64 0, Value.int IntKind.i64 0, Value.int IntKind.i64 0] 143))
  generalize hw1 : w.alloc (Obj.cells #[Value.int IntKind.i64 0, Value.int IntKind.i64 0, Value.int IntKind.i64 0] 143) = w1 at H0 HN ⊢
  have hIx := fun (j : Nat) (hj : j < 8) => lay_index j hj
  generalize layC.toArray = C at hIx ⊢
  have HX := Lib.hid hIx
  clear HR HI HL hw1 hIx
  go_loopw [6] (fun i wr => ∃ j : Nat, j ≤ 8 ∧ i = .int .i64 j ∧ (∀ x, x < j → (layR x).1 ≠ (k : Int)) ∧ wr.heap[w.heap.size]? = some (.cells #[Value.int IntKind.i64 0, Value.int IntKind.i64 0, Value.int IntKind.i64 0] 143) ∧ Below w.heap.size w wr) (fun i _ => 8 - (intOf i).toNat)
  case atStart => exact ⟨0, Nat.zero_le _, rfl, (fun x hx => by cases hx), HN.out, H0.out⟩
  case round =>
    obtain ⟨j, hj, rfl, hno, hcell, hbel⟩ := hrel
    by_cases hlt : j < 8
    · have HNO := Lib.hid hno
      have HC := Lib.hid hcell
      have hix := HX.out j hlt
      have hrow := lay_row j k hlt
      obtain ⟨a, ha⟩ : ∃ a, (layR j).1 = a := ⟨_, rfl⟩
      obtain ⟨b, hb⟩ : ∃ b, (layR j).2.1 = b := ⟨_, rfl⟩
      obtain ⟨c, hc⟩ : ∃ c, (layR j).2.2.1 = c := ⟨_, rfl⟩
      obtain ⟨d, hd⟩ : ∃ d, (layR j).2.2.2 = d := ⟨_, rfl⟩
      rw [ha, hb, hc, hd] at hix
      rw [ha] at hrow
      clear hno hcell
      by_cases he : a = (k : Int)
      · have HR := Lib.hid (show (lay k).1 = b ∧ (lay k).2.1 = c ∧ (lay k).2.2 = d by rw [hrow he]; exact ⟨hb, hc, hd⟩)
        subst he
        clear hrow ha hb hc hd HNO
        have HC1 := Lib.hid (fun o => ((((Below.refl _ wr).alloc (Nat.le_refl _) o).block w.heap.size (Array.getElem?_eq_some_iff.1 HC.out).1).trans HC.out))
        have HB1 := Lib.hid (fun o => hbel.alloc hbel.size o)
        clear hbel
        go_wp2_with (refine wpList_store_row rfl 143 _ _ rfl w.heap.size #[.int .i64 b, .int .i64 c, .int .i64 d] rfl rfl 143 _ (HC1.out _) info81 rfl (one3 _ _ _) ?_)
        refine ret_parts (g := w.heap.size) (x := .int .i64 b) (y := .int .i64 c) (z := .int .i64 d) rfl rfl rfl ?_ ?_
        · exact setRow_heap _ _ _ _ _ _ (HC1.out _)
        · exact ⟨by rw [HR.out.1, HR.out.2.1, HR.out.2.2], setRow_below (HB1.out _) (Nat.le_refl _) _⟩
      · have hbne : (a == (k : Int)) = false := by simpa using he
        have HE := Lib.hid (And.intro ha he)
        have HC1 := Lib.hid (fun o => ((((Below.refl _ wr).alloc (Nat.le_refl _) o).block w.heap.size (Array.getElem?_eq_some_iff.1 HC.out).1).trans HC.out))
        have HB1 := Lib.hid (fun o => hbel.alloc hbel.size o)
        clear hrow ha hb hc hd he hbel
        go_wp2_with fail
        go_roundw
        case rel => exact ⟨j + 1, hlt, rfl, (fun x hx => by
          by_cases hxj : x < j
          · exact HNO.out x hxj
          · have : x = j := by omega
            rw [this, HE.out.1]; exact HE.out.2), HC1.out _, HB1.out _⟩
        case measure => simp [intOf]; omega
    · have HE := Lib.hid (lay_else k (fun x hx => hno x (by omega)))
      have HC := Lib.hid hcell
      clear hno hcell
      go_wp2_with (refine wpList_store_row rfl 143 _ _ rfl w.heap.size #[.int .i64 (-3), .int .i64 0, .int .i64 0] rfl rfl 143 _ HC.out info81 rfl (one3 _ _ _) ?_)
      refine ret_parts (g := w.heap.size) (x := .int .i64 (-3)) (y := .int .i64 0) (z := .int .i64 0) rfl rfl rfl ?_ ?_
      · exact setRow_heap _ _ _ _ _ _ HC.out
      · exact ⟨by rw [HE.out], setRow_below hbel (Nat.le_refl _) _⟩
end Go.Proofs.YtlphbeaaeeohjaaDoor
