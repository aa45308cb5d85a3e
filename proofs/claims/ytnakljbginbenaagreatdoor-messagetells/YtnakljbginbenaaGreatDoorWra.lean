/- The contracts of derrickref03.Add and known. -/
import Derived.Test.YtnakljbginbenaaGreatDoorWbk
import Derived.Deep.RegionLaw
import Derived.Laws.ResultCell
namespace Go.Proofs.YtnakljbginbenaaGreatDoor
open Go.RowKit
set_option linter.unusedVariables false

theorem infoP : (Tryz.prog.info? 94).map (·.size) = some 2 := by kernel_rfl
theorem load_pack (w : World) (g : Nat) (a b : Value) (hg : w.heap[g]? = some (.cells #[a, b] 94 (0, 0))) : (loadVar 94 ⟨g, 0, none⟩).run Tryz.prog w = .ok (.agg #[a, b]) w :=
  run_loadVar_row w g 94 94 #[a, b] (0, 0) _ hg Tryz.underlying94 rfl infoP
theorem ret_pack {w : World} {fn : Func} {p : Tmp} {R : Ending → World → Prop} {a : Act} {g : Nat} {x y : Value} (h : fn.results = #[.cell p 94]) (hp : a.tmps.getD p undef = .pointer (some ⟨g, 0, none⟩)) (hd : a.defers = [])
    (hg : w.heap[g]? = some (.cells #[x, y] 94 (0, 0))) (hR : R (.returned (.agg #[x, y])) w) : bodyPost Tryz.prog fn R .ret a w :=
  bodyPost_ret (results_cell_row h _ w g 94 #[x, y] (0, 0) _ hp hg Tryz.underlying94 rfl infoP) hd hR
theorem ret_pack2 {w : World} {fn : Func} {p u : Tmp} {R : Ending → World → Prop} {a : Act} {g : Nat} {x y z : Value} (h : fn.results = #[.cell p 94, .tmp u]) (hp : a.tmps.getD p undef = .pointer (some ⟨g, 0, none⟩)) (hu : a.tmps.getD u undef = z) (hd : a.defers = [])
    (hg : w.heap[g]? = some (.cells #[x, y] 94 (0, 0))) (hR : R (.returned (.tuple #[.agg #[x, y], z])) w) : bodyPost Tryz.prog fn R .ret a w := by
  refine bodyPost_ret (v := .tuple #[.agg #[x, y], z]) ?_ hd hR
  rw [results_cell_tmp h, hp, hu]
  simp [asAddr, Result.andThen, load_pack w g x y hg]

theorem radd_any (x s : ByteArray) (v : Value) (A : Option Addr) (n cap : Nat) (hv : v = .slice A n cap) (hl : x.size + s.size ≤ 140737488355328) (w : World) :
    Calls Tryz.prog 86 #[.agg #[.string x, v], .string s] w fun e w' => e = .returned (.agg #[.string (x ++ s), v]) ∧ Below w.heap.size w w' := by
  subst hv
  have hcat : ¬ 9223372036854775807 < x.size + s.size := by omega
  go_enter Tryz.func86, Tryz.ntmps86
  go_wp2_with fail
  refine ret_pack rfl rfl rfl (heap_alloc2_new w _ _) ⟨rfl, ?_⟩
  exact ((Below.refl _ w).alloc (Nat.le_refl _) _).alloc (by simp) _

/-- The cells of places. -/
def plCells (L : Kn) : List Value := L.flatMap fun p => [.string ⟨p.1.toArray⟩, .int .i64 (p.2 : Nat)]
theorem plCells_len (L : Kn) : (plCells L).length = L.length * 2 := by
  induction L with
  | nil => rfl
  | cons p L ih => simp only [plCells, List.flatMap_cons, List.length_append, List.length_cons, List.length_nil] at ih ⊢; omega
theorem plCells_at : ∀ (L : Kn) (j : Nat) (h : j < L.length), (plCells L)[j * 2]? = some (.string ⟨L[j].1.toArray⟩) ∧ (plCells L)[j * 2 + 1]? = some (.int .i64 (L[j].2 : Nat))
  | p :: L, 0, _ => ⟨rfl, rfl⟩
  | p :: L, j + 1, h => by
    have := plCells_at L j (by simpa using h)
    simp only [plCells, List.flatMap_cons] at this ⊢
    rw [List.getElem?_append_right (by simp; omega), List.getElem?_append_right (by simp; omega)]
    simp only [List.length_cons, List.length_nil, List.getElem_cons_succ]
    rw [show (j + 1) * 2 - (0 + 1 + 1) = j * 2 by omega, show (j + 1) * 2 + 1 - (0 + 1 + 1) = j * 2 + 1 by omega]
    exact this
/-- A slice of places of the call's own. -/
def Plc (B : Nat) (v : Value) (L : Kn) (w : World) : Prop := w.ownsRow B 157 2 v L.length (plCells L)
theorem Plc.kp {B : Nat} {v : Value} {L : Kn} {w w' : World} (h : Plc B v L w) (hk : Kp w w') : Plc B v L w' := by
  refine ⟨h.1, ?_⟩
  rcases h.2 with hn | ⟨g, cap, cur, rfl, hb, hgg, rest⟩
  · exact .inl hn
  · exact .inr ⟨g, cap, cur, rfl, hb, hk g cur 157 (0, 0) (by decide) (by decide) hgg, rest⟩
theorem Plc.below {B : Nat} {v : Value} {L : Kn} {w w' : World} (h : Plc B v L w) (hb : Below w.heap.size w w') : Plc B v L w' := h.kp (Kp.below hb)
theorem Plc.form {B : Nat} {v : Value} {L : Kn} {w : World} (h : Plc B v L w) : ∃ A cap, v = .slice A L.length cap := by
  rcases h.2 with ⟨rfl, h0⟩ | ⟨g, cap, cur, rfl, _⟩
  · exact ⟨none, 0, by rw [h0]⟩
  · exact ⟨_, _, rfl⟩
theorem Plc.at {B : Nat} {A : Option Addr} {n cap : Nat} {L : Kn} {w : World} (h : Plc B (.slice A n cap) L w) (j : Nat) (hj : j < L.length) : ∃ g, A = some ⟨g, 0, none⟩ ∧ g < w.heap.size ∧ w.cell? ⟨g, j * 2, none⟩ = some (.string ⟨L[j].1.toArray⟩) ∧ w.cell? ⟨g, j * 2 + 1, none⟩ = some (.int .i64 (L[j].2 : Nat)) := by
  rcases h.2 with ⟨hv, h0⟩ | ⟨g, cap', cur, hv, hb, hgg, hle, _, hcs, htk⟩
  · omega
  · cases hv
    obtain ⟨h1, h2⟩ := plCells_at L j hj
    have hc : ∀ i u, (plCells L)[i]? = some u → w.cell? ⟨g, i, none⟩ = some u := fun i u hu => by
      have := World.ownsRow.cells h (g := g) rfl i u hu
      unfold Addr.add at this
      split at this
      · rename_i h0; subst h0; exact this
      · simpa using this
    exact ⟨g, rfl, heap_lt hgg, hc _ _ h1, hc _ _ h2⟩
/-- derrickref03.known's result. -/
def knI (L : Kn) (k : List UInt8) : Int := match fnd L k with | some a => (a : Nat) | none => -1
theorem fnd_here {L : Kn} {k : List UInt8} {j : Nat} (hj : j < L.length) (hno : fnd (L.take j) k = none) (h : L[j].1 = k) : fnd L k = some L[j].2 := by
  have e : L = L.take j ++ (L[j] :: L.drop (j + 1)) := by rw [List.getElem_cons_drop hj, List.take_append_drop]
  generalize L[j] = p at *
  rw [e, fnd_append, hno]
  simp [fnd, h]

set_option maxRecDepth 100000 in
set_option maxHeartbeats 1000000 in
theorem known_any (B : Nat) (x n : ByteArray) (v : Value) (L : Kn) (w : World) (hL : L.length ≤ 1099511627776) (hP : Plc B v L w) :
    Calls Tryz.prog 107 #[.agg #[.string x, v], .string n] w fun e w' => e = .returned (.int .i64 (knI L n.data.toList)) ∧ Below w.heap.size w w' := by
  obtain ⟨A, cap, rfl⟩ := hP.form
  have hbel : ∀ o, Below w.heap.size w (w.alloc o) := fun o => (Below.refl _ w).alloc (Nat.le_refl _) o
  have HB := Lib.hid hbel
  clear hbel
  go_enter Tryz.func107, Tryz.ntmps107
  go_wp2_with fail
  go_loop [5] (fun i => ∃ k : Nat, k ≤ L.length ∧ i = .int .i64 k ∧ fnd (L.take k) n.data.toList = none) (fun i => L.length - (intOf i).toNat)
  case atStart => exact ⟨0, Nat.zero_le _, rfl, rfl⟩
  case round =>
    obtain ⟨k, hk, rfl, hno⟩ := hrel
    by_cases hlt : k < L.length
    · obtain ⟨g, rfl, hgl, hc0, hc1⟩ := hP.at k hlt
      have hd0 : ∀ o, (w.alloc o).cell? ⟨g, k * 2, none⟩ = some (.string ⟨L[k].1.toArray⟩) := fun o => ((HB.out o).cell (p := ⟨g, k * 2, none⟩) hgl).trans hc0
      have hd1 : ∀ o, (w.alloc o).cell? ⟨g, k * 2 + 1, none⟩ = some (.int .i64 (L[k].2 : Nat)) := fun o => ((HB.out o).cell (p := ⟨g, k * 2 + 1, none⟩) hgl).trans hc1
      by_cases he : L[k].1 = n.data.toList
      · have hf := fnd_here hlt hno he
        have hkn : knI L n.data.toList = (L[k].2 : Nat) := by unfold knI; rw [hf]
        have hb : ((⟨L[k].1.toArray⟩ : ByteArray).toList == n.toList) = true := by rw [ByteArray.toList_eq, ByteArray.toList_eq, he]; simp
        have HK := Lib.hid hkn
        obtain ⟨X, hX⟩ : ∃ X : ByteArray, ⟨L[k].1.toArray⟩ = X := ⟨_, rfl⟩
        rw [hX] at hd0 hb
        generalize L[k].2 = a2 at *
        clear hf hkn he hno hc0 hc1 hX
        go_wp2_with fail
        go_ret
        exact ⟨by rw [HK.out]; rfl, HB.out _⟩
      · have hnext : fnd (L.take (k + 1)) n.data.toList = none := by
          rw [List.take_succ_eq_append_getElem hlt, fnd_append, hno]
          exact fnd_none fun p hp e => he (by rw [List.mem_singleton.1 hp] at e; exact e)
        have hb : ((⟨L[k].1.toArray⟩ : ByteArray).toList == n.toList) = false := by
          rw [ByteArray.toList_eq, ByteArray.toList_eq]
          simpa using he
        have HN := Lib.hid hnext
        obtain ⟨X, hX⟩ : ∃ X : ByteArray, ⟨L[k].1.toArray⟩ = X := ⟨_, rfl⟩
        rw [hX] at hd0 hb
        clear hnext he hno hc0 hc1 hX hd1
        go_wp2_with fail
        go_round
        case rel => exact ⟨k + 1, hlt, by go_num, HN.out⟩
        case measure => simp [intOf]; omega
    · have hkn : knI L n.data.toList = -1 := by
        unfold knI
        rw [List.take_of_length_le (by omega)] at hno
        rw [hno]
      have HK := Lib.hid hkn
      clear hkn hno
      go_wp2_with fail
      go_ret
      exact ⟨by rw [HK.out]; rfl, HB.out _⟩
end Go.Proofs.YtnakljbginbenaaGreatDoor
