/- Items (derrickref11.Item) in memory; the contracts of derrickref11.less, Del, At, Next. Made ahead for stage 11 at a practice seat: look at the type numbers. -/
import Derived.Test.YtdhahienhlknoaaWha
import Derived.WalkKit
import Derived.WalkSpells
import Derived.WalkLawsBesides
import Derived.Lib.Hide
import Derived.Deep.QuietTactic
import Derived.BigQuiet
import Derived.Laws.IdiomStrings
import Derived.Deep.Draws
import Derived.OpenShut
import Derived.Lib.AppendZeros
import Derived.Laws.AppendOwnNone
import Derived.Lib.SliceRun
import Derived.Lib.Walk
import Derived.Deep.RegionLaw
import Derived.Deep.RegionWith
import Derived.Laws.OwnMore
import Derived.Laws.ResultCell
import Derived.RegionTactic
import Derived.Deep.DeepCutAuto
import Derived.Below
import Derived.Laws.Rows
import Derived.Laws.Tables
import Derived.Deep.RegionHeld3
namespace Go.Proofs.Ytdhahienhlknoaa
open Go.RowKit
set_option linter.unusedVariables false

theorem heap_lt {w : World} {g : Nat} {o : Obj} (h : w.heap[g]? = some o) : g < w.heap.size := (Array.getElem?_eq_some_iff.1 h).1
theorem blk_cell {w : World} {b : Nat} {cs : Array Value} {t : TypeId} (h : w.heap[b]? = some (.cells cs t (0, 0))) (i : Nat) : w.cell? ⟨b, i, none⟩ = cs[i]? := cell_of_row w b i cs t (0, 0) h
theorem el_of {t : TypeId} {z : Value} {a b : Nat} (h : (Try.prog.info? t).map (fun i => (i.zero, i.size, i.bytes)) = some (some z, a, b)) : ∃ i, Try.prog.info? t = some i ∧ i.zero = some z ∧ i.size = a ∧ i.bytes = b := by
  rw [Option.map_eq_some_iff] at h
  obtain ⟨i, h1, h2⟩ := h
  simp only [Prod.mk.injEq] at h2
  exact ⟨i, h1, h2.1, h2.2.1, h2.2.2⟩
theorem ownR_form {w : World} {B : Nat} {e : TypeId} {k : Nat} {v : Value} {n : Nat} {xs : List Value} (h : w.ownsRow B e k v n xs) : ∃ A cap, v = .slice A n cap := by
  rcases h.2 with ⟨rfl, rfl⟩ | ⟨g, cap, cur, rfl, _⟩
  · exact ⟨none, 0, rfl⟩
  · exact ⟨_, cap, rfl⟩
theorem ownR_below {w w' : World} {B : Nat} {e : TypeId} {k : Nat} {v : Value} {n : Nat} {xs : List Value} (h : w.ownsRow B e k v n xs) (hb : Below w.heap.size w w') : w'.ownsRow B e k v n xs := by
  refine ⟨h.1, ?_⟩
  rcases h.2 with h1 | ⟨g, cap, cur, h1, h2, h3, h4⟩
  · exact .inl h1
  · exact .inr ⟨g, cap, cur, h1, h2, (hb.block g (heap_lt h3)).trans h3, h4⟩
def zI : Value := .agg #[.int .i64 0, .int .u64 0]
theorem elIt : (Try.prog.info? 62).map (fun i => (i.zero, i.size, i.bytes)) = some (some zI, 2, 16) := by kernel_rfl
/-- The cells of an item. -/
def tf (x : Ti) : List Value := [.int .i64 x.id, .int .u64 (x.t : Nat)]
theorem tf_len (l : List Ti) : (l.flatMap tf).length = l.length * 2 := by
  induction l with
  | nil => rfl
  | cons a l ih => rw [List.flatMap_cons, List.length_append, ih, List.length_cons]; simp [tf]; omega
theorem tf_at : ∀ (l : List Ti) (j i : Nat) (hj : j < l.length), i < 2 → (l.flatMap tf)[j * 2 + i]? = (tf l[j])[i]?
  | [], j, i, hj, _ => absurd hj (by simp)
  | a :: l, 0, i, hj, hi => by
    rw [List.flatMap_cons, List.getElem?_append_left (by simp [tf]; omega)]
    simp
  | a :: l, j + 1, i, hj, hi => by
    rw [List.flatMap_cons, List.getElem?_append_right (by simp [tf]; omega), show (j + 1) * 2 + i - (tf a).length = j * 2 + i by simp [tf]; omega]
    simpa using tf_at l j i (by simpa using hj) hi
theorem tf_one (l : List Ti) : ∀ u ∈ l.flatMap tf, u.oneCell' = true := fun u hu => by
  obtain ⟨r, _, hr⟩ := List.mem_flatMap.1 hu
  simp only [tf, List.mem_cons, List.not_mem_nil, or_false] at hr
  rcases hr with rfl | rfl <;> rfl
/-- A slice of items. -/
structure Ss (w : World) (A : Option Addr) (cap : Nat) (l : List Ti) : Prop where
  nl : A = Option.none → cap = 0
  le : l.length ≤ cap
  has : l = [] ∨ ∃ b off, A = some ⟨b, off, none⟩ ∧ b < w.heap.size ∧ ∀ j u, (l.flatMap tf)[j]? = some u → w.cell? ⟨b, off + j, none⟩ = some u
section
variable {w w' : World} {A : Option Addr} {cap : Nat} {l : List Ti}
theorem Ss.nil (w : World) : Ss w Option.none 0 [] := ⟨fun _ => rfl, Nat.le_refl _, .inl rfl⟩
theorem Ss.below (h : Ss w A cap l) (hb : Below w.heap.size w w') : Ss w' A cap l := by
  refine ⟨h.nl, h.le, ?_⟩
  rcases h.has with h1 | ⟨b, off, h1, h2, h3⟩
  · exact .inl h1
  · exact .inr ⟨b, off, h1, Nat.lt_of_lt_of_le h2 hb.size, fun j u hj => (hb.cell (p := ⟨b, off + j, Option.none⟩) h2).trans (h3 j u hj)⟩
theorem Ss.at (h : Ss w A cap l) (j : Nat) (hj : j < l.length) : ∃ b off, A = some ⟨b, off, Option.none⟩ ∧ b < w.heap.size ∧ w.cell? ⟨b, off + j * 2, Option.none⟩ = some (.int .i64 l[j].id) ∧ w.cell? ⟨b, off + j * 2 + 1, Option.none⟩ = some (.int .u64 (l[j].t : Nat)) := by
  rcases h.has with h1 | ⟨b, off, h1, h2, h3⟩
  · rw [h1] at hj; cases hj
  · refine ⟨b, off, h1, h2, ?_, ?_⟩
    · exact h3 (j * 2) _ (tf_at l j 0 hj (by omega))
    · rw [Nat.add_assoc]
      exact h3 (j * 2 + 1) _ (tf_at l j 1 hj (by omega))
theorem Ss.own {B : Nat} {v : Value} (h : w.ownsRow B 62 2 v l.length (l.flatMap tf)) : ∃ A cap, v = .slice A l.length cap ∧ Ss w A cap l := by
  rcases h.2 with ⟨hv, hn⟩ | ⟨g, cap, cur, hv, hB, hg, hc, hm, hz, ht⟩
  · obtain rfl : l = [] := List.eq_nil_of_length_eq_zero hn
    exact ⟨Option.none, 0, hv, Ss.nil w⟩
  · refine ⟨_, cap, hv, (fun h => by cases h), hc, .inr ⟨g, 0, rfl, heap_lt hg, fun j u hj => ?_⟩⟩
    rw [← ht, List.getElem?_take] at hj
    rw [cell_of_row w g (0 + j) cur _ (0, 0) hg, Nat.zero_add]
    split at hj
    · simpa using hj
    · cases hj
end
theorem newT (W : World) (x : Ti) : ∀ j u, (tf x)[j]? = some u → (W.alloc (.cells #[.int .i64 x.id, .int .u64 (x.t : Nat)] 62)).cell? ((⟨W.heap.size, 0, none⟩ : Addr).add j) = some u := fun j u hj => by
  have h := heap_alloc_new W (Obj.cells #[.int .i64 x.id, .int .u64 (x.t : Nat)] 62)
  rw [Addr.add_lit, Nat.zero_add, blk_cell h j, ← hj]
  simp [tf]
theorem flat_snoc (l : List Ti) (x : Ti) : (l ++ [x]).flatMap tf = l.flatMap tf ++ tf x := by rw [List.flatMap_append]; simp

set_option maxHeartbeats 1000000 in
theorem less_any (a b : Ti) (w : World) : Calls Try.prog 28 #[.agg #[.int .i64 a.id, .int .u64 (a.t : Nat)], .agg #[.int .i64 b.id, .int .u64 (b.t : Nat)]] w fun e w' => e = .returned (.bool (decide (ltT a b))) ∧ Below w.heap.size w w' := by
  have hb1 := (Below.refl w.heap.size w).alloc (Nat.le_refl _) (Obj.cells #[.int .i64 a.id, .int .u64 (a.t : Nat)] 62)
  have HB := Lib.hid (hb1.alloc hb1.size (Obj.cells #[.int .i64 b.id, .int .u64 (b.t : Nat)] 62))
  have HX := Lib.hid (show decide (ltT a b) = (decide (a.t < b.t) || (decide (a.t = b.t) && decide (a.id < b.id))) by rw [Bool.eq_iff_iff, decide_eq_true_eq]; unfold ltT; simp)
  obtain ⟨ai, at'⟩ := a
  obtain ⟨bi, bt⟩ := b
  simp only at HB HX ⊢
  clear hb1
  by_cases h1 : at' < bt
  · have d1 : decide ((at' : Int) < (bt : Nat)) = true := by simp; omega
    have HY := Lib.hid (show decide (ltT ⟨ai, at'⟩ ⟨bi, bt⟩) = true from HX.out.trans (by simp [h1]))
    rw [HY.out]
    go_enter Try.func28, Try.ntmps28
    go_wp2_with fail
    go_ret
    exact ⟨rfl, HB.out⟩
  · have d1 : decide ((at' : Int) < (bt : Nat)) = false := by simp; omega
    by_cases h2 : at' = bt
    · subst h2
      have HY := Lib.hid (show decide (ltT ⟨ai, at'⟩ ⟨bi, at'⟩) = decide (ai < bi) from HX.out.trans (by simp))
      rw [HY.out]
      clear h1
      go_enter Try.func28, Try.ntmps28
      go_wp2_with fail
      go_ret
      exact ⟨rfl, HB.out⟩
    · have d2 : decide ((at' : Int) = (bt : Nat)) = false := by simp; omega
      have d3 : ((at' : Int) == (bt : Nat)) = false := by simp; omega
      have HY := Lib.hid (show decide (ltT ⟨ai, at'⟩ ⟨bi, bt⟩) = false from HX.out.trans (by simp [h1, h2]))
      rw [HY.out]
      go_enter Try.func28, Try.ntmps28
      go_wp2_with fail
      go_ret
      exact ⟨rfl, HB.out⟩

theorem delL_take (l : List Ti) (id : Int) (j : Nat) (hj : j < l.length) : delL (l.take (j + 1)) id = if l[j].id = id then delL (l.take j) id else delL (l.take j) id ++ [l[j]] := by
  unfold delL
  rw [List.take_add_one, List.getElem?_eq_getElem hj, List.filter_append]
  by_cases h : l[j].id = id
  · simp [h]
  · simp [h]
/-- Is there such an id? -/
def hasL (l : List Ti) (id : Int) : Bool := l.any fun x => x.id == id
theorem hasL_take (l : List Ti) (id : Int) (j : Nat) (hj : j < l.length) : hasL (l.take (j + 1)) id = (hasL (l.take j) id || decide (l[j].id = id)) := by
  unfold hasL
  rw [List.take_add_one, List.getElem?_eq_getElem hj, List.any_append]
  simp [Bool.beq_eq_decide_eq]

set_option maxRecDepth 100000 in
set_option maxHeartbeats 2000000 in
theorem rdel_any (A : Option Addr) (cap : Nat) (l : List Ti) (id : Int) (hl : l.length ≤ 1000) (w : World) (hI : Ss w A cap l) : Calls Try.prog 22 #[.slice A l.length cap, .int .i64 id] w fun e w' => ∃ A' c', e = .returned (.tuple #[.slice A' (delL l id).length c', .bool (hasL l id)]) ∧ Ss w' A' c' (delL l id) ∧ Below w.heap.size w w' := by
  obtain ⟨i0, hi, hz0, hz1, hz2⟩ := el_of elIt
  have HI := Lib.hid hI
  clear hI
  go_enter Try.func22, Try.ntmps22
  go_wp2_with fail
  go_loopw [6, 7, 8] (fun v y x wr => ∃ j : Nat, j ≤ l.length ∧ x = .int .i64 j ∧ y = .bool (hasL (l.take j) id) ∧ wr.ownsRow w.heap.size 62 2 v (delL (l.take j) id).length ((delL (l.take j) id).flatMap tf) ∧ Below w.heap.size w wr) (fun _ _ x _ => l.length - (intOf x).toNat)
  case atStart => exact ⟨0, Nat.zero_le _, rfl, rfl, World.ownsRow_nil _ _ _ _, Below.refl _ _⟩
  case round =>
    obtain ⟨j, hj, rfl, rfl, hown, hbel⟩ := hrel
    obtain ⟨Av, cv, rfl⟩ := ownR_form hown
    by_cases hlt : j < l.length
    · have d1 : decide ((j : Int) < (l.length : Nat)) = true := by simp; omega
      obtain ⟨b, off, rfl, hb, c0, c1⟩ := (HI.out.below hbel).at j hlt
      have s0 : (0 : Int) ≤ (j : Nat) := by omega
      have s1 : (j : Int) < (l.length : Nat) := by omega
      have ht := delL_take l id j hlt
      have hh := hasL_take l id j hlt
      have hle : (delL (l.take j) id).length ≤ 1000 := Nat.le_trans (List.length_filter_le _ _) (by rw [List.length_take]; omega)
      generalize l[j] = r at *
      by_cases e : r.id = id
      · rw [if_pos e] at ht
        rw [decide_eq_true e, Bool.or_true] at hh
        have HT := Lib.hid (And.intro ht hh)
        have HO := Lib.hid (And.intro hown hbel)
        have e1 : decide (r.id = id) = true := by simpa using e
        rw [e] at c0
        clear ht hh hown hbel e1
        go_wp2_with fail
        go_roundw
        case rel => exact ⟨j + 1, hlt, by go_num, by rw [HT.out.2], by rw [HT.out.1]; exact HO.out.1, HO.out.2⟩
        case measure => simp [intOf]; omega
      · rw [if_neg e] at ht
        rw [decide_eq_false e, Bool.or_false] at hh
        have e1 : decide (r.id = id) = false := by simpa using e
        have e2 : (r.id == id) = false := by simpa using e
        have ho3 := hown.alloc (Obj.cells #[.int .i64 r.id, .int .u64 (r.t : Nat)] 62)
        have hb3 := hbel.alloc hbel.size (Obj.cells #[.int .i64 r.id, .int .u64 (r.t : Nat)] 62)
        have HT := Lib.hid (And.intro ht hh)
        have HO3 := Lib.hid ho3
        have HB3 := Lib.hid hb3
        have HFl := Lib.hid (flat_snoc (delL (l.take j) id) r)
        clear ht hh hown hbel ho3 hb3
        generalize delL (l.take j) id = L at *
        go_wp2_with (at_builtin; (refine wpList_append_own _ rfl _ _ 27 rfl w.heap.size 62 i0 zI 2 16 Try.underlying27 hi hz0 hz1 hz2 rfl (by decide) _ _ _ rfl HO3.out ⟨wr.heap.size, 0, none⟩ 1 1 (tf r) rfl rfl (newT wr r) ?q3 ?q4 ?q5 HB3.out.size ?_))
        case q3 => intro u hu; simp [tf] at hu; rcases hu with rfl | rfl <;> rfl
        case q4 => unfold maxLen; omega
        case q5 => omega
        intro v' w3 hown2 hgrow hnil
        have hb4 := HB3.out.grown hgrow HB3.out.size (fun k hk => (HO3.out.lt k hk).1)
        rw [← HFl.out, show L.length + 1 = (L ++ [r]).length by simp, ← HT.out.1] at hown2
        have HF := Lib.hid (And.intro hown2 hb4)
        clear hown2 hgrow hnil hb4
        go_wp2_with fail
        go_roundw
        case rel => exact ⟨j + 1, hlt, by go_num, by rw [HT.out.2], HF.out.1, HF.out.2⟩
        case measure => simp [intOf]; omega
    · obtain rfl : j = l.length := by omega
      have d1 : decide ((l.length : Int) < (l.length : Nat)) = false := by simp
      rw [List.take_length] at hown ⊢
      obtain ⟨A2, c2, h2, hS⟩ := Ss.own hown
      cases h2
      have HF := Lib.hid (And.intro hS hbel)
      clear hown hbel hS
      go_wp2_with fail
      go_ret2
      exact ⟨Av, cv, rfl, HF.out.1, HF.out.2⟩
end Go.Proofs.Ytdhahienhlknoaa
