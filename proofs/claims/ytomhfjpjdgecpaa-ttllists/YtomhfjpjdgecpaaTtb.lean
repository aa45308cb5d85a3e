/- Lists of records, and what ttl does to them: contracts of slices.Clone, times, Least, With, and of the document's. -/
import Derived.Test.YtomhfjpjdgecpaaTta
import Derived.Lib.AppendZeros
import Derived.Laws.AppendOwnNone
import Derived.Lib.SliceRun
import Derived.Lib.Walk
import Derived.Deep.RegionLaw
import Derived.Deep.RegionWith
import Derived.Laws.OwnMore
import Derived.Laws.ResultCell
namespace Go.Proofs.Ytomhfjpjdgecpaa
open Go.RowKit
set_option linter.unusedVariables false

/-- A record, in its parts. -/
structure Rc where
  n : ByteArray
  k : Nat
  c : Nat
  t : Nat
  d : ByteArray
/-- Its numbers are such of sixteen and of thirty-two bits. -/
structure Rc.Ok (r : Rc) : Prop where
  k : r.k < 65536
  c : r.c < 65536
  t : r.t < 4294967296
def Rc.zero : Rc := ⟨⟨#[]⟩, 0, 0, 0, ⟨#[]⟩⟩
theorem heap_lt {w : World} {g : Nat} {o : Obj} (h : w.heap[g]? = some o) : g < w.heap.size := (Array.getElem?_eq_some_iff.1 h).1
theorem blk_cell {w : World} {b : Nat} {cs : Array Value} {t : TypeId} (h : w.heap[b]? = some (.cells cs t (0, 0))) (i : Nat) : w.cell? ⟨b, i, none⟩ = cs[i]? := cell_of_row w b i cs t (0, 0) h
/-- The cells of a record, and of a question. -/
def rf (r : Rc) : List Value := [.string r.n, .int .u16 (r.k : Nat), .int .u16 (r.c : Nat), .int .u32 (r.t : Nat), .string r.d]
def qf (r : Rc) : List Value := [.string r.n, .int .u16 (r.k : Nat), .int .u16 (r.c : Nat)]
theorem flat_at {f : Rc → List Value} {k : Nat} (hk : ∀ r, (f r).length = k) : ∀ (l : List Rc) (j i : Nat) (hj : j < l.length), i < k → (l.flatMap f)[j * k + i]? = (f l[j])[i]?
  | [], j, i, hj, _ => absurd hj (by simp)
  | a :: l, 0, i, hj, hi => by
    rw [List.flatMap_cons, List.getElem?_append_left (by rw [hk]; omega)]
    simp
  | a :: l, j + 1, i, hj, hi => by
    rw [List.flatMap_cons, List.getElem?_append_right (by rw [hk, Nat.add_mul]; omega), hk, show (j + 1) * k + i - k = j * k + i by rw [Nat.add_mul]; omega]
    exact flat_at hk l j i (by simpa using hj) hi
theorem flat_len {f : Rc → List Value} {k : Nat} (hk : ∀ r, (f r).length = k) : ∀ l : List Rc, (l.flatMap f).length = l.length * k
  | [] => by simp
  | a :: l => by rw [List.flatMap_cons, List.length_append, hk, flat_len hk l, List.length_cons, Nat.add_mul]; omega
theorem rf_len (r : Rc) : (rf r).length = 5 := rfl
theorem qf_len (r : Rc) : (qf r).length = 3 := rfl
theorem rf_one (l : List Rc) : ∀ u ∈ l.flatMap rf, u.oneCell' = true := fun u hu => by
  obtain ⟨r, _, hr⟩ := List.mem_flatMap.1 hu
  simp only [rf, List.mem_cons, List.not_mem_nil, or_false] at hr
  rcases hr with rfl | rfl | rfl | rfl | rfl <;> rfl
theorem qf_one (l : List Rc) : ∀ u ∈ l.flatMap qf, u.oneCell' = true := fun u hu => by
  obtain ⟨r, _, hr⟩ := List.mem_flatMap.1 hu
  simp only [qf, List.mem_cons, List.not_mem_nil, or_false] at hr
  rcases hr with rfl | rfl | rfl <;> rfl
/-- A slice's elements. -/
structure Sl (f : Rc → List Value) (w : World) (A : Option Addr) (cap : Nat) (l : List Rc) : Prop where
  nl : A = Option.none → cap = 0
  le : l.length ≤ cap
  has : l = [] ∨ ∃ b off, A = some ⟨b, off, none⟩ ∧ b < w.heap.size ∧ ∀ j u, (l.flatMap f)[j]? = some u → w.cell? ⟨b, off + j, none⟩ = some u
section
variable {f : Rc → List Value} {w w' : World} {A : Option Addr} {cap : Nat} {l : List Rc}
theorem Sl.nil (f : Rc → List Value) (w : World) : Sl f w Option.none 0 [] := ⟨fun _ => rfl, Nat.le_refl _, .inl rfl⟩
theorem Sl.below {B : Nat} (h : Sl f w A cap l) (hb : Below B w w') (hB : ∀ b off, A = some ⟨b, off, Option.none⟩ → b < B) : Sl f w' A cap l := by
  refine ⟨h.nl, h.le, ?_⟩
  rcases h.has with h1 | ⟨b, off, h1, h2, h3⟩
  · exact .inl h1
  · exact .inr ⟨b, off, h1, Nat.lt_of_lt_of_le h2 hb.size, fun j u hj => (hb.cell (p := ⟨b, off + j, Option.none⟩) (hB b off h1)).trans (h3 j u hj)⟩
theorem Sl.below' (h : Sl f w A cap l) (hb : Below w.heap.size w w') : Sl f w' A cap l := by
  refine ⟨h.nl, h.le, ?_⟩
  rcases h.has with h1 | ⟨b, off, h1, h2, h3⟩
  · exact .inl h1
  · exact .inr ⟨b, off, h1, Nat.lt_of_lt_of_le h2 hb.size, fun j u hj => (hb.cell (p := ⟨b, off + j, Option.none⟩) h2).trans (h3 j u hj)⟩
theorem Sl.empty (h : Sl f w A cap l) (hA : A = Option.none) : l = [] := by
  have := h.le
  rw [h.nl hA] at this
  exact List.eq_nil_of_length_eq_zero (by omega)
theorem Sl.take (h : Sl f w A cap l) (n : Nat) : Sl f w A cap (l.take n) := by
  refine ⟨h.nl, Nat.le_trans (by rw [List.length_take]; omega) h.le, ?_⟩
  rcases h.has with h1 | ⟨b, off, h1, h2, h3⟩
  · left; rw [h1]; simp
  · refine .inr ⟨b, off, h1, h2, fun j u hj => h3 j u ?_⟩
    have e : l.flatMap f = (l.take n).flatMap f ++ (l.drop n).flatMap f := by rw [← List.flatMap_append, List.take_append_drop]
    rw [e, List.getElem?_append_left (List.getElem?_eq_some_iff.1 hj).1]
    exact hj
/-- The cells of one element. -/
theorem Sl.at {k : Nat} (hk : ∀ r, (f r).length = k) (h : Sl f w A cap l) (j : Nat) (hj : j < l.length) : ∃ b off, A = some ⟨b, off, Option.none⟩ ∧ b < w.heap.size ∧ ∀ i u, (f l[j])[i]? = some u → w.cell? ⟨b, off + j * k + i, Option.none⟩ = some u := by
  rcases h.has with h1 | ⟨b, off, h1, h2, h3⟩
  · rw [h1] at hj; cases hj
  · refine ⟨b, off, h1, h2, fun i u hi => ?_⟩
    have hik : i < k := by have := (List.getElem?_eq_some_iff.1 hi).1; rw [hk] at this; exact this
    rw [Nat.add_assoc]
    exact h3 _ u (by rw [flat_at hk l j i hj hik]; exact hi)
theorem Sl.own {B : Nat} {e : TypeId} {k : Nat} {v : Value} (hk : ∀ r, (f r).length = k) (h : w.ownsRow B e k v l.length (l.flatMap f)) : ∃ A cap, v = .slice A l.length cap ∧ Sl f w A cap l := by
  rcases h.2 with ⟨hv, hn⟩ | ⟨g, cap, cur, hv, hB, hg, hc, hm, hz, ht⟩
  · obtain rfl : l = [] := List.eq_nil_of_length_eq_zero hn
    exact ⟨Option.none, 0, hv, Sl.nil f w⟩
  · refine ⟨_, cap, hv, (fun h => by cases h), hc, .inr ⟨g, 0, rfl, (Array.getElem?_eq_some_iff.1 hg).1, fun j u hj => ?_⟩⟩
    rw [← ht, List.getElem?_take] at hj
    rw [cell_of_row w g (0 + j) cur e (0, 0) hg, Nat.zero_add]
    split at hj
    · simpa using hj
    · cases hj
end
theorem Sl.rec5 {w : World} {A : Option Addr} {cap : Nat} {l : List Rc} (h : Sl rf w A cap l) (j : Nat) (hj : j < l.length) : ∃ b off, A = some ⟨b, off, Option.none⟩ ∧ b < w.heap.size ∧
    w.cell? ⟨b, off + j * 5, Option.none⟩ = some (.string l[j].n) ∧ w.cell? ⟨b, off + j * 5 + 1, Option.none⟩ = some (.int .u16 (l[j].k : Nat)) ∧ w.cell? ⟨b, off + j * 5 + 2, Option.none⟩ = some (.int .u16 (l[j].c : Nat)) ∧ w.cell? ⟨b, off + j * 5 + 3, Option.none⟩ = some (.int .u32 (l[j].t : Nat)) ∧ w.cell? ⟨b, off + j * 5 + 4, Option.none⟩ = some (.string l[j].d) := by
  obtain ⟨b, off, h1, h2, h3⟩ := h.at rf_len j hj
  exact ⟨b, off, h1, h2, h3 0 _ rfl, h3 1 _ rfl, h3 2 _ rfl, h3 3 _ rfl, h3 4 _ rfl⟩

def zR : Value := .agg #[.string ⟨#[]⟩, .int .u16 0, .int .u16 0, .int .u32 0, .string ⟨#[]⟩]
theorem elR : (Try.prog.info? 40).map (fun i => (i.zero, i.size, i.bytes)) = some (some zR, 5, 40) := by kernel_rfl
theorem el_of {t : TypeId} {z : Value} {a b : Nat} (h : (Try.prog.info? t).map (fun i => (i.zero, i.size, i.bytes)) = some (some z, a, b)) : ∃ i, Try.prog.info? t = some i ∧ i.zero = some z ∧ i.size = a ∧ i.bytes = b := by
  rw [Option.map_eq_some_iff] at h
  obtain ⟨i, h1, h2⟩ := h
  simp only [Prod.mk.injEq] at h2
  exact ⟨i, h1, h2.1, h2.2.1, h2.2.2⟩
theorem Sl.src {f : Rc → List Value} {w : World} {a : Addr} {cap : Nat} {l : List Rc} (h : Sl f w (some a) cap l) : ∀ j u, (l.flatMap f)[j]? = some u → w.cell? (a.add j) = some u := fun j u hj => by
  rcases h.has with h1 | ⟨b, off, h1, h2, h3⟩
  · rw [h1] at hj; simp at hj
  · cases h1
    rw [Addr.add_lit]
    exact h3 j u hj

theorem Sl.other {f : Rc → List Value} {w w' : World} {A : Option Addr} {cap g : Nat} {l : List Rc} (h : Sl f w A cap l) (hw : ∀ b, b ≠ g → w'.heap[b]? = w.heap[b]?) (hz : w.heap.size ≤ w'.heap.size) (hne : ∀ a, A = some a → a.block ≠ g) : Sl f w' A cap l := by
  refine ⟨h.nl, h.le, ?_⟩
  rcases h.has with h1 | ⟨b, off, h1, h2, h3⟩
  · exact .inl h1
  · refine .inr ⟨b, off, h1, Nat.lt_of_lt_of_le h2 hz, fun j u hj => ?_⟩
    have e : w'.cell? ⟨b, off + j, none⟩ = w.cell? ⟨b, off + j, none⟩ := by
      unfold World.cell?
      rw [hw b (hne _ h1)]
    rw [e]
    exact h3 j u hj
set_option maxRecDepth 100000 in
set_option maxHeartbeats 1000000 in
theorem rrs_yes (A : Option Addr) (cap : Nat) (A2 : Option Addr) (cap2 : Nat) (l : List Rc) (hl : l.length ≤ 9223372036854775807) (w : World) (hI : Sl rf w A cap l) (hJ : Sl rf w A2 cap2 l) :
    Calls Try.prog 20 #[.slice A l.length cap, .slice A2 l.length cap2] w fun e w' => e = .returned (.bool true) ∧ Below w.heap.size w w' := by
  have HI := Lib.hid hI
  have HJ := Lib.hid hJ
  clear hI hJ
  go_enter Try.func20, Try.ntmps20
  go_wp2_with fail
  go_loopw [5] (fun i wr => ∃ j : Nat, j ≤ l.length ∧ i = .int .i64 j ∧ Below w.heap.size w wr) (fun i _ => l.length - (intOf i).toNat)
  case atStart => exact ⟨0, Nat.zero_le _, rfl, Below.refl _ _⟩
  case round =>
    obtain ⟨j, hj, rfl, hbel⟩ := hrel
    by_cases hlt : j < l.length
    · obtain ⟨b, off, rfl, hb, c0, c1, c2, c3, c4⟩ := (HI.out.below' hbel).rec5 j hlt
      obtain ⟨b', off', rfl, hb', d0, d1, d2, d3, d4⟩ := (HJ.out.below' hbel).rec5 j hlt
      have HB := Lib.hid hbel
      clear hbel
      generalize l[j] = r at *
      go_upto_region 6 with (fail)
      first | (go_region_with (fail)) | fail
      all_goals
        go_wp2_with fail
        go_roundw
        case rel => exact ⟨j + 1, hlt, by go_num, HB.out.drew⟩
        case measure => simp [intOf]; omega
    · obtain rfl : j = l.length := by omega
      have HB := Lib.hid hbel
      clear hbel
      go_wp2_with fail
      go_ret
      exact ⟨rfl, HB.out⟩

theorem ownR_form {w : World} {B : Nat} {e : TypeId} {k : Nat} {v : Value} {n : Nat} {xs : List Value} (h : w.ownsRow B e k v n xs) : ∃ A cap, v = .slice A n cap := by
  rcases h.2 with ⟨rfl, rfl⟩ | ⟨g, cap, cur, rfl, _⟩
  · exact ⟨none, 0, rfl⟩
  · exact ⟨_, cap, rfl⟩
theorem own_block {w : World} {B : Nat} {e : TypeId} {k : Nat} {A : Option Addr} {n cap : Nat} {xs : List Value} (h : w.ownsRow B e k (.slice A n cap) n xs) (hn : 0 < n) : ∃ g, A = some ⟨g, 0, none⟩ ∧ B ≤ g := by
  rcases h.2 with ⟨_, h2⟩ | ⟨g, cap', cur, h1, h2, _⟩
  · omega
  · cases h1; exact ⟨g, rfl, h2⟩
theorem ownR_below {w w' : World} {B : Nat} {e : TypeId} {k : Nat} {v : Value} {n : Nat} {xs : List Value} (h : w.ownsRow B e k v n xs) (hb : Below w.heap.size w w') : w'.ownsRow B e k v n xs := by
  refine ⟨h.1, ?_⟩
  rcases h.2 with h1 | ⟨g, cap, cur, h1, h2, h3, h4⟩
  · exact .inl h1
  · exact .inr ⟨g, cap, cur, h1, h2, (hb.block g (heap_lt h3)).trans h3, h4⟩
/-- A record with another time. -/
def wt (n : Nat) (r : Rc) : Rc := { r with t := n }
/-- A list whose first records have it. -/
def wts (n : Nat) (l : List Rc) (j : Nat) : List Rc := (l.take j).map (wt n) ++ l.drop j
theorem wts_len (n : Nat) (l : List Rc) (j : Nat) : (wts n l j).length = l.length := by unfold wts; rw [List.length_append, List.length_map, ← List.length_append, List.take_append_drop]
theorem wts_zero (n : Nat) (l : List Rc) : wts n l 0 = l := by simp [wts]
theorem wts_all (n : Nat) (l : List Rc) : wts n l l.length = l.map (wt n) := by simp [wts]
theorem wts_set (n : Nat) (l : List Rc) (j : Nat) (hj : j < l.length) : ((wts n l j).flatMap rf).set (j * 5 + 3) (.int .u32 (n : Nat)) = (wts n l (j + 1)).flatMap rf := by
  unfold wts
  rw [List.drop_eq_getElem_cons hj, List.take_add_one, List.getElem?_eq_getElem hj]
  simp only [Option.toList_some, List.map_append, List.map_cons, List.map_nil, List.append_assoc, List.cons_append, List.nil_append]
  rw [List.flatMap_append, List.flatMap_append, List.flatMap_cons, List.flatMap_cons]
  have hL : (((l.take j).map (wt n)).flatMap rf).length = j * 5 := by rw [flat_len rf_len, List.length_map, List.length_take, Nat.min_eq_left (Nat.le_of_lt hj)]
  rw [List.set_append_right _ _ (by omega), hL, Nat.add_sub_cancel_left, List.set_append_left _ _ (by rw [rf_len]; omega)]
  rfl
theorem wts_get (n : Nat) (l : List Rc) (j : Nat) (hj : j < l.length) : ((wts n l j).flatMap rf)[j * 5 + 3]? = some (.int .u32 (l[j].t : Nat)) := by
  have hj' : j < (wts n l j).length := by rw [wts_len]; exact hj
  rw [flat_at rf_len _ j 3 hj' (by omega)]
  have : (wts n l j)[j] = l[j] := by
    simp only [wts]
    rw [List.getElem_append_right (by simp; omega)]
    simp [Nat.min_eq_left (Nat.le_of_lt hj)]
  rw [this]; rfl
/-- Numbers of which the first are told. -/
def tms (l : List Rc) (j : Nat) : List Value := ((l.take j).map fun r => Value.int .u32 (r.t : Nat)) ++ List.replicate (l.length - j) (.int .u32 0)
theorem tms_set (l : List Rc) (j : Nat) (hj : j < l.length) : (tms l j).set j (.int .u32 (l[j].t : Nat)) = tms l (j + 1) := by
  unfold tms
  rw [List.take_add_one, List.getElem?_eq_getElem hj, List.set_append_right _ _ (by simp; omega), show l.length - j = (l.length - (j + 1)) + 1 by omega, List.replicate_succ]
  simp only [List.length_map, List.length_take, Nat.min_eq_left (Nat.le_of_lt hj), Nat.sub_self, List.set_cons_zero, Option.toList_some, List.map_append, List.map_cons, List.map_nil, List.append_assoc, List.cons_append, List.nil_append]
theorem tms_get (l : List Rc) (j : Nat) (hj : j < l.length) : (tms l j)[j]? = some (.int .u32 0) := by
  unfold tms
  rw [List.getElem?_append_right (by simp; omega)]
  simp only [List.length_map, List.length_take, Nat.min_eq_left (Nat.le_of_lt hj), Nat.sub_self]
  rw [List.getElem?_replicate, if_pos (by omega)]
theorem tms_all (l : List Rc) : tms l l.length = l.map fun r => Value.int .u32 (r.t : Nat) := by unfold tms; simp
theorem lst_succ (l : List Nat) (j : Nat) (hj : j < l.length) : lst (l.take (j + 1)) = if j = 0 then l[j] else min (lst (l.take j)) l[j] := by
  cases l with
  | nil => simp at hj
  | cons a t =>
    cases j with
    | zero => simp [lst]
    | succ j =>
      rw [if_neg (by omega)]
      exact foldl_step a t j (by simpa using hj)

set_option maxRecDepth 100000 in
set_option maxHeartbeats 1000000 in
theorem cloneO_any (A : Option Addr) (cap : Nat) (l : List Rc) (hs : l.length ≤ 20000) (w : World) (hI : Sl rf w A cap l) :
    Calls Try.prog 24 #[.slice A l.length cap] w fun e w' => ∃ A' cap', e = .returned (.slice A' l.length cap') ∧ w'.ownsRow w.heap.size 40 5 (.slice A' l.length cap') l.length (l.flatMap rf) ∧ Below w.heap.size w w' := by
  have qn : ∀ (w : World) (a : Option Addr) (n c n' c' : Nat), (binOp .eql 30 (.slice a n c) (.slice none n' c')).run Try.prog w = .ok (.bool a.isNone) w := fun w a n c n' c' => Lib.run_eql_slice_nil w _ _ a n c n' c' Try.underlying30
  cases A with
  | none =>
    obtain rfl := hI.empty rfl
    have hz := hI.nl rfl
    subst hz
    go_enter Try.func24, Try.ntmps24
    go_wp2_with fail
    go_ret
    exact ⟨none, 0, rfl, World.ownsRow_nil _ _ _ _, Below.refl _ _⟩
  | some a =>
    obtain ⟨i0, hi, hz0, hz1, hz2⟩ := el_of elR
    have HI := Lib.hid hI.src
    clear hI
    go_enter Try.func24, Try.ntmps24
    go_wp2_with (at_builtin; refine wpList_append_own _ rfl _ _ 30 rfl w.heap.size 40 i0 zR 5 40 Try.underlying30 hi hz0 hz1 hz2 rfl (by decide) _ _ _ rfl (World.ownsRow_made w #[] 0 (Nat.le_refl _) (Nat.zero_le _) (by simp)) a l.length cap (l.flatMap rf) rfl (flat_len rf_len l) ?qc2 (rf_one l) ?qc4 ?qc5 ?qc6 ?_)
    case qc2 =>
      intro j u hj
      exact Lib.cell?_alloc_some _ (HI.out j u hj)
    case qc4 => unfold maxLen; omega
    case qc5 => omega
    case qc6 => simp
    intro v' w1 hown hgrow hnil
    have hown2 : w1.ownsRow w.heap.size 40 5 v' l.length (l.flatMap rf) := by simpa using hown
    have hb := ((Below.refl _ w).alloc (Nat.le_refl _) (Obj.cells #[] 40)).grown hgrow (by simp) (by intro k hk; simp [Value.ownBlock] at hk; omega)
    obtain ⟨A', cap', rfl⟩ := ownR_form hown2
    have HF := Lib.hid (And.intro hown2 hb)
    clear hown hown2 hgrow hnil hb
    go_wp2_with fail
    go_ret
    exact ⟨A', cap', rfl, HF.out.1, HF.out.2⟩

set_option maxRecDepth 100000 in
set_option maxHeartbeats 1000000 in
theorem with_any (A : Option Addr) (cap : Nat) (l : List Rc) (n : Nat) (hs : l.length ≤ 20000) (w : World) (hI : Sl rf w A cap l) :
    Calls Try.prog 17 #[.slice A l.length cap, .int .u32 (n : Nat)] w fun e w' => ∃ A' cap', e = .returned (.slice A' l.length cap') ∧ Sl rf w' A' cap' (l.map (wt n)) ∧ Below w.heap.size w w' := by
  have HC := Lib.hid (cloneO_any A cap l hs w hI)
  clear hI
  go_enter Try.func17, Try.ntmps17
  go_wp2_with fail
  refine HC.out.mono ?_
  rintro e w1 ⟨A', cap', rfl, hown, hb⟩
  have HO := Lib.hid hown
  have HB := Lib.hid hb
  clear hown hb HC
  go_wp2_with fail
  go_loopw [5, 10] (fun _ i wr => ∃ j : Nat, j ≤ l.length ∧ i = .int .i64 j ∧ wr.ownsRow w.heap.size 40 5 (.slice A' l.length cap') l.length ((wts n l j).flatMap rf) ∧ Below w.heap.size w wr) (fun _ i _ => l.length - (intOf i).toNat)
  case atStart => exact ⟨0, Nat.zero_le _, rfl, by rw [wts_zero]; exact HO.out, HB.out⟩
  case round =>
    clear HO HB
    obtain ⟨j, hj, rfl, hown, hbel⟩ := hrel
    by_cases hlt : j < l.length
    · obtain ⟨g, rfl, hg⟩ := own_block hown (by omega)
      have c3 : wr.cell? ⟨g, j * 5 + 3, none⟩ = some (.int .u32 (l[j].t : Nat)) := by rw [hown.cellAt _ (by omega)]; exact wts_get n l j hlt
      have f3 : wr.frozen? ⟨g, j * 5 + 3, none⟩ = false := hown.frozenAt _
      have hst := (hown.stored (j * 5 + 3) (.int .u32 (n : Nat))).1
      rw [wts_set n l j hlt] at hst
      have HF := Lib.hid (And.intro hst (hbel.setCell (p := ⟨g, j * 5 + 3, none⟩) hg (.int .u32 (n : Nat))))
      clear hst hown hbel
      generalize l[j] = r at *
      go_wp2_with fail
      go_roundw
      case rel => exact ⟨j + 1, hlt, by go_num, HF.out.1, HF.out.2⟩
      case measure => simp [intOf]; omega
    · obtain rfl : j = l.length := by omega
      rw [wts_all] at hown
      have hown' : wr.ownsRow w.heap.size 40 5 (.slice A' l.length cap') (l.map (wt n)).length ((l.map (wt n)).flatMap rf) := by rw [List.length_map]; exact hown
      obtain ⟨A2, cap2, h2, hS⟩ := Sl.own rf_len hown'
      rw [List.length_map] at h2
      cases h2
      have HF := Lib.hid (And.intro hS hbel)
      clear hown hown' hbel hS
      go_wp2_with fail
      go_ret
      exact ⟨A', cap', rfl, HF.out.1, HF.out.2⟩

def zU : Value := .int .u32 0
theorem elU : (Try.prog.info? 23).map (fun i => (i.zero, i.size, i.bytes)) = some (some zU, 1, 4) := by kernel_rfl
theorem infoR : (Try.prog.info? 40).map (·.size) = some 5 := by kernel_rfl

set_option maxRecDepth 100000 in
set_option maxHeartbeats 1000000 in
theorem times_any (A : Option Addr) (cap : Nat) (l : List Rc) (hs : l.length ≤ 20000) (w : World) (hI : Sl rf w A cap l) :
    Calls Try.prog 25 #[.slice A l.length cap] w fun e w' => ∃ A', e = .returned (.slice A' l.length l.length) ∧ Ns .u32 w' A' (l.map (·.t)) ∧ Below w.heap.size w w' := by
  obtain ⟨i0, hi, hz0, hz1, hz2⟩ := el_of elU
  obtain ⟨w1, hmk, hown, hgr⟩ := run_make_full w w.heap.size 44 23 i0 zU 1 (P := Try.prog) Try.underlying44 hi hz0 hz1 .i64 .i64 l.length (by rw [hz2]; omega) (by unfold maxLen; omega) (Nat.le_refl _)
  rw [Nat.mul_one, show zU.cells = #[.int .u32 0] from rfl, toList_madeCells_one] at hown
  have hbm : Below w.heap.size w w1 := (Below.refl _ w).grown hgr (Nat.le_refl _) (fun k hk => by cases hk)
  have HO := Lib.hid hown
  have HB := Lib.hid hbm
  have HI := Lib.hid hI
  have e0 : List.replicate l.length (Value.int .u32 0) = tms l 0 := by simp [tms]
  rw [e0] at HO
  clear hown hbm hgr hI hz0 hz1 hz2 hi e0
  go_enter Try.func25, Try.ntmps25
  go_wp2_with fail
  go_loopw [4, 5, 11] (fun _ _ i wr => ∃ j : Nat, j ≤ l.length ∧ i = .int .i64 j ∧ wr.ownsRow w.heap.size 23 1 (.slice (some ⟨w.heap.size, 0, none⟩) l.length l.length) l.length (tms l j) ∧ Below w.heap.size w wr) (fun _ _ i _ => l.length - (intOf i).toNat)
  case atStart => exact ⟨0, Nat.zero_le _, rfl, HO.out, HB.out⟩
  case round =>
    clear HO HB
    obtain ⟨j, hj, rfl, hown, hbel⟩ := hrel
    by_cases hlt : j < l.length
    · obtain ⟨b, off, rfl, hb, c0, c1, c2, c3, c4⟩ := (HI.out.below' hbel).rec5 j hlt
      have HT := Lib.hid (tms_set l j hlt)
      have HG := Lib.hid (tms_get l j hlt)
      generalize l[j] = r at *
      have ho2 := hown.alloc (Obj.cells #[.string r.n, .int .u16 (r.k : Nat), .int .u16 (r.c : Nat), .int .u32 (r.t : Nat), .string r.d] 40)
      have hb2 := hbel.alloc hbel.size (Obj.cells #[.string r.n, .int .u16 (r.k : Nat), .int .u16 (r.c : Nat), .int .u32 (r.t : Nat), .string r.d] 40)
      have d0 := ho2.cellAt j (by omega)
      have f0 := ho2.frozenAt j
      have hst := (ho2.stored j (.int .u32 (r.t : Nat))).1
      rw [HT.out] at hst
      rw [HG.out] at d0
      have HF := Lib.hid (And.intro hst (hb2.setCell (p := ⟨w.heap.size, j, none⟩) (Nat.le_refl _) (.int .u32 (r.t : Nat))))
      clear hown hbel ho2 hb2 hst HT HG
      go_wp2_with fail
      go_roundw
      case rel => exact ⟨j + 1, hlt, by go_num, HF.out.1, HF.out.2⟩
      case measure => simp [intOf]; omega
    · obtain rfl : j = l.length := by omega
      rw [tms_all] at hown
      have hN : Ns .u32 wr (some ⟨w.heap.size, 0, none⟩) (l.map (·.t)) := fun j h => by
        have h' : j < l.length := by simpa using h
        refine ⟨_, _, rfl, ?_⟩
        rw [Nat.zero_add, hown.cellAt _ (by omega)]
        simp [h']
      have HF := Lib.hid (And.intro hN hbel)
      clear hown hbel hN
      go_wp2_with fail
      go_ret
      exact ⟨_, rfl, HF.out.1, HF.out.2⟩

set_option maxHeartbeats 1000000 in
theorem least_any (A : Option Addr) (cap : Nat) (l : List Rc) (hs : l.length ≤ 20000) (w : World) (hI : Sl rf w A cap l) :
    Calls Try.prog 18 #[.slice A l.length cap] w fun e w' => e = .returned (.int .u32 (lst (l.map (·.t)) : Nat)) ∧ Below w.heap.size w w' := by
  have HC := Lib.hid (times_any A cap l hs w hI)
  clear hI
  go_enter Try.func18, Try.ntmps18
  go_wp2_with fail
  refine HC.out.mono ?_
  rintro e w1 ⟨A', rfl, hN, hb⟩
  have hM := min32_any A' l.length (l.map (·.t)) (by simp) (by omega) w1 hN
  rw [List.length_map] at hM
  have HM := Lib.hid hM
  have HB := Lib.hid hb
  clear hM hN hb HC
  go_wp2_with fail
  refine HM.out.mono ?_
  rintro e w2 ⟨rfl, hb⟩
  have HF := Lib.hid (HB.out.trans (hb.mono HB.out.size))
  clear hb
  go_wp2_with fail
  go_ret
  exact ⟨rfl, HF.out⟩

set_option maxRecDepth 100000 in
set_option maxHeartbeats 1000000 in
theorem fleast_any (A : Option Addr) (cap : Nat) (l : List Rc) (hs : l.length ≤ 20000) (w : World) (hI : Sl rf w A cap l) :
    Calls Try.prog 19 #[.slice A l.length cap] w fun e w' => e = .returned (.int .u32 (lst (l.map (·.t)) : Nat)) ∧ Below w.heap.size w w' := by
  have HI := Lib.hid hI
  clear hI
  obtain ⟨L, hL⟩ : ∃ L, L = l.map (·.t) := ⟨_, rfl⟩
  have hLl : L.length = l.length := by rw [hL]; simp
  have HL := Lib.hid hL
  have HLl := Lib.hid hLl
  rw [← hL]
  clear hL hLl
  go_enter Try.func19, Try.ntmps19
  go_wp2_with fail
  go_loopw [3, 4] (fun x i wr => ∃ j : Nat, j ≤ l.length ∧ i = .int .i64 j ∧ x = .int .u32 (lst (L.take j) : Nat) ∧ wr = w) (fun _ i _ => l.length - (intOf i).toNat)
  case atStart => exact ⟨0, Nat.zero_le _, rfl, rfl, rfl⟩
  case round =>
    obtain ⟨j, hj, rfl, rfl, rfl⟩ := hrel
    by_cases hlt : j < l.length
    · obtain ⟨b, off, rfl, hb, c0, c1, c2, c3, c4⟩ := HI.out.rec5 j hlt
      have hjL : j < L.length := by rw [HLl.out]; exact hlt
      have hs1 := lst_succ L j hjL
      have hv : L[j] = l[j].t := by have := HL.out; subst this; simp
      rw [hv] at hs1
      generalize l[j] = r at *
      by_cases h0 : j = 0
      · subst h0
        rw [if_pos rfl] at hs1
        have HS := Lib.hid hs1
        clear hs1 hv
        have d0 : decide (((0 : Nat) : Int) = 0) = true := by simp
        go_wp2_with fail
        go_roundw
        case rel => exact ⟨1, hlt, by go_num, by rw [HS.out], by first | rfl | trivial⟩
        case measure => simp [intOf]; omega
      · rw [if_neg h0] at hs1
        generalize lst (L.take j) = x at *
        have d0 : decide ((j : Int) = 0) = false := by simp; omega
        by_cases hz : r.t < x
        · have HS := Lib.hid (show lst (L.take (j + 1)) = r.t by rw [hs1]; omega)
          clear hs1 hv
          go_wp2_with fail
          go_roundw
          case rel => exact ⟨j + 1, hlt, by go_num, by rw [HS.out], by first | rfl | trivial⟩
          case measure => simp [intOf]; omega
        · have HS := Lib.hid (show lst (L.take (j + 1)) = x by rw [hs1]; omega)
          clear hs1 hv
          go_wp2_with fail
          go_roundw
          case rel => exact ⟨j + 1, hlt, by go_num, by rw [HS.out], by first | rfl | trivial⟩
          case measure => simp [intOf]; omega
    · obtain rfl : j = l.length := by omega
      have HE := Lib.hid (show lst (L.take l.length) = lst L by rw [← HLl.out, List.take_length])
      generalize lst (L.take l.length) = x at *
      go_wp2_with fail
      go_ret
      exact ⟨by rw [HE.out]; rfl, Below.refl _ _⟩

theorem newR (W : World) (o : Obj) (r : Rc) : ∀ j u, (rf r)[j]? = some u → ((W.alloc o).alloc (.cells #[.string r.n, .int .u16 (r.k : Nat), .int .u16 (r.c : Nat), .int .u32 (r.t : Nat), .string r.d] 40)).cell? ((⟨W.heap.size + 1, 0, none⟩ : Addr).add j) = some u := fun j u hj => by
  have h := heap_alloc2_new W o (Obj.cells #[.string r.n, .int .u16 (r.k : Nat), .int .u16 (r.c : Nat), .int .u32 (r.t : Nat), .string r.d] 40)
  rw [Addr.add_lit, Nat.zero_add, blk_cell h j, ← hj]
  simp [rf]
theorem oneR (r : Rc) : ∀ u ∈ rf r, u.oneCell' = true := fun u hu => by have := rf_one [r] u (by simpa using hu); exact this
theorem wt_take (n : Nat) (l : List Rc) (j : Nat) (hj : j < l.length) : (l.take (j + 1)).map (wt n) = (l.take j).map (wt n) ++ [wt n l[j]] := by
  rw [List.take_add_one, List.getElem?_eq_getElem hj]
  simp only [Option.toList_some, List.map_append, List.map_cons, List.map_nil]

set_option maxRecDepth 100000 in
set_option maxHeartbeats 1000000 in
theorem fwith_any (A : Option Addr) (cap : Nat) (l : List Rc) (n : Nat) (hs : l.length ≤ 20000) (w : World) (hI : Sl rf w A cap l) :
    Calls Try.prog 21 #[.slice A l.length cap, .int .u32 (n : Nat)] w fun e w' => ∃ A' cap', e = .returned (.slice A' l.length cap') ∧ Sl rf w' A' cap' (l.map (wt n)) ∧ Below w.heap.size w w' := by
  obtain ⟨i0, hi, hz0, hz1, hz2⟩ := el_of elR
  have HI := Lib.hid hI
  clear hI
  go_enter Try.func21, Try.ntmps21
  go_wp2_with fail
  go_loopw [5, 6, 7] (fun v i _ wr => ∃ j : Nat, j ≤ l.length ∧ i = .int .i64 j ∧ wr.ownsRow w.heap.size 40 5 v j (((l.take j).map (wt n)).flatMap rf) ∧ Below w.heap.size w wr) (fun _ i _ _ => l.length - (intOf i).toNat)
  case atStart => exact ⟨0, Nat.zero_le _, rfl, World.ownsRow_nil _ _ _ _, Below.refl _ _⟩
  case round =>
    obtain ⟨j, hj, rfl, hown, hbel⟩ := hrel
    by_cases hlt : j < l.length
    · obtain ⟨b, off, rfl, hb, c0, c1, c2, c3, c4⟩ := (HI.out.below' hbel).rec5 j hlt
      obtain ⟨Av, cv, rfl⟩ := ownR_form hown
      have HW := Lib.hid (wt_take n l j hlt)
      have HO := Lib.hid hown
      have HB := Lib.hid hbel
      clear hown hbel
      generalize l[j] = r at *
      have hbA := HB.out.alloc HB.out.size (Obj.cells #[.string r.n, .int .u16 (r.k : Nat), .int .u16 (r.c : Nat), .int .u32 (n : Nat), .string r.d] 40)
      have hbB := hbA.alloc hbA.size (Obj.cells #[.string r.n, .int .u16 (r.k : Nat), .int .u16 (r.c : Nat), .int .u32 (n : Nat), .string r.d] 40)
      have HO3 := Lib.hid ((HO.out.alloc (Obj.cells #[.string r.n, .int .u16 (r.k : Nat), .int .u16 (r.c : Nat), .int .u32 (n : Nat), .string r.d] 40)).alloc (Obj.cells #[.string r.n, .int .u16 (r.k : Nat), .int .u16 (r.c : Nat), .int .u32 (n : Nat), .string r.d] 40))
      have HBB := Lib.hid hbB
      clear hbA hbB HO HB
      go_wp2_with (at_builtin; refine wpList_append_own _ rfl _ _ 30 rfl w.heap.size 40 i0 zR 5 40 Try.underlying30 hi hz0 hz1 hz2 rfl (by decide) _ _ _ rfl HO3.out ⟨wr.heap.size + 1, 0, none⟩ 1 1 (rf (wt n r)) rfl rfl (newR wr _ (wt n r)) (oneR (wt n r)) ?q4 ?q5 HBB.out.size ?_)
      case q4 => unfold maxLen; omega
      case q5 => omega
      intro v' w3 hown2 hgrow hnil
      have hb3 := HBB.out.grown hgrow HBB.out.size (fun k hk => (HO3.out.lt k hk).1)
      have hown3 : w3.ownsRow w.heap.size 40 5 v' (j + 1) (((l.take (j + 1)).map (wt n)).flatMap rf) := by
        rw [HW.out, List.flatMap_append]
        simpa using hown2
      have HF := Lib.hid (And.intro hown3 hb3)
      clear hown2 hown3 hgrow hnil hb3
      go_wp2_with fail
      go_roundw
      case rel => exact ⟨j + 1, hlt, by go_num, HF.out.1, HF.out.2⟩
      case measure => simp [intOf]; omega
    · obtain rfl : j = l.length := by omega
      rw [List.take_length] at hown
      obtain ⟨Av, cv, rfl⟩ := ownR_form hown
      have hown' : wr.ownsRow w.heap.size 40 5 (.slice Av l.length cv) (l.map (wt n)).length ((l.map (wt n)).flatMap rf) := by rw [List.length_map]; exact hown
      obtain ⟨A2, cap2, h2, hS⟩ := Sl.own rf_len hown'
      rw [List.length_map] at h2
      cases h2
      have HF := Lib.hid (And.intro hS hbel)
      clear hown hown' hbel hS
      go_wp2_with fail
      go_ret
      exact ⟨Av, cv, rfl, HF.out.1, HF.out.2⟩
end Go.Proofs.Ytomhfjpjdgecpaa
