/- What a wheel's iterator hands on: the mathematics of what has come; the contracts of the functions all and all$1. -/
import Derived.Test.YtjjanogfcfapcaaWmb
import Derived.RangeFuncNested
import Derived.RangeFuncBound
import Derived.RangeFuncCalls
import Derived.RangeFuncLeaves
import Derived.RangeFuncBox
import Derived.Shelf.Abstract
import Derived.Shelf.RegionOpen
import Derived.Sort.MapsRangeIn
import Derived.WalkKit
import Derived.OwnWalkIn
import Derived.TacticsInMore
import Derived.LoopNIn
import Derived.LoopIn
import Derived.Maps.OwnIn
import Derived.Maps.AppendAt
namespace Go.Proofs.Ytjjanogfcfapcaa.W
open Go.RowKit Go.Shelf
open Go.Maps (Keyed)
set_option linter.unusedVariables false
attribute [local go_sem] Oper.semAt_some

/-- The least time of a set of timers. -/
structure Lst (o : Option Nat) (S : Ti → Prop) : Prop where
  no : o = none → ∀ x, ¬ S x
  lo : ∀ m, o = some m → (∃ x, S x ∧ x.t = m) ∧ ∀ x, S x → m ≤ x.t
theorem Lst.start : Lst none fun _ => False := ⟨fun _ _ h => h, fun _ h => (by cases h)⟩
theorem Lst.congr {o : Option Nat} {S S' : Ti → Prop} (h : Lst o S) (e : ∀ x, S x ↔ S' x) : Lst o S' := by
  have : S = S' := funext fun x => propext (e x)
  rw [← this]; exact h
theorem Lst.more {o : Option Nat} {S : Ti → Prop} (h : Lst o S) (x : Ti) (hm : o = none ∨ ∃ m, o = some m ∧ x.t < m) : Lst (some x.t) fun y => S y ∨ y = x := by
  refine ⟨fun h => (by cases h), fun m e => ?_⟩
  cases e
  refine ⟨⟨x, .inr rfl, rfl⟩, fun y hy => ?_⟩
  rcases hy with hy | rfl
  · rcases hm with rfl | ⟨m, rfl, hm⟩
    · exact absurd hy (h.no rfl y)
    · have := (h.lo m rfl).2 y hy; omega
  · exact Nat.le_refl _
theorem Lst.stay {o : Option Nat} {S : Ti → Prop} (h : Lst o S) (x : Ti) {m : Nat} (e : o = some m) (hm : m ≤ x.t) : Lst o fun y => S y ∨ y = x := by
  subst e
  refine ⟨fun h => (by cases h), fun m' e => ?_⟩
  cases e
  obtain ⟨⟨y, hy, ey⟩, hl⟩ := h.lo m rfl
  refine ⟨⟨y, .inl hy, ey⟩, fun z hz => ?_⟩
  rcases hz with hz | rfl
  · exact hl z hz
  · exact hm
theorem Lst.head {o : Option Nat} {l : List Ti} (h : Lst o fun x => x ∈ l) (hO : Ord l) : o = l.head?.map (·.t) := by
  cases l with
  | nil =>
    cases o with
    | none => rfl
    | some m => obtain ⟨⟨x, hx, _⟩, _⟩ := h.lo m rfl; cases hx
  | cons x l =>
    cases o with
    | none => exact absurd (List.mem_cons_self ..) (h.no rfl x)
    | some m =>
      obtain ⟨⟨y, hy, ey⟩, hl⟩ := h.lo m rfl
      have a := hl x (List.mem_cons_self ..)
      have b : x.t ≤ y.t := by
        rcases List.mem_cons.1 hy with rfl | hy
        · exact Nat.le_refl _
        · exact head_least hO.so y hy
      have : m = x.t := by omega
      rw [this]; rfl
/-- The timers on the first spokes. -/
def onF (s : Nat) (l : List Ti) (j : Nat) (x : Ti) : Prop := x ∈ l ∧ spk s x.id < j
theorem below_cell {w w' : World} {b i : Nat} {v : Value} (h : Below w.heap.size w w') (hc : w.cell? ⟨b, i, none⟩ = some v) : w'.cell? ⟨b, i, none⟩ = some v := by
  have hlt : b < w.heap.size := by
    by_cases c : b < w.heap.size
    · exact c
    · simp [World.cell?, Array.getElem?_eq_none (Nat.le_of_not_lt c)] at hc
  have e := h.block b hlt
  unfold World.cell? at hc ⊢
  rw [e]
  exact hc
theorem below_grown {a b c : World} {row : Option Nat} (h : Below a.heap.size a b) (g : b.grownBy c row) (hr : ∀ r, row = some r → a.heap.size ≤ r) : Below a.heap.size a c where
  os := g.os.trans h.os
  tape := g.tape.trans h.tape
  output := g.output.trans h.output
  size := Nat.le_trans h.size g.size
  block i hi := (g.block i (Nat.lt_of_lt_of_le hi h.size) (fun e => by have := hr i e.symm; omega)).trans (h.block i hi)
/-- What has come of a spoke. -/
theorem come_step {lj td : List Ti} (hO : Ord td) (hs : ∀ x ∈ td, x ∈ lj) {x : Ti} (hx : x ∈ td) (S : Ti → Prop) (y : Ti) : (S y ∨ y ∈ lj ∧ y ∉ td) ∨ y = x ↔ S y ∨ y ∈ lj ∧ y ∉ delL td x.id := by
  have key : y ∈ delL td x.id ↔ y ∈ td ∧ y ≠ x := by
    rw [delL_mem]
    refine and_congr_right fun hy => not_congr ⟨fun e => ?_, fun e => by rw [e]⟩
    have a := (look_mem hO.nd).1 hy
    have b := (look_mem hO.nd).1 hx
    rw [e, b] at a
    cases x; cases y
    simp at a e
    simp [a, e]
  rw [key]
  by_cases e : y = x
  · subst e
    simp [hx, hs y hx]
  · simp [e]

theorem Rg.of_walks {P : Program} {k e : TypeId} {w w' : World} {b r n : Nat} {l td : List Ti} (h : Rg P k e w b r n l td) (hk : KeepsWalks w w') : Rg P k e w' b r n l td := let ⟨D, left, cnt, h, t⟩ := h; ⟨D, left, cnt, h.of_walks hk, t⟩
theorem Rg.left_walks {P : Program} {k e : TypeId} {w w' : World} {b r n : Nat} {l td : List Ti} (h : Rg P k e w b r n l td) (hk : KeepsWalks w w') : w'.rangeLeft b r = w.rangeLeft b r := by
  obtain ⟨D, left, cnt, h, t⟩ := h
  rw [(h.of_walks hk).left_eq, h.left_eq]
theorem Rg.walk {P : Program} {k e : TypeId} {w : World} {b r n : Nat} {l td : List Ti} (h : Rg P k e w b r n l td) : ∃ o : Obj, w.heap[r]? = some o ∧ o.isWalk = true := let ⟨D, left, cnt, h, t⟩ := h; h.iter_walk
section
variable {F : Fence} {nF : Nat} {P : Program} {k e : TypeId} {w : World} {b n r : Nat} {l td : List Ti} {ops : Array Oper} {rest : List Oper} {o : Oper} {a : Act} {Q : Exit → Act → World → Prop}
theorem wpListIn_mp_range (hg : o.guard = none) (m : Operand) (t : TypeId) (hop : o.op = Op.range t m) (K : Keyed P k) (ht : P.underlying t = some (.map k e)) (hm : a.eval m = .map (some b)) (hI : Mp P k e w b n l)
    (hK : ∀ w', Rg P k e w' b w.heap.size n l l → w.grownBy w' none → w'.heap.size = w.heap.size + 1 → wpListIn F nF P ops Q rest (a.put o.dst (.pointer (some ⟨w.heap.size, 0, none⟩))) w') : wpListIn F nF P ops Q (o :: rest) a w := by
  obtain ⟨D, hown, T⟩ := hI
  exact wpListIn_range_own w hg m t hop k e K ht (plainElem P e) b n D hm hown fun w' h1 h2 h3 => hK w' ⟨D, _, _, h1, T, T.has, T.ord, fun x hx => hx⟩ h2 h3
theorem wpListIn_mp_next (hg : o.guard = none) (it : Operand) (hop : o.op = Op.next it false) (K : Keyed P k) (hk : P.underlying k = some (.int .i64)) (he : P.underlying e = some (.int .u64)) (td : List Ti) (hit : a.eval it = .pointer (some ⟨r, 0, none⟩)) (h : Rg P k e w b r n l td)
    (hDone : td = [] → wpListIn F nF P ops Q rest (a.put o.dst (.tuple #[.bool false])) w)
    (hMore : ∀ (x : Ti) (w' : World), x ∈ td → (Lit.int .i64 x.id).wf = true → (Lit.int .u64 (x.t : Int)).wf = true → Rg P k e w' b r n l (delL td x.id) → w'.rangeLeft b r < w.rangeLeft b r → w.grownBy w' (some r) → w'.heap.size = w.heap.size →
      (Instr.entry (.pointer (some ⟨r, 0, none⟩))).run P w' = .ok (.tuple #[.int .i64 x.id, .int .u64 (x.t : Nat)]) w' → wpListIn F nF P ops Q rest (a.put o.dst (.tuple #[.bool true, .int .i64 x.id, .int .u64 (x.t : Nat)])) w') : wpListIn F nF P ops Q (o :: rest) a w := by
  obtain ⟨D, left, cnt, hrg, T, hl, hO, hs⟩ := h
  refine wpListIn_next_ranges_ii w hg it hop k e .i64 .u64 K hk he b r n D left cnt hit hrg (fun _ h0 => hDone ?_) ?_
  · cases td with
    | nil => rfl
    | cons x td =>
      have a1 := hl x.id
      rw [h0, (look_mem hO.nd).1 (List.mem_cons_self ..)] at a1
      cases a1
  · intro x c w' cnt' hwx hwc hlx hat hrg' hlt hg' hsz hen
    rw [hl] at hlx
    obtain ⟨t, ht⟩ := Option.isSome_iff_exists.1 hlx
    have hm := look_some ht
    have hml := hs _ hm
    have ht' := (look_mem T.ord.nd).1 hml
    have a1 := hat (.lit (.int .u64 0))
    rw [T.at_, ht'] at a1
    cases a1
    refine hMore ⟨x, t⟩ w' hm hwx hwc ⟨D, _, cnt', hrg', T, fun j => ?_, delL_ord hO x, fun y hy => hs y (delL_mem.1 hy).1⟩ (by rw [hrg'.left_eq, hrg.left_eq]; exact hlt) hg' hsz hen
    rw [delL_look]
    by_cases e1 : j = x
    · subst e1; rw [if_pos rfl, WideAt.sameKey_self (key_lit j)]; simp
    · rw [if_neg e1, hl, Maps.sameKey_ne (lit_ne e1)]; simp
end
theorem nodup_len : ∀ (a b : List Ti), a.Nodup → (∀ x ∈ a, x ∈ b) → a.length ≤ b.length := by
  intro a
  induction a with
  | nil => intro b _ _; simp
  | cons x a ih =>
    intro b hn hs
    rw [List.nodup_cons] at hn
    obtain ⟨b1, b2, rfl⟩ := List.append_of_mem (hs x (List.mem_cons_self ..))
    have := ih (b1 ++ b2) hn.2 fun y hy => by
      have := hs y (List.mem_cons_of_mem _ hy)
      rcases List.mem_append.1 this with c | c
      · exact List.mem_append.2 (.inl c)
      · rcases List.mem_cons.1 c with c | c
        · subst c; exact absurd hy hn.1
        · exact List.mem_append.2 (.inr c)
    simp only [List.length_append, List.length_cons] at this ⊢
    omega
/-- What a round keeps: all that lay below n₀, and every map and iterator. -/
def Kpw (n₀ : Nat) (A B : World) : Prop := Below n₀ A B ∧ KeepsWalks A B
theorem kpw_t {n₀ : Nat} {A B C : World} (h : Kpw n₀ A B) (k : Kpw n₀ B C) : Kpw n₀ A C := ⟨h.1.trans k.1, h.2.trans k.2⟩
theorem kpw_b {n₀ : Nat} {w : World} (hn : n₀ ≤ w.heap.size) (W : World) (l : Nat) (o o' : Obj) (hl : w.heap.size ≤ l) (h : W.heap[l]? = some o) (h1 : o.isCells = false) (h2 : o.isWalk = false) : Kpw n₀ W (W.putObj l o') :=
  ⟨belowK_b hn W l o o' hl h h1 h2, KeepsWalks.putObj _ h h2⟩
/-- The wheel lies below n₀. -/
structure Low (n₀ g sb s : Nat) (bm : Nat → Nat) : Prop where
  g : g < n₀
  b : sb < n₀
  m : ∀ j, j < s → bm j < n₀
theorem Wl.low {w w' : World} {n₀ g sb s n : Nat} {bm : Nat → Nat} {l : List Ti} (h : Wl w g sb s n bm l) (hl : Low n₀ g sb s bm) (hb : Below n₀ w w') : Wl w' g sb s n bm l :=
  ⟨(hb.cell (p := ⟨g, 0, none⟩) hl.g).trans h.c0, fun j hj => (hb.cell (p := ⟨sb, j, none⟩) hl.b).trans (h.e0 j hj), fun j hj => (h.mp j hj).block (hb.block _ (hl.m j hj)), h.inj, h.ord, h.pos, h.le⟩
theorem Wl.isLow {w : World} {g sb s n : Nat} {bm : Nat → Nat} {l : List Ti} (h : Wl w g sb s n bm l) : Low w.heap.size g sb s bm := by
  have lt : ∀ (b i : Nat) (v : Value), w.cell? ⟨b, i, none⟩ = some v → b < w.heap.size := fun b i v hc => by
    by_cases c : b < w.heap.size
    · exact c
    · simp [World.cell?, Array.getElem?_eq_none (Nat.le_of_not_lt c)] at hc
  exact ⟨lt _ _ _ h.c0, lt _ _ _ (h.e0 0 h.pos), fun j hj => (h.mp j hj).lt⟩
theorem below_at {n₀ : Nat} {a b : World} {row : Option Nat} (g : a.grownBy b row) (hr : ∀ r, row = some r → n₀ ≤ r) (hn : n₀ ≤ a.heap.size) : Below n₀ a b where
  os := g.os
  tape := g.tape
  output := g.output
  size := g.size
  block i hi := g.block i (Nat.lt_of_lt_of_le hi hn) (fun e => by have := hr i e.symm; omega)
abbrev encT (x : Ti) : Array Value := #[.int .i64 x.id, .int .u64 (x.t : Nat)]
/-- All have come: each once. -/
structure AllT (l ys : List Ti) : Prop where
  nd : ys.Nodup
  mem : ∀ x, x ∈ ys ↔ x ∈ l
  wf : ∀ x ∈ ys, (Lit.int .i64 x.id).wf = true
/-- Those on the first spokes have come, and of one more spoke all but td. -/
structure Come (s : Nat) (l : List Ti) (j : Nat) (lj td pre : List Ti) : Prop where
  nd : pre.Nodup
  mem : ∀ y, y ∈ pre ↔ onF s l j y ∨ y ∈ lj ∧ y ∉ td
  wf : ∀ y ∈ pre, (Lit.int .i64 y.id).wf = true
theorem Come.start (s : Nat) (l : List Ti) : Come s l 0 [] [] [] := ⟨List.nodup_nil, fun y => by simp [onF], fun y h => (by cases h)⟩
theorem Come.spoke {s : Nat} {l : List Ti} {j : Nat} {pre : List Ti} (h : Come s l j [] [] pre) (lj : List Ti) : Come s l j lj lj pre := ⟨h.nd, fun y => by rw [h.mem]; simp, h.wf⟩
theorem Come.next {s : Nat} {l : List Ti} {j : Nat} {pre : List Ti} (h : Come s l j (l.filter fun x => spk s x.id == j) [] pre) : Come s l (j + 1) [] [] pre := ⟨h.nd, fun y => by
  rw [h.mem]
  unfold onF
  rw [List.mem_filter, beq_iff_eq]
  simp only [List.not_mem_nil, not_false_eq_true, and_true, or_false]
  constructor
  · rintro (⟨a, b⟩ | ⟨a, b⟩)
    · exact ⟨a, by omega⟩
    · exact ⟨a, by omega⟩
  · rintro ⟨a, b⟩
    by_cases c : spk s y.id = j
    · exact .inr ⟨a, c⟩
    · exact .inl ⟨a, by omega⟩, h.wf⟩
theorem Come.fresh {s : Nat} {l : List Ti} {j : Nat} {td pre : List Ti} (h : Come s l j (l.filter fun x => spk s x.id == j) td pre) (hs : ∀ x ∈ td, x ∈ (l.filter fun x => spk s x.id == j)) {x : Ti} (hx : x ∈ td) : x ∉ pre := fun hp => by
  have h1 := List.mem_filter.1 (hs x hx)
  rw [beq_iff_eq] at h1
  rcases (h.mem x).1 hp with ⟨_, a⟩ | ⟨_, a⟩
  · omega
  · exact a hx
theorem Come.more {s : Nat} {l : List Ti} {j : Nat} {td pre : List Ti} (h : Come s l j (l.filter fun x => spk s x.id == j) td pre) (hO : Ord td) (hs : ∀ x ∈ td, x ∈ (l.filter fun x => spk s x.id == j)) {x : Ti} (hx : x ∈ td) (hw : (Lit.int .i64 x.id).wf = true) : Come s l j (l.filter fun x => spk s x.id == j) (delL td x.id) (pre ++ [x]) := by
  refine ⟨?_, fun y => ?_, fun y hy => ?_⟩
  · rw [List.nodup_append]
    refine ⟨h.nd, by simp, fun a ha b hb e => ?_⟩
    rw [List.mem_singleton.1 hb] at e
    subst e
    exact h.fresh hs hx ha
  · rw [List.mem_append, List.mem_singleton, h.mem, come_step hO hs hx (onF s l j) y]
  · rcases List.mem_append.1 hy with a | a
    · exact h.wf y a
    · rw [List.mem_singleton.1 a]; exact hw
theorem Come.lt {s : Nat} {l : List Ti} {j : Nat} {td pre : List Ti} (h : Come s l j (l.filter fun x => spk s x.id == j) td pre) (hs : ∀ x ∈ td, x ∈ (l.filter fun x => spk s x.id == j)) {x : Ti} (hx : x ∈ td) : pre.length < l.length := by
  have hn : (x :: pre).Nodup := List.nodup_cons.2 ⟨h.fresh hs hx, h.nd⟩
  have := nodup_len (x :: pre) l hn fun y hy => by
    rcases List.mem_cons.1 hy with rfl | hy
    · exact (List.mem_filter.1 (hs y hx)).1
    · rcases (h.mem y).1 hy with ⟨a, _⟩ | ⟨a, _⟩
      · exact a
      · exact (List.mem_filter.1 a).1
  simp at this
  omega
theorem Come.all {s : Nat} {l pre : List Ti} (h : Come s l s [] [] pre) (hp : 0 < s) : AllT l pre := ⟨h.nd, fun x => by rw [h.mem]; unfold onF; simp [spk_lt hp], h.wf⟩

set_option maxRecDepth 100000 in
set_option maxHeartbeats 2000000 in
theorem all1_in (nd : Nat) (hn : 1 ≤ nd) (lp Bn n₀ : Nat) {g sb s n : Nat} {bm : Nat → Nat} {l : List Ti} (J Jx : List Ti → World → Prop)
    (hY : ∀ pre x W, J pre W → pre.length < l.length → YieldAt Fence.wide (nd - 1) Try.prog lp (encT x) W fun e W' =>
      (e = .returned (.bool true) ∧ J (pre ++ [x]) W' ∧ Kpw n₀ W W') ∨ (e = .returned (.bool false) ∧ Jx (pre ++ [x]) W'))
    (W : World) (hJ : AbidesFrom W.heap.size J) (hBn : W.cell? ⟨Bn, 0, none⟩ = some (.pointer (some ⟨g, 0, none⟩))) (h : Wl W g sb s n bm l) (hL : Low n₀ g sb s bm) (hn0 : n₀ ≤ W.heap.size) (h0 : J [] W) :
    CallsIn Fence.wide nd Try.prog 64 #[.func (.yield lp) #[] #[], .pointer (some ⟨Bn, 0, none⟩)] W fun e W' => (∃ v, e = .returned v) ∧
      ((∃ ys, AllT l ys ∧ J ys W') ∨ (∃ pre : List Ti, True ∧ Jx pre W')) := by
  have c0 := h.c0
  have hle := h.le
  have HW := Lib.hid h
  have HL := Lib.hid hL
  clear h
  refine callsIn_of_wp Try.func64 rfl trivial ?_ rfl
  simp only [Try.ntmps64, List.size_toArray, List.length_cons, List.length_nil, Nat.reduceAdd, Nat.reduceSub, Array.replicate_succ, Array.replicate_zero, List.push_toArray, List.append_toArray, List.nil_append, List.cons_append]
  gi_wp2
  gi_loopw [14] (fun y wr => ∃ (j : Nat) (pre : List Ti), j ≤ s ∧ y = .int .i64 j ∧ Wl wr g sb s n bm l ∧ Come s l j [] [] pre ∧ J pre wr ∧ W.heap.size ≤ wr.heap.size) (fun y _ => s - (intOf y).toNat)
  case atStart => exact ⟨0, [], Nat.zero_le _, rfl, HW.out, Come.start s l, h0, Nat.le_refl _⟩
  case round =>
    clear h0
    obtain ⟨j, pre, hj, rfl, hWl, hC, hJs, hsz⟩ := hrel
    by_cases hlt : j < s
    · have d1 : decide ((j : Int) < (s : Nat)) = true := by simp; omega
      have e0 := hWl.e0 j hlt
      have HM := Lib.hid (hWl.mp j hlt)
      have s0 : (0 : Int) ≤ (j : Nat) := by omega
      have s1 : (j : Int) < (s : Nat) := by omega
      have HI := Lib.hid (And.intro hWl (And.intro (hC.spoke (l.filter fun x => spk s x.id == j)) hJs))
      clear hWl hC hJs
      gi_wp2_with (first
        | (gi_at_range; refine wpListIn_mp_range rfl _ _ rfl keyedI Try.underlying99 rfl HM.out ?_; intro w0 hrg0 hg0 hs0)
        | gi_in)
      go_frame
      have HR0 := Lib.hid hrg0
      have HI0 := Lib.hid (And.intro (HI.out.1.low HL.out (below_at hg0 (fun r h => by cases h) (by omega))) (And.intro HI.out.2.1 (hJ pre wr w0 none HI.out.2.2 hg0 (fun r e => by cases e))))
      have hsz0 : W.heap.size ≤ w0.heap.size := by omega
      clear hrg0 hg0 hs0 HI HM
      generalize wr.heap.size = r at *
      gi_loopw [5, 6] (fun _ _ wq => ∃ (td pre : List Ti), Wl wq g sb s n bm l ∧ Rg Try.prog 3 37 wq (bm j) r n (l.filter fun x => spk s x.id == j) td ∧ Come s l j (l.filter fun x => spk s x.id == j) td pre ∧ J pre wq ∧ W.heap.size ≤ wq.heap.size) (fun _ _ wq => wq.rangeLeft (bm j) r)
      case atStart => exact ⟨_, pre, HI0.out.1, HR0.out, HI0.out.2.1, HI0.out.2.2, hsz0⟩
      case round =>
        clear HI0 HR0 hsz0
        obtain ⟨td, pre1, hWl, hR, hC, hJs, hsz1⟩ := hrel
        have HI := Lib.hid (And.intro hWl (And.intro hR (And.intro hC hJs)))
        clear hWl hR hC hJs
        gi_wp2_with (first
          | (gi_at_next; refine wpListIn_mp_next rfl _ rfl keyedI Try.underlying3 Try.underlying37 td rfl HI.out.2.1 ?_ ?_)
          | gi_in)
        · intro htd
          gi_wp2
          subst htd
          refine ⟨⟨j + 1, pre1, hlt, by go_num, HI.out.1, HI.out.2.2.1.next, HI.out.2.2.2, hsz1⟩, by simp [intOf]; omega⟩
        · intro x w1 hx hwx hwt hR1 hlt1 hg1 hsz2 hen
          have hJ1 : J pre1 w1 := hJ pre1 _ w1 (some r) HI.out.2.2.2 hg1 (fun q e => by cases e; exact ⟨hsz, HI.out.2.1.walk⟩)
          obtain ⟨fn, tmps, assign, body, hy, hRn⟩ := hY pre1 x w1 hJ1 (HI.out.2.2.1.lt HI.out.2.1.sub hx)
          have HN := Lib.hid (And.intro (HI.out.1.low HL.out (below_at hg1 (fun q e => by cases e; omega) (by omega))) (And.intro hR1 (HI.out.2.2.1.more HI.out.2.1.todo HI.out.2.1.sub hx hwx)))
          have HT := Lib.hid hlt1
          have hsz3 : W.heap.size ≤ w1.heap.size := by omega
          clear hR1 hlt1 hg1 hsz2 hwx hwt hJ1 HI
          dsimp only [encT] at hy
          gi_wp2
          refine hRn.mono ?_
          rintro e W3 (⟨rfl, hJ3, hk3⟩ | ⟨rfl, hJx3⟩)
          · have HK := Lib.hid hk3
            have HJ3 := Lib.hid hJ3
            clear hk3 hJ3
            gi_wp2
            go_roundw
            case rel => exact ⟨delL td x.id, pre1 ++ [x], HN.out.1.low HL.out HK.out.1, HN.out.2.1.of_walks HK.out.2, HN.out.2.2, HJ3.out, Nat.le_trans hsz3 HK.out.1.size⟩
            case measure => rw [HN.out.2.1.left_walks HK.out.2]; exact HT.out
          · have HJ3 := Lib.hid hJx3
            clear hJx3
            gi_wp2
            refine bodyPost_ret (results_none rfl _ _ _) rfl ?_
            exact ⟨⟨_, rfl⟩, .inr ⟨pre1 ++ [x], trivial, HJ3.out⟩⟩
    · have e : j = s := by omega
      subst e
      have d1 : decide ((j : Int) < (j : Nat)) = false := by simp
      have HA := Lib.hid (And.intro (hC.all HW.out.pos) hJs)
      clear hC hJs hWl
      gi_wp2
      go_end0
      exact ⟨⟨_, rfl⟩, .inl ⟨pre, HA.out.1, HA.out.2⟩⟩
end Go.Proofs.Ytjjanogfcfapcaa.W
