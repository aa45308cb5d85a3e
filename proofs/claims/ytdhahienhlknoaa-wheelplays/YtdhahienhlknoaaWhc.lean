/- The contracts of derrickref11.At, Next, Due, Set. Made ahead for stage 11 at a practice seat. -/
import Derived.Test.YtdhahienhlknoaaWhb
import Derived.Deep.AppendLies
import Derived.Deep.RegionHeld
namespace Go.Proofs.Ytdhahienhlknoaa
open Go.RowKit
set_option linter.unusedVariables false

theorem look_snoc (l : List Ti) (x : Ti) (id : Int) (h : look l id = none) : look (l ++ [x]) id = if x.id = id then some x.t else none := by
  unfold look at *
  rw [List.find?_append]
  have hn : l.find? (fun x => x.id == id) = none := by simpa using h
  rw [hn]
  by_cases e : x.id = id
  · simp [e]
  · simp [e]
theorem look_take {l : List Ti} {id : Int} {j : Nat} (hj : j < l.length) (h : look (l.take j) id = none) : look (l.take (j + 1)) id = if l[j].id = id then some l[j].t else none := by
  rw [List.take_add_one, List.getElem?_eq_getElem hj]
  exact look_snoc _ _ _ h
theorem look_found : ∀ {l : List Ti} {id : Int} {j : Nat} (hj : j < l.length), look (l.take j) id = none → l[j].id = id → look l id = some l[j].t
  | [], id, j, hj, _, _ => absurd hj (by simp)
  | x :: l, id, 0, hj, _, e => by
    rw [look_cons, if_pos (show x.id = id from e)]
    rfl
  | x :: l, id, j + 1, hj, h, e => by
    rw [List.take_succ_cons, look_cons] at h
    rw [look_cons]
    by_cases ex : x.id = id
    · rw [if_pos ex] at h; cases h
    · rw [if_neg ex] at h ⊢
      exact look_found (by simpa using hj) h e
/-- At's answer, in two parts. -/
def lkT (o : Option Nat) : Nat := o.getD 0
set_option maxRecDepth 100000 in
set_option maxHeartbeats 1000000 in
theorem rat_any (A : Option Addr) (cap : Nat) (l : List Ti) (id : Int) (hl : l.length ≤ 1000) (w : World) (hI : Ss w A cap l) : Calls Try.prog 13 #[.slice A l.length cap, .int .i64 id] w fun e w' => e = .returned (.tuple #[.int .u64 (lkT (look l id) : Nat), .bool (look l id).isSome]) ∧ w' = w := by
  have HI := Lib.hid hI
  clear hI
  obtain ⟨o, ho⟩ : ∃ o, look l id = o := ⟨_, rfl⟩
  rw [ho]
  have HO := Lib.hid ho
  clear ho
  go_enter Try.func13, Try.ntmps13
  go_wp2_with fail
  go_loopw [6] (fun x wr => ∃ j : Nat, j ≤ l.length ∧ x = .int .i64 j ∧ wr = w ∧ look (l.take j) id = none) (fun x _ => l.length - (intOf x).toNat)
  case atStart => exact ⟨0, Nat.zero_le _, rfl, rfl, by rw [List.take_zero]; rfl⟩
  case round =>
    obtain ⟨j, hj, rfl, rfl, hno⟩ := hrel
    by_cases hlt : j < l.length
    · have d1 : decide ((j : Int) < (l.length : Nat)) = true := by simp; omega
      obtain ⟨b, off, rfl, hb, c0, c1⟩ := HI.out.at j hlt
      have s0 : (0 : Int) ≤ (j : Nat) := by omega
      have s1 : (j : Int) < (l.length : Nat) := by omega
      have ht := look_take (id := id) hlt hno
      have hf := look_found (id := id) hlt hno
      generalize l[j] = r at *
      by_cases e : r.id = id
      · have hfe := hf e
        rw [HO.out] at hfe
        have HF := Lib.hid hfe
        rw [e] at c0
        clear ht hf hfe e hno
        go_wp2_with fail
        go_ret2
        exact ⟨by rw [HF.out]; rfl, rfl⟩
      · rw [if_neg e] at ht
        have e1 : decide (r.id = id) = false := by simpa using e
        have e2 : (r.id == id) = false := by simpa using e
        have HT := Lib.hid ht
        clear ht hf hno
        go_wp2_with fail
        go_roundw
        case rel => exact ⟨j + 1, hlt, by go_num, by trivial, HT.out⟩
        case measure => simp [intOf]; omega
    · obtain rfl : j = l.length := by omega
      have d1 : decide ((l.length : Int) < (l.length : Nat)) = false := by simp
      rw [List.take_length, HO.out] at hno
      have HF := Lib.hid hno
      clear hno
      go_wp2_with fail
      go_ret2
      exact ⟨by rw [HF.out]; rfl, rfl⟩
/-- The least time. -/
def nextL (l : List Ti) : Option Nat := l.head?.map (·.t)
set_option maxHeartbeats 1000000 in
theorem rnext_any (A : Option Addr) (cap : Nat) (l : List Ti) (hl : l.length ≤ 1000) (w : World) (hI : Ss w A cap l) : Calls Try.prog 15 #[.slice A l.length cap] w fun e w' => e = .returned (.tuple #[.int .u64 (lkT (nextL l) : Nat), .bool (nextL l).isSome]) ∧ w' = w := by
  cases l with
  | nil =>
    rw [show nextL [] = none from rfl]
    clear hI hl
    go_enter Try.func15, Try.ntmps15
    go_wp2_with fail
    go_ret2
    exact ⟨rfl, rfl⟩
  | cons x t =>
    obtain ⟨b, off, rfl, hb, c0, c1⟩ := hI.at 0 (by simp)
    rw [show nextL (x :: t) = some x.t from rfl]
    simp only [List.getElem_cons_zero, Nat.zero_mul, Nat.add_zero] at c0 c1
    obtain ⟨n, hn⟩ : ∃ n, (x :: t).length = n := ⟨_, rfl⟩
    have hn1 : 1 ≤ n := by rw [← hn]; simp
    rw [hn] at hl ⊢
    have n0 : ((n : Int) == 0) = false := by simp; omega
    have s1 : (0 : Int) < (n : Nat) := by omega
    clear hI hn
    go_enter Try.func15, Try.ntmps15
    go_wp2_with fail
    go_ret2
    exact ⟨rfl, rfl⟩
/-- A slice of ints. -/
def NsI (w : World) (A : Option Addr) (l : List Int) : Prop := ∀ j (h : j < l.length), ∃ b off : Nat, A = some ⟨b, off, none⟩ ∧ b < w.heap.size ∧ w.cell? ⟨b, off + j, none⟩ = some (.int .i64 l[j])
theorem NsI.below {w w' : World} {A : Option Addr} {l : List Int} (h : NsI w A l) (hb : Below w.heap.size w w') : NsI w' A l := fun j hj => by
  obtain ⟨b, off, h1, h2, h3⟩ := h j hj
  exact ⟨b, off, h1, Nat.lt_of_lt_of_le h2 hb.size, (hb.cell (p := ⟨b, off + j, none⟩) h2).trans h3⟩
def valI (l : List Int) : List Value := l.map fun i => Value.int .i64 i
theorem valI_snoc (l : List Int) (i : Int) : valI (l ++ [i]) = valI l ++ [Value.int .i64 i] := by simp [valI]
theorem elI : (Try.prog.info? 3).map (fun i => (i.zero, i.size, i.bytes)) = some (some (.int .i64 0), 1, 8) := by kernel_rfl
theorem newI (W : World) (n : Int) : ∀ j u, ([Value.int .i64 n] : List Value)[j]? = some u → (W.alloc (.cells #[.int .i64 n] 3)).cell? ((⟨W.heap.size, 0, none⟩ : Addr).add j) = some u := fun j u hj => by
  have h := heap_alloc_new W (Obj.cells #[.int .i64 n] 3)
  rw [Addr.add_lit, Nat.zero_add, blk_cell h j, ← hj]
  simp
theorem nsI_own {w : World} {B : Nat} {v : Value} {l : List Int} (h : w.ownsRow B 3 1 v l.length (valI l)) : ∃ A cap, v = .slice A l.length cap ∧ NsI w A l := by
  rcases h.2 with ⟨hv, hn⟩ | ⟨g, cap, cur, hv, hB, hg, hc, hm, hz, ht⟩
  · exact ⟨none, 0, by rw [hv, hn], fun j hj => by omega⟩
  · subst hv
    refine ⟨_, cap, rfl, fun j hj => ⟨g, 0, rfl, heap_lt hg, ?_⟩⟩
    rw [Nat.zero_add, h.cellAt j (by omega)]
    simp [valI, hj]
theorem due_at : ∀ {l : List Ti} {now j : Nat}, j ≤ l.length → (∀ x ∈ l.take j, x.t ≤ now) → (∀ h : j < l.length, now < l[j].t) → dueL l now = l.take j ∧ restL l now = l.drop j
  | [], now, j, hj, _, _ => by
    have : j = 0 := by simpa using hj
    subst this
    exact ⟨rfl, rfl⟩
  | x :: l, now, 0, _, _, h => by
    have := h (by simp)
    simp only [List.getElem_cons_zero] at this
    unfold dueL restL
    rw [List.takeWhile_cons, List.dropWhile_cons]
    have e : decide (x.t ≤ now) = false := by simp; omega
    rw [e]
    exact ⟨rfl, rfl⟩
  | x :: l, now, j + 1, hj, ha, h => by
    have e : decide (x.t ≤ now) = true := by simpa using ha x (by simp)
    obtain ⟨h1, h2⟩ := due_at (l := l) (now := now) (j := j) (by simpa using hj) (fun y hy => ha y (by rw [List.take_succ_cons]; exact List.mem_cons_of_mem _ hy)) (fun hlt => h (by simpa using hlt))
    unfold dueL restL at *
    rw [List.takeWhile_cons, List.dropWhile_cons, e, h1, h2]
    exact ⟨rfl, rfl⟩
theorem Ss.drop {w : World} {b off cap : Nat} {l : List Ti} (h : Ss w (some ⟨b, off, none⟩) cap l) (j : Nat) (hj : j ≤ l.length) : Ss w (some ⟨b, off + j * 2, none⟩) (cap - j) (l.drop j) := by
  refine ⟨(fun h => by cases h), by rw [List.length_drop]; have := h.le; omega, ?_⟩
  rcases h.has with h1 | ⟨b', off', h1, h2, h3⟩
  · left; rw [h1]; simp
  · cases h1
    refine .inr ⟨b, off + j * 2, rfl, h2, fun i u hu => ?_⟩
    rw [Nat.add_assoc]
    refine h3 (j * 2 + i) u ?_
    have e : l.flatMap tf = (l.take j).flatMap tf ++ (l.drop j).flatMap tf := by rw [← List.flatMap_append, List.take_append_drop]
    rw [e, List.getElem?_append_right (by rw [tf_len, List.length_take]; omega), tf_len, List.length_take, Nat.min_eq_left hj, Nat.add_sub_cancel_left]
    exact hu

set_option maxRecDepth 100000 in
set_option maxHeartbeats 2000000 in
theorem rdue_any (A : Option Addr) (cap : Nat) (l : List Ti) (now : Nat) (hl : l.length ≤ 1000) (hcap : cap ≤ maxLen) (w : World) (hI : Ss w A cap l) : Calls Try.prog 23 #[.slice A l.length cap, .int .u64 (now : Nat)] w fun e w' => ∃ A' c' A2 c2, e = .returned (.tuple #[.slice A' (restL l now).length c', .slice A2 (dueL l now).length c2]) ∧ Ss w' A' c' (restL l now) ∧ NsI w' A2 ((dueL l now).map (·.id)) ∧ Below w.heap.size w w' := by
  obtain ⟨i0, hi, hz0, hz1, hz2⟩ := el_of elI
  have HI := Lib.hid hI
  have hle := hI.le
  clear hI
  go_enter Try.func23, Try.ntmps23
  go_wp2_with fail
  go_loopw [6, 7] (fun v x wr => ∃ j : Nat, j ≤ l.length ∧ x = .int .i64 j ∧ (∀ y ∈ l.take j, y.t ≤ now) ∧ wr.ownsRow w.heap.size 3 1 v j (valI ((l.take j).map (·.id))) ∧ Below w.heap.size w wr) (fun _ x _ => l.length - (intOf x).toNat)
  case atStart => exact ⟨0, Nat.zero_le _, rfl, (fun y hy => by simp at hy), World.ownsRow_nil _ _ _ _, Below.refl _ _⟩
  case round =>
    obtain ⟨j, hj, rfl, hall, hown, hbel⟩ := hrel
    obtain ⟨Av, cv, rfl⟩ := ownR_form hown
    by_cases hlt : j < l.length
    · have d1 : decide ((j : Int) < (l.length : Nat)) = true := by simp; omega
      obtain ⟨b, off, rfl, hb, c0, c1⟩ := (HI.out.below hbel).at j hlt
      have s0 : (0 : Int) ≤ (j : Nat) := by omega
      have s1 : (j : Int) < (l.length : Nat) := by omega
      by_cases e : l[j].t ≤ now
      · have e1 : decide ((l[j].t : Int) ≤ (now : Nat)) = true := by simp; omega
        have hall2 : ∀ y ∈ l.take (j + 1), y.t ≤ now := fun y hy => by
          rw [List.take_add_one, List.getElem?_eq_getElem hlt, List.mem_append] at hy
          rcases hy with hy | hy
          · exact hall y hy
          · simp at hy; subst hy; exact e
        have hv : valI ((l.take (j + 1)).map (·.id)) = valI ((l.take j).map (·.id)) ++ [Value.int .i64 l[j].id] := by
          rw [List.take_add_one, List.getElem?_eq_getElem hlt, List.map_append]
          exact valI_snoc _ _
        have ho3 := hown.alloc (Obj.cells #[.int .i64 l[j].id] 3)
        have hb3 := hbel.alloc hbel.size (Obj.cells #[.int .i64 l[j].id] 3)
        have HT := Lib.hid (And.intro hall2 hv)
        have HO3 := Lib.hid ho3
        have HB3 := Lib.hid hb3
        clear hall hall2 hv hown hbel ho3 hb3
        generalize l[j] = r at *
        generalize valI ((l.take j).map (·.id)) = vs at *
        go_wp2_with (at_builtin; (refine wpList_append_own _ rfl _ _ 43 rfl w.heap.size 3 i0 (.int .i64 0) 1 8 Try.underlying43 hi hz0 hz1 hz2 rfl (by decide) _ _ _ rfl HO3.out ⟨wr.heap.size, 0, none⟩ 1 1 [Value.int .i64 r.id] rfl rfl (newI wr r.id) ?q3 ?q4 ?q5 HB3.out.size ?_))
        case q3 => first | (intro u hu; simp at hu; subst hu; rfl) | rfl
        case q4 => unfold maxLen; omega
        case q5 => omega
        intro v' w3 hown2 hgrow hnil
        have hb4 := HB3.out.grown hgrow HB3.out.size (fun k hk => (HO3.out.lt k hk).1)
        rw [← HT.out.2] at hown2
        have HF := Lib.hid (And.intro hown2 hb4)
        clear hown2 hgrow hnil hb4
        go_wp2_with fail
        go_roundw
        case rel => exact ⟨j + 1, hlt, by go_num, HT.out.1, HF.out.1, HF.out.2⟩
        case measure => simp [intOf]; omega
      · have e1 : decide ((l[j].t : Int) ≤ (now : Nat)) = false := by simp; omega
        have e3 : decide (l[j].t ≤ now) = false := by simp; omega
        obtain ⟨hd, hr⟩ := due_at hj hall (fun _ => by omega)
        have hne : ¬ cap = j := by omega
        have hSS := (HI.out.below hbel).drop j hj
        have hlen : (l.drop j).length = l.length - j := List.length_drop
        have hdl : (l.take j).length = j := by rw [List.length_take]; omega
        have hown2 : wr.ownsRow w.heap.size 3 1 (.slice Av j cv) ((l.take j).map (·.id)).length (valI ((l.take j).map (·.id))) := by rw [List.length_map, hdl]; exact hown
        obtain ⟨A2, c2, h2, hN⟩ := nsI_own hown2
        rw [List.length_map, hdl] at h2
        cases h2
        rw [← hr] at hSS hlen
        rw [← hd] at hN hdl
        have HF := Lib.hid (And.intro hSS (And.intro hN (And.intro hbel (And.intro hlen hdl))))
        clear hSS hN hown hown2 hall hbel hlen hdl hd hr e
        generalize l[j] = r at *
        go_wp2_with fail
        go_ret2
        exact ⟨some ⟨b, off + j * 2, none⟩, cap - j, Av, cv, by rw [HF.out.2.2.2.1, HF.out.2.2.2.2]; rfl, HF.out.1, HF.out.2.1, HF.out.2.2.1⟩
    · obtain rfl : j = l.length := by omega
      have d1 : decide ((l.length : Int) < (l.length : Nat)) = false := by simp
      obtain ⟨hd, hr⟩ := due_at hj hall (fun h => absurd h hlt)
      rw [List.take_length] at hd hown
      rw [List.drop_length] at hr
      have hown2 : wr.ownsRow w.heap.size 3 1 (.slice Av l.length cv) (l.map (·.id)).length (valI (l.map (·.id))) := by rw [List.length_map]; exact hown
      obtain ⟨A2, c2, h2, hN⟩ := nsI_own hown2
      rw [List.length_map] at h2
      cases h2
      have HF := Lib.hid (And.intro hN (And.intro hbel (And.intro hd hr)))
      clear hown hown2 hN hbel hd hr hall
      by_cases hc : cap = l.length
      · go_wp2_with fail
        go_ret2
        exact ⟨A, 0, Av, cv, by rw [HF.out.2.2.1, HF.out.2.2.2]; rfl, by rw [HF.out.2.2.2]; exact ⟨fun _ => rfl, Nat.le_refl _, .inl rfl⟩, by rw [HF.out.2.2.1]; exact HF.out.1, HF.out.2.1⟩
      · go_wp2_with fail
        go_ret2
        exact ⟨A.map (·.add (l.length * 2)), cap - l.length, Av, cv, by rw [HF.out.2.2.1, HF.out.2.2.2]; rfl, by
          rw [HF.out.2.2.2]
          refine ⟨fun h => ?_, Nat.zero_le _, .inl rfl⟩
          have : A = none := by simpa using h
          have := HI.out.nl this
          omega, by rw [HF.out.2.2.1]; exact HF.out.1, HF.out.2.1⟩
end Go.Proofs.Ytdhahienhlknoaa
