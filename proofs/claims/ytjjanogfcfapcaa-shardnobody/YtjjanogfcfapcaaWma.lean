/- A map of ids with times, told by a sorted list: over 'World.ownsMap'. Made ahead for stage 11: no function of the program in it. -/
import Derived.Test.YtjjanogfcfapcaaWha
import Derived.Maps.RangeWalk
namespace Go.Proofs.Ytjjanogfcfapcaa.W
open Go.RowKit
open Go.Maps (Keyed IsMap Tidy)
set_option linter.unusedVariables false

theorem delL_length : ∀ {l : List Ti} {id : Int}, (l.map (·.id)).Nodup → (delL l id).length + (if (look l id).isSome then 1 else 0) = l.length
  | [], id, _ => by simp [delL, look_nil]
  | x :: l, id, h => by
    rw [List.map_cons, List.nodup_cons] at h
    have ih := delL_length (id := id) h.2
    rw [look_cons]
    by_cases e : x.id = id
    · have hn : look l id = none := look_none fun y hy ey => h.1 (by rw [e, ← ey]; exact List.mem_map_of_mem hy)
      rw [hn] at ih
      have d : delL (x :: l) id = delL l id := by simp [delL, e]
      rw [d, if_pos e]
      simp at ih ⊢
      exact ih
    · have d : delL (x :: l) id = x :: delL l id := by simp [delL, e]
      rw [d, if_neg e, List.length_cons, List.length_cons]
      omega
theorem insL_length (l : List Ti) (x : Ti) : (insL l x).length = l.length + 1 := by
  have e := congrArg List.length (List.takeWhile_append_dropWhile (p := fun y => decide (ltT y x)) (l := l))
  rw [List.length_append] at e
  unfold insL
  rw [List.length_append, List.length_cons]
  omega
theorem setL_length {l : List Ti} (h : (l.map (·.id)).Nodup) (id : Int) (t : Nat) : (setL l id t).length = if (look l id).isSome then l.length else l.length + 1 := by
  have e := delL_length (id := id) h
  unfold setL
  rw [insL_length]
  split at e
  · rename_i e1; rw [if_pos e1]; exact e
  · rename_i e1; rw [if_neg e1]; omega
/-- The part of a list that lies on some spokes. -/
theorem part_ord {l : List Ti} (h : Ord l) (p : Int → Bool) : Ord (l.filter fun x => p x.id) := ⟨h.so.filter _, (List.filter_sublist.map _).nodup h.nd⟩
theorem part_mem {l : List Ti} {p : Int → Bool} {x : Ti} : x ∈ (l.filter fun x => p x.id) ↔ x ∈ l ∧ p x.id = true := by simp
theorem part_look {l : List Ti} (p : Int → Bool) (id : Int) : look (l.filter fun x => p x.id) id = if p id then look l id else none := by
  induction l with
  | nil => simp [look_nil]
  | cons x l ih =>
    rw [List.filter_cons, look_cons]
    by_cases e : x.id = id
    · subst e
      by_cases c : p x.id = true
      · rw [if_pos c, if_pos c, look_cons, if_pos rfl, if_pos rfl]
      · rw [if_neg c, ih, if_neg c, if_neg c]
    · rw [if_neg e]
      by_cases c : p x.id = true
      · rw [if_pos c, look_cons, if_neg e, ih]
      · rw [if_neg c, ih]
theorem part_del (l : List Ti) (p : Int → Bool) (id : Int) : ((delL l id).filter fun x => p x.id) = delL (l.filter fun x => p x.id) id := by
  unfold delL
  rw [List.filter_filter, List.filter_filter]
  exact List.filter_congr fun x _ => Bool.and_comm _ _
theorem ord_of_look {l l' : List Ti} (h : Ord l) (h' : Ord l') (e : ∀ id, look l id = look l' id) : l = l' :=
  ord_ext h.so h'.so fun x => by rw [look_mem h.nd, look_mem h'.nd, e]
theorem part_del_other {l : List Ti} {p : Int → Bool} {id : Int} (hp : p id = false) : ((delL l id).filter fun x => p x.id) = l.filter fun x => p x.id := by
  unfold delL
  rw [List.filter_filter]
  refine List.filter_congr fun x _ => ?_
  by_cases e : x.id = id
  · rw [e, hp]; rfl
  · simp [e]
theorem part_set {l : List Ti} (h : Ord l) {p : Int → Bool} {id : Int} (hp : p id = true) (t : Nat) : ((setL l id t).filter fun x => p x.id) = setL (l.filter fun x => p x.id) id t := by
  refine ord_of_look (part_ord (setL_ord h id t) p) (setL_ord (part_ord h p) id t) fun j => ?_
  rw [part_look, setL_look h, setL_look (part_ord h p), part_look]
  by_cases e : j = id
  · rw [if_pos e, if_pos e, e, if_pos hp]
  · rw [if_neg e, if_neg e]
theorem part_set_other {l : List Ti} (h : Ord l) {p : Int → Bool} {id : Int} (hp : p id = false) (t : Nat) : ((setL l id t).filter fun x => p x.id) = l.filter fun x => p x.id := by
  refine ord_of_look (part_ord (setL_ord h id t) p) (part_ord h p) fun j => ?_
  rw [part_look, part_look, setL_look h]
  by_cases e : j = id
  · rw [e, hp]; simp
  · rw [if_neg e]
/-- How many lie on the first spokes. -/
def upTo (sp : Int → Nat) (l : List Ti) : Nat → Nat
  | 0 => 0
  | s + 1 => upTo sp l s + (l.filter fun x => sp x.id == s).length
theorem upTo_eq (sp : Int → Nat) (l : List Ti) : ∀ s, upTo sp l s = (l.filter fun x => decide (sp x.id < s)).length
  | 0 => by
    rw [List.filter_eq_nil_iff.2 fun x _ => by simp]
    rfl
  | s + 1 => by
    rw [upTo, upTo_eq sp l s]
    clear upTo_eq
    induction l with
    | nil => rfl
    | cons x l ih =>
      simp only [List.filter_cons]
      rcases Nat.lt_trichotomy (sp x.id) s with c | c | c
      · rw [if_pos (by simpa using c), if_neg (by simp; omega), if_pos (by simp; omega)]
        simp only [List.length_cons]; omega
      · rw [if_neg (by simp; omega), if_pos (by simpa using c), if_pos (by simp; omega)]
        simp only [List.length_cons]; omega
      · rw [if_neg (by simp; omega), if_neg (by simp; omega), if_neg (by simp; omega)]
        exact ih
theorem upTo_all {sp : Int → Nat} {s : Nat} (h : ∀ id, sp id < s) (l : List Ti) : upTo sp l s = l.length := by
  rw [upTo_eq]
  rw [List.filter_eq_self.2 fun x _ => by simpa using h x.id]

/-- The map's datum holds just the list's ids, each with its time. -/
structure Tells (D : DataW Unit) (l : List Ti) : Prop where
  tidy : Tidy D
  ord : Ord l
  has : ∀ id, Maps.has D (.int .i64 id) = (look l id).isSome
  at_ : ∀ id z, D.atKey (.int .i64 id) z = match look l id with | some t => .lit (.int .u64 (t : Nat)) | none => z
  size : Maps.size D = l.length
theorem key_lit (a : Int) : WideAt.IsKeyLit (.int .i64 a) := trivial
theorem lit_ne {a b : Int} (h : a ≠ b) : (Lit.int .i64 a) ≠ .int .i64 b := fun e => h (by cases e; rfl)
theorem tells_nil : Tells (.map []) [] := ⟨Maps.tidy_empty, ⟨List.Pairwise.nil, List.nodup_nil⟩, fun _ => rfl, fun _ _ => rfl, rfl⟩
theorem Tells.put {D : DataW Unit} {l : List Ti} (h : Tells D l) (id : Int) (t : Nat) : Tells (D.put (.int .i64 id) (.lit (.int .u64 (t : Nat)))) (setL l id t) := by
  refine ⟨h.tidy.put (key_lit id) _, setL_ord h.ord id t, fun j => ?_, fun j z => ?_, ?_⟩
  · rw [setL_look h.ord]
    by_cases e : j = id
    · subst e; rw [if_pos rfl, Maps.has_put_same h.tidy.isMap (key_lit _)]; rfl
    · rw [if_neg e, Maps.has_put_other (lit_ne e), h.has]
  · rw [setL_look h.ord]
    by_cases e : j = id
    · subst e; rw [if_pos rfl, Maps.atKey_put_same h.tidy.isMap (key_lit _)]
    · rw [if_neg e, Maps.atKey_put_other (lit_ne e), h.at_]
  · rw [Maps.size_put h.tidy, setL_length h.ord.nd, h.has, h.size]
theorem Tells.del {D : DataW Unit} {l : List Ti} (h : Tells D l) (id : Int) : Tells (D.del (.int .i64 id)) (delL l id) := by
  refine ⟨h.tidy.del _, delL_ord h.ord id, fun j => ?_, fun j z => ?_, ?_⟩
  · rw [delL_look]
    by_cases e : j = id
    · subst e; rw [if_pos rfl, Maps.has_del_same]; rfl
    · rw [if_neg e, Maps.has_del_other (lit_ne e), h.has]
  · rw [delL_look]
    by_cases e : j = id
    · subst e; rw [if_pos rfl, Maps.atKey_del_same]
    · rw [if_neg e, Maps.atKey_del_other (lit_ne e), h.at_]
  · have a := Maps.size_del (k := .int .i64 id) h.tidy
    have b := delL_length (id := id) h.ord.nd
    rw [h.has, h.size] at a
    omega

/-- Block b is a map of ids to times of at most n entries; they are the list's. -/
def Mp (P : Program) (k e : TypeId) (w : World) (b n : Nat) (l : List Ti) : Prop := ∃ D : DataW Unit, w.ownsMap P k (plainElem P e) b n D ∧ Tells D l
variable {P : Program} {k e : TypeId} {w : World} {b n r : Nat} {l td : List Ti}
theorem mp_made (w : World) (P : Program) (k e : TypeId) : Mp P k e (w.alloc (.map #[] 0)) w.heap.size 0 [] := ⟨_, World.ownsMap_made w P k _, tells_nil⟩
theorem Mp.ord (h : Mp P k e w b n l) : Ord l := let ⟨_, _, t⟩ := h; t.ord
theorem Mp.lt (h : Mp P k e w b n l) : b < w.heap.size := let ⟨_, o, _⟩ := h; o.lt
theorem Mp.len (h : Mp P k e w b n l) : l.length ≤ n := by obtain ⟨_, o, t⟩ := h; rw [← t.size]; exact o.size_le
theorem Mp.kept {w' : World} {row : Option Nat} (h : Mp P k e w b n l) (hg : w.grownBy w' row) (hne : some b ≠ row) : Mp P k e w' b n l := let ⟨D, o, t⟩ := h; ⟨D, o.kept hg hne, t⟩
theorem Mp.setCell (h : Mp P k e w b n l) {a : Addr} (ha : b ≠ a.block) (u : Value) : Mp P k e (w.setCell a u) b n l := let ⟨D, o, t⟩ := h; ⟨D, o.setCell ha u, t⟩
theorem Mp.block {w' : World} (h : Mp P k e w b n l) (hb : w'.heap[b]? = w.heap[b]?) : Mp P k e w' b n l := let ⟨D, ⟨es, c, h0, h1⟩, t⟩ := h; ⟨D, ⟨es, c, hb.trans h0, h1⟩, t⟩
/-- The bound may be any that the entries keep. -/
theorem Mp.tight (h : Mp P k e w b n l) : Mp P k e w b l.length l := by
  obtain ⟨D, ⟨es, c, h0, F, hs, hD⟩, t⟩ := h
  refine ⟨D, ⟨es, c, h0, F, ?_, hD⟩, t⟩
  have e1 := t.size
  rw [hD] at e1
  rw [← e1, Maps.size_eq, length_read]
  exact Nat.le_refl _

section
variable {ops : Array Oper} {rest : List Oper} {o : Oper} {a : Act} {Q : Exit → Act → World → Prop}
theorem wpList_mp_look (hg : o.guard = none) (m x : Operand) (t : TypeId) (hop : o.op = Op.lookup t m x true) (K : Keyed P k) (ht : P.underlying t = some (.map k e)) (hk : P.underlying k = some (.int .i64)) (he : P.underlying e = some (.int .u64))
    (hz : (zeroValue e).run P w = .ok (.int .u64 0) w) (id : Int) (hm : a.eval m = .map (some b)) (hI : Mp P k e w b n l) (hx : a.eval x = .int .i64 id) (hw : (Lit.int .i64 id).wf = true)
    (hK : wpList P ops Q rest (a.put o.dst (.tuple #[.int .u64 (((look l id).getD 0 : Nat) : Int), .bool (look l id).isSome])) w) : wpList P ops Q (o :: rest) a w := by
  obtain ⟨D, hown, T⟩ := hI
  refine wpList_lookup_own_ok_int w hg m x t hop k e .u64 K ht he hz b n D hm hown _ _ hx (Maps.keyOf_int_mk hk hw) ?_
  intro c hat hwc
  rw [T.has]
  rw [T.at_] at hat
  cases hl : look l id with
  | none => rw [hl] at hat hK; cases hat; exact hK
  | some v => rw [hl] at hat hK; cases hat; exact hK
theorem wpList_mp_put (hg : o.guard = none) (m x v : Operand) (t : TypeId) (hop : o.op = Op.mapUpdate t m x v) (K : Keyed P k) (ht : P.underlying t = some (.map k e)) (hk : P.underlying k = some (.int .i64)) (he : P.underlying e = some (.int .u64))
    (id : Int) (u : Nat) (hm : a.eval m = .map (some b)) (hI : Mp P k e w b n l) (hn : n < maxLen) (hx : a.eval x = .int .i64 id) (hv : a.eval v = .int .u64 (u : Int)) (hw : (Lit.int .i64 id).wf = true) (hu : (Lit.int .u64 (u : Int)).wf = true)
    (hK : ∀ w', Mp P k e w' b (n + 1) (setL l id u) → w.mapTurned w' b → wpList P ops Q rest (a.put o.dst undef) w') : wpList P ops Q (o :: rest) a w := by
  obtain ⟨D, hown, T⟩ := hI
  exact wpList_mapUpdate_in w hg m x v t hop k e K ht (plainElem P e) b n D hm hown hn _ _ _ hx hv (Maps.keyOf_int_mk hk hw) _ _ (plainElem_int he hu) fun w' h1 h2 => hK w' ⟨_, h1, T.put id u⟩ h2
theorem wpList_mp_del (hg : o.guard = none) (m x : Operand) (t : TypeId) (hop : o.op = Op.call { callee := Callee.builtin Builtin.delete, args := #[m, x], argTypes := #[t, k] }) (K : Keyed P k) (ht : P.underlying t = some (.map k e)) (hk : P.underlying k = some (.int .i64))
    (id : Int) (hm : a.eval m = .map (some b)) (hI : Mp P k e w b n l) (hx : a.eval x = .int .i64 id) (hw : (Lit.int .i64 id).wf = true)
    (hK : ∀ w', Mp P k e w' b n (delL l id) → w.mapTurned w' b → wpList P ops Q rest (a.put o.dst (.tuple #[])) w') : wpList P ops Q (o :: rest) a w := by
  obtain ⟨D, hown, T⟩ := hI
  exact wpList_delete_own w hg m x t k hop e K ht (plainElem P e) b n D hm hown _ _ hx (Maps.keyOf_int_mk hk hw) fun w' h1 h2 => hK w' ⟨_, h1, T.del id⟩ h2
theorem wpList_mp_len (hg : o.guard = none) (m : Operand) (t : TypeId) (hop : o.op = Op.call { callee := Callee.builtin Builtin.len, args := #[m], argTypes := #[t] }) (ht : P.underlying t = some (.map k e))
    (hm : a.eval m = .map (some b)) (hI : Mp P k e w b n l) (hK : wpList P ops Q rest (a.put o.dst (.int .i64 (l.length : Nat))) w) : wpList P ops Q (o :: rest) a w := by
  obtain ⟨D, hown, T⟩ := hI
  refine wpList_len_own w hg m t hop k e ht (plainElem P e) b n D hm hown ?_
  rw [T.size]
  exact hK

/-- 'for id, at := range m' under way: td are still to come. -/
def Rg (P : Program) (k e : TypeId) (w : World) (b r n : Nat) (l td : List Ti) : Prop := ∃ (D : DataW Unit) (left : Lit → Bool) (cnt : Nat), w.ranges P k (plainElem P e) b r n D left cnt ∧ Tells D l ∧ (∀ id, left (.int .i64 id) = (look td id).isSome) ∧ Ord td ∧ ∀ x ∈ td, x ∈ l
theorem Rg.mp (h : Rg P k e w b r n l td) : Mp P k e w b n l := let ⟨D, _, _, h, t, _⟩ := h; ⟨D, h.owns, t⟩
theorem Rg.ne (h : Rg P k e w b r n l td) : r ≠ b := let ⟨D, _, _, h, t, _⟩ := h; h.ne
theorem Rg.lt (h : Rg P k e w b r n l td) : r < w.heap.size := let ⟨D, _, _, h, t, _⟩ := h; h.lt
theorem Rg.todo (h : Rg P k e w b r n l td) : Ord td := let ⟨_, _, _, _, _, _, h, _⟩ := h; h
theorem Rg.sub (h : Rg P k e w b r n l td) : ∀ x ∈ td, x ∈ l := let ⟨_, _, _, _, _, _, _, h⟩ := h; h
theorem Rg.kept {w' : World} {row : Option Nat} (h : Rg P k e w b r n l td) (hg : w.grownBy w' row) (hb : some b ≠ row) (hr : some r ≠ row) : Rg P k e w' b r n l td := let ⟨D, left, cnt, h, t⟩ := h; ⟨D, left, cnt, h.kept hg hb hr, t⟩
theorem wpList_mp_range (hg : o.guard = none) (m : Operand) (t : TypeId) (hop : o.op = Op.range t m) (K : Keyed P k) (ht : P.underlying t = some (.map k e)) (hm : a.eval m = .map (some b)) (hI : Mp P k e w b n l)
    (hK : ∀ w', Rg P k e w' b w.heap.size n l l → w.grownBy w' none → w'.heap.size = w.heap.size + 1 → wpList P ops Q rest (a.put o.dst (.pointer (some ⟨w.heap.size, 0, none⟩))) w') : wpList P ops Q (o :: rest) a w := by
  obtain ⟨D, hown, T⟩ := hI
  exact wpList_range_own w hg m t hop k e K ht (plainElem P e) b n D hm hown fun w' h1 h2 h3 => hK w' ⟨D, _, _, h1, T, T.has, T.ord, fun x hx => hx⟩ h2 h3
theorem wpList_mp_next (hg : o.guard = none) (it : Operand) (hop : o.op = Op.next it false) (K : Keyed P k) (hk : P.underlying k = some (.int .i64)) (he : P.underlying e = some (.int .u64)) (td : List Ti) (hit : a.eval it = .pointer (some ⟨r, 0, none⟩)) (h : Rg P k e w b r n l td)
    (hDone : td = [] → wpList P ops Q rest (a.put o.dst (.tuple #[.bool false])) w)
    (hMore : ∀ (x : Ti) (w' : World), x ∈ td → (Lit.int .i64 x.id).wf = true → (Lit.int .u64 (x.t : Int)).wf = true → Rg P k e w' b r n l (delL td x.id) → w'.rangeLeft b r < w.rangeLeft b r → w.grownBy w' (some r) → w'.heap.size = w.heap.size →
      (Instr.entry (.pointer (some ⟨r, 0, none⟩))).run P w' = .ok (.tuple #[.int .i64 x.id, .int .u64 (x.t : Nat)]) w' → wpList P ops Q rest (a.put o.dst (.tuple #[.bool true, .int .i64 x.id, .int .u64 (x.t : Nat)])) w') : wpList P ops Q (o :: rest) a w := by
  obtain ⟨D, left, cnt, hrg, T, hl, hO, hs⟩ := h
  refine wpList_next_ranges_ii w hg it hop k e .i64 .u64 K hk he b r n D left cnt hit hrg (fun _ h0 => hDone ?_) ?_
  · cases td with
    | nil => rfl
    | cons x td =>
      have a1 := hl x.id
      rw [h0, (look_mem hO.nd).1 (List.mem_cons_self ..)] at a1
      cases a1
  · intro x c w' cnt' hwx hwc hlx hat hrg' hlt hg' hsz hen
    rw [hl] at hlx
    obtain ⟨t, ht⟩ := Option.isSome_iff_exists.1 hlx
    have hm := look_some ht
    have hml := hs _ hm
    have ht' := (look_mem T.ord.nd).1 hml
    have a1 := hat (.lit (.int .u64 0))
    rw [T.at_, ht'] at a1
    cases a1
    refine hMore ⟨x, t⟩ w' hm hwx hwc ⟨D, _, cnt', hrg', T, fun j => ?_, delL_ord hO x, fun y hy => hs y (delL_mem.1 hy).1⟩ (by rw [hrg'.left_eq, hrg.left_eq]; exact hlt) hg' hsz hen
    rw [delL_look]
    by_cases e1 : j = x
    · subst e1; rw [if_pos rfl, WideAt.sameKey_self (key_lit j)]; simp
    · rw [if_neg e1, hl, Maps.sameKey_ne (lit_ne e1)]; simp
theorem wpList_mp_drop (hg : o.guard = none) (m x : Operand) (t : TypeId) (hop : o.op = Op.call { callee := Callee.builtin Builtin.delete, args := #[m, x], argTypes := #[t, k] }) (K : Keyed P k) (ht : P.underlying t = some (.map k e)) (hk : P.underlying k = some (.int .i64))
    (td : List Ti) (id : Int) (hm : a.eval m = .map (some b)) (hI : Rg P k e w b r n l td) (hx : a.eval x = .int .i64 id) (hw : (Lit.int .i64 id).wf = true)
    (hK : ∀ w', Rg P k e w' b r n (delL l id) (delL td id) → w'.rangeLeft b r ≤ w.rangeLeft b r → w.mapTurned w' b → wpList P ops Q rest (a.put o.dst (.tuple #[])) w') : wpList P ops Q (o :: rest) a w := by
  obtain ⟨D, left, cnt, hrg, T, hl, hO, hs⟩ := hI
  refine wpList_delete_ranges w hg m x t k hop e K ht (plainElem P e) b r n D left cnt hm hrg _ _ hx (Maps.keyOf_int_mk hk hw) fun w' cnt' h1 h2 h3 => hK w' ⟨_, _, _, h1, T.del id, fun j => ?_, delL_ord hO id, fun y hy => ?_⟩ (by rw [h1.left_eq, hrg.left_eq]; exact h2) h3
  · rw [delL_look]
    by_cases e1 : j = id
    · subst e1; rw [if_pos rfl, WideAt.sameKey_self (key_lit j)]; simp
    · rw [if_neg e1, hl, Maps.sameKey_ne (lit_ne e1)]; simp
  · obtain ⟨a1, a2⟩ := delL_mem.1 hy
    exact delL_mem.2 ⟨hs y a1, a2⟩
end
theorem delL_twice (l : List Ti) (id : Int) : delL (delL l id) id = delL l id := by
  unfold delL
  rw [List.filter_filter]
  exact List.filter_congr fun x _ => by simp
end Go.Proofs.Ytjjanogfcfapcaa.W
