/- A model, in plain mathematics: entries in the order in which their questions came; what each deed makes of them; questions in order. -/
import Derived.Test.YtnmgeoeppfdnhaaBqa
namespace Go.Proofs.Ytnmgeoeppfdnhaa
set_option linter.unusedVariables false

/-! ### questions in order -/
theorem bl_irr : ∀ x : List UInt8, Op.bytesLess x x = false
  | [] => rfl
  | a :: x => by
    unfold Op.bytesLess
    rw [bl_irr x]
    simp
theorem bl_trans : ∀ x y z : List UInt8, Op.bytesLess x y = true → Op.bytesLess y z = true → Op.bytesLess x z = true
  | _, [], _, h, _ => by cases h2 : (‹List UInt8›) <;> simp [Op.bytesLess] at h
  | _, _ :: _, [], _, h => by simp [Op.bytesLess] at h
  | [], _ :: _, _ :: _, _, _ => rfl
  | a :: x, b :: y, c :: z, h, k => by
    simp only [Op.bytesLess, Bool.or_eq_true, decide_eq_true_eq, Bool.and_eq_true, beq_iff_eq] at h k ⊢
    rcases h with h | ⟨h, h2⟩
    · rcases k with k | ⟨k, k2⟩
      · exact .inl (UInt8.lt_trans h k)
      · subst k; exact .inl h
    · subst h
      rcases k with k | ⟨k, k2⟩
      · exact .inl k
      · exact .inr ⟨k, bl_trans x y z h2 k2⟩
theorem bl_tot : ∀ x y : List UInt8, x ≠ y → Op.bytesLess x y = true ∨ Op.bytesLess y x = true
  | [], [], h => absurd rfl h
  | [], _ :: _, _ => .inl rfl
  | _ :: _, [], _ => .inr rfl
  | a :: x, b :: y, h => by
    simp only [Op.bytesLess, Bool.or_eq_true, decide_eq_true_eq, Bool.and_eq_true, beq_iff_eq]
    by_cases e : a = b
    · subst e
      have h2 : x ≠ y := fun e => h (by rw [e])
      rcases bl_tot x y h2 with h3 | h3
      · exact .inl (.inr ⟨rfl, h3⟩)
      · exact .inr (.inr ⟨rfl, h3⟩)
    · rcases UInt8.lt_or_lt_of_ne e with h3 | h3
      · exact .inl (.inl h3)
      · exact .inr (.inl h3)
theorem ba_inj {a b : ByteArray} (h : a.toList = b.toList) : a = b := by
  rw [ByteArray.toList_eq, ByteArray.toList_eq] at h
  exact ByteArray.ext (Array.toList_inj.1 h)
/-- Is a question ahead of another one? -/
def lessQ (a b : Qu) : Bool := if a.n = b.n then (if a.k = b.k then decide (a.c < b.c) else decide (a.k < b.k)) else Op.bytesLess a.n.toList b.n.toList
theorem lq_irr (a : Qu) : lessQ a a = false := by unfold lessQ; simp
theorem lq_trans {a b c : Qu} (h : lessQ a b = true) (k : lessQ b c = true) : lessQ a c = true := by
  unfold lessQ at h k ⊢
  by_cases e1 : a.n = b.n
  · rw [if_pos e1] at h
    by_cases e2 : b.n = c.n
    · rw [if_pos e2] at k
      rw [if_pos (e1.trans e2)]
      by_cases f1 : a.k = b.k
      · rw [if_pos f1] at h
        by_cases f2 : b.k = c.k
        · rw [if_pos f2] at k
          rw [if_pos (f1.trans f2)]
          simp only [decide_eq_true_eq] at *
          omega
        · rw [if_neg f2] at k
          rw [if_neg (by rw [f1]; exact f2)]
          simp only [decide_eq_true_eq] at *
          omega
      · rw [if_neg f1] at h
        by_cases f2 : b.k = c.k
        · rw [if_pos f2] at k
          rw [if_neg (by rw [← f2]; exact f1)]
          simp only [decide_eq_true_eq] at *
          omega
        · rw [if_neg f2] at k
          simp only [decide_eq_true_eq] at *
          rw [if_neg (by omega)]
          simp only [decide_eq_true_eq]
          omega
    · rw [if_neg e2] at k
      rw [if_neg (by rw [e1]; exact e2), e1]
      exact k
  · rw [if_neg e1] at h
    by_cases e2 : b.n = c.n
    · rw [if_neg (by rw [← e2]; exact e1), ← e2]
      exact h
    · rw [if_neg e2] at k
      have h3 := bl_trans _ _ _ h k
      rw [if_neg (fun e => by rw [e, bl_irr] at h3; cases h3)]
      exact h3
theorem lq_tot {a b : Qu} (h : a ≠ b) : lessQ a b = true ∨ lessQ b a = true := by
  unfold lessQ
  by_cases e1 : a.n = b.n
  · rw [if_pos e1, if_pos e1.symm]
    by_cases e2 : a.k = b.k
    · rw [if_pos e2, if_pos e2.symm]
      have e3 : a.c ≠ b.c := fun e => h (by obtain ⟨an, ak, ac⟩ := a; obtain ⟨bn, bk, bc⟩ := b; simp only at e1 e2 e; rw [e1, e2, e])
      simp only [decide_eq_true_eq]
      omega
    · rw [if_neg e2, if_neg (fun e => e2 e.symm)]
      simp only [decide_eq_true_eq]
      omega
  · rw [if_neg e1, if_neg (fun e => e1 e.symm)]
    exact bl_tot _ _ (fun e => e1 (ba_inj e))
theorem lq_asym {a b : Qu} (h : lessQ a b = true) : lessQ b a = false := by
  cases k : lessQ b a with
  | false => rfl
  | true =>
    have := lq_trans h k
    rw [lq_irr] at this
    cases this
/-- Questions that rise. -/
def RiseQ (l : List Qu) : Prop := l.Pairwise fun a b => lessQ a b = true
theorem RiseQ.nodup {l : List Qu} (h : RiseQ l) : l.Nodup := by
  refine List.Pairwise.imp ?_ h
  intro a b hab e
  subst e
  rw [lq_irr] at hab
  cases hab
theorem rise_ext : ∀ {l l' : List Qu}, RiseQ l → RiseQ l' → (∀ q, q ∈ l ↔ q ∈ l') → l = l'
  | [], [], _, _, _ => rfl
  | [], b :: r, _, _, h => absurd ((h b).2 (List.mem_cons_self ..)) (by simp)
  | a :: r, [], _, _, h => absurd ((h a).1 (List.mem_cons_self ..)) (by simp)
  | a :: r, b :: s, h1, h2, h => by
    have n1 := h1.nodup
    have n2 := h2.nodup
    rw [List.nodup_cons] at n1 n2
    have p1 := List.pairwise_cons.1 h1
    have p2 := List.pairwise_cons.1 h2
    have e : a = b := by
      rcases List.mem_cons.1 ((h a).1 (List.mem_cons_self ..)) with e | e
      · exact e
      · rcases List.mem_cons.1 ((h b).2 (List.mem_cons_self ..)) with e' | e'
        · exact e'.symm
        · have x1 := p2.1 a e
          have x2 := p1.1 b e'
          rw [lq_asym x1] at x2
          cases x2
    subst e
    rw [rise_ext p1.2 p2.2 (fun q => ?_)]
    constructor
    · intro hq
      rcases List.mem_cons.1 ((h q).1 (List.mem_cons_of_mem _ hq)) with e | e
      · subst e; exact absurd hq n1.1
      · exact e
    · intro hq
      rcases List.mem_cons.1 ((h q).2 (List.mem_cons_of_mem _ hq)) with e | e
      · subst e; exact absurd hq n2.1
      · exact e
/-- A question is put where it belongs. -/
def insQ (l : List Qu) (q : Qu) : List Qu := l.takeWhile (lessQ · q) ++ q :: l.dropWhile (lessQ · q)
theorem mem_insQ {l : List Qu} {q x : Qu} : x ∈ insQ l q ↔ x = q ∨ x ∈ l := by
  unfold insQ
  have h := List.takeWhile_append_dropWhile (p := (lessQ · q)) (l := l)
  rw [List.mem_append, List.mem_cons]
  constructor
  · rintro (h1 | h1 | h1)
    · exact .inr ((List.takeWhile_sublist _).subset h1)
    · exact .inl h1
    · exact .inr ((List.dropWhile_sublist _).subset h1)
  · rintro (h1 | h1)
    · exact .inr (.inl h1)
    · rw [← h, List.mem_append] at h1
      rcases h1 with h1 | h1
      · exact .inl h1
      · exact .inr (.inr h1)
theorem tw_imp {p : Qu → Bool} : ∀ {l : List Qu} {x : Qu}, x ∈ l.takeWhile p → p x = true
  | [], x, h => by simp at h
  | a :: l, x, h => by
    rw [List.takeWhile_cons] at h
    split at h
    · rename_i ha
      rcases List.mem_cons.1 h with e | e
      · rw [e]; exact ha
      · exact tw_imp e
    · cases h
theorem drop_head {l : List Qu} {q x : Qu} (h : RiseQ l) (hx : x ∈ l.dropWhile (lessQ · q)) : lessQ x q = false := by
  induction l with
  | nil => simp at hx
  | cons a l ih =>
    have p := List.pairwise_cons.1 h
    rw [List.dropWhile_cons] at hx
    split at hx
    · exact ih p.2 hx
    · rename_i ha
      simp only [Bool.not_eq_true] at ha
      rcases List.mem_cons.1 hx with e | e
      · subst e; exact ha
      · cases k : lessQ x q with
        | false => rfl
        | true =>
          have := lq_trans (p.1 x e) k
          rw [ha] at this
          cases this
theorem rise_insQ {l : List Qu} {q : Qu} (h : RiseQ l) (hq : q ∉ l) : RiseQ (insQ l q) := by
  unfold insQ RiseQ
  rw [List.pairwise_append]
  have ht : ∀ x ∈ l.takeWhile (lessQ · q), lessQ x q = true := fun x hx => by
    exact tw_imp (p := (lessQ · q)) hx
  have hd : ∀ x ∈ l.dropWhile (lessQ · q), lessQ q x = true := fun x hx => by
    have h1 := drop_head h hx
    have hne : q ≠ x := fun e => hq (by rw [e]; exact (List.dropWhile_sublist _).subset hx)
    rcases lq_tot hne with h2 | h2
    · exact h2
    · rw [h1] at h2; cases h2
  refine ⟨List.Pairwise.sublist (List.takeWhile_sublist _) h, List.pairwise_cons.2 ⟨fun x hx => hd x hx, List.Pairwise.sublist (List.dropWhile_sublist _) h⟩, fun a ha b hb => ?_⟩
  rcases List.mem_cons.1 hb with e | e
  · rw [e]; exact ht a ha
  · exact lq_trans (ht a ha) (hd b e)

/-! ### entries -/
def entL (m : List En) (q : Qu) : Option En := m.find? fun e => decide (e.q = q)
def findL (m : List En) (q : Qu) : Option Nat := m.findIdx? fun e => decide (e.q = q)
def Mok (m : List En) : Prop := (m.map (·.q)).Nodup
def insL (m : List En) (room : Int) (e : En) (now : Nat) : List En × Int :=
  if e.ex ≤ now then (m, 4)
  else match findL m e.q with
    | none => if room ≤ (m.length : Int) then (m, 5) else (m ++ [e], 0)
    | some k => if btE (m.getD k default) e now then (m.set k e, 0) else (m, 7)
def lookL (m : List En) (q : Qu) (now : Nat) : En × Bool := match entL m q with | some e => if now < e.ex then (e, true) else (default, false) | none => (default, false)
def dropL (m : List En) (q : Qu) : List En := m.filter fun e => !decide (e.q = q)
def leftL (m : List En) (now : Nat) : List En := m.filter fun e => decide (now < e.ex)
def goneL (m : List En) (now : Nat) : List Qu := (m.filter fun e => !decide (now < e.ex)).foldl (fun l e => insQ l e.q) []
section
variable {m : List En}
theorem entL_some {q : Qu} {e : En} (h : Mok m) : entL m q = some e ↔ e ∈ m ∧ e.q = q := by
  induction m with
  | nil => simp [entL]
  | cons a m ih =>
    unfold Mok at h
    rw [List.map_cons, List.nodup_cons] at h
    unfold entL at ih ⊢
    rw [List.find?_cons]
    by_cases e1 : a.q = q
    · rw [decide_eq_true e1]
      simp only [Option.some.injEq, List.mem_cons]
      constructor
      · rintro rfl; exact ⟨.inl rfl, e1⟩
      · rintro ⟨h1 | h1, h2⟩
        · exact h1.symm
        · exact absurd (List.mem_map.2 ⟨e, h1, h2.trans e1.symm⟩) h.1
    · rw [decide_eq_false e1]
      rw [ih h.2]
      simp only [List.mem_cons]
      constructor
      · rintro ⟨h1, h2⟩; exact ⟨.inr h1, h2⟩
      · rintro ⟨h1 | h1, h2⟩
        · subst h1; exact absurd h2 e1
        · exact ⟨h1, h2⟩
theorem entL_none {q : Qu} : entL m q = none ↔ ∀ e ∈ m, e.q ≠ q := by
  unfold entL
  rw [List.find?_eq_none]
  simp
theorem findL_ent (m : List En) (q : Qu) : entL m q = (findL m q).map fun k => m.getD k default := by
  unfold entL findL
  induction m with
  | nil => rfl
  | cons a m ih =>
    rw [List.find?_cons, List.findIdx?_cons]
    by_cases e : a.q = q
    · simp [e]
    · simp only [decide_eq_false e, Bool.false_eq_true, if_false]
      rw [ih]
      cases List.findIdx? (fun e => decide (e.q = q)) m <;> simp
theorem findL_some {q : Qu} {k : Nat} (h : findL m q = some k) : k < m.length ∧ (m.getD k default).q = q := by
  unfold findL at h
  rw [List.findIdx?_eq_some_iff_getElem] at h
  obtain ⟨hk, h1, _⟩ := h
  refine ⟨hk, ?_⟩
  simpa [hk] using h1
theorem findL_none {q : Qu} : findL m q = none ↔ entL m q = none := by rw [findL_ent]; simp
theorem ok_app (h : Mok m) {e : En} (hn : entL m e.q = none) : Mok (m ++ [e]) := by
  unfold Mok at h ⊢
  rw [List.map_append, List.nodup_append]
  refine ⟨h, by simp, fun a ha b hb => ?_⟩
  simp only [List.map_cons, List.map_nil, List.mem_singleton] at hb
  subst hb
  obtain ⟨x, hx, rfl⟩ := List.mem_map.1 ha
  exact entL_none.1 hn x hx
theorem map_set_same {k : Nat} {e : En} (h : (m.getD k default).q = e.q) : (m.set k e).map (·.q) = m.map (·.q) := by
  apply List.ext_getElem?
  intro i
  rw [List.getElem?_map, List.getElem?_map, List.getElem?_set]
  split
  · rename_i hk
    subst hk
    split
    · rename_i hk
      rw [List.getElem?_eq_getElem hk]
      simp only [Option.map_some]
      rw [← h]
      simp [hk]
    · rename_i hk
      rw [List.getElem?_eq_none (by omega)]
  · rfl
theorem ok_set (h : Mok m) {k : Nat} {e : En} (he : (m.getD k default).q = e.q) : Mok (m.set k e) := by unfold Mok; rw [map_set_same he]; exact h
theorem ok_sub {m' : List En} (h : Mok m) (hs : List.Sublist m' m) : Mok m' := List.Nodup.sublist (hs.map _) h
theorem ok_ins (h : Mok m) (room : Int) (e : En) (now : Nat) : Mok (insL m room e now).1 := by
  unfold insL
  split
  · exact h
  · cases hf : findL m e.q with
    | none =>
      simp only
      split
      · exact h
      · exact ok_app h (findL_none.1 hf)
    | some k =>
      simp only
      split
      · exact ok_set h (findL_some hf).2
      · exact h
theorem ok_drop (h : Mok m) (q : Qu) : Mok (dropL m q) := ok_sub h List.filter_sublist
theorem ok_left (h : Mok m) (now : Nat) : Mok (leftL m now) := ok_sub h List.filter_sublist
theorem ent_app (h : Mok m) {e : En} (hn : entL m e.q = none) (q : Qu) : entL (m ++ [e]) q = if q = e.q then some e else entL m q := by
  apply Option.ext
  intro x
  rw [entL_some (ok_app h hn)]
  by_cases hq : q = e.q
  · rw [if_pos hq]
    simp only [List.mem_append, List.mem_singleton, Option.some.injEq]
    constructor
    · rintro ⟨h1 | h1, h2⟩
      · exact absurd (h2.trans hq) (entL_none.1 hn x h1)
      · exact h1.symm
    · rintro rfl; exact ⟨.inr rfl, hq.symm⟩
  · rw [if_neg hq, entL_some h]
    simp only [List.mem_append, List.mem_singleton]
    constructor
    · rintro ⟨h1 | h1, h2⟩
      · exact ⟨h1, h2⟩
      · subst h1; exact absurd h2.symm hq
    · rintro ⟨h1, h2⟩; exact ⟨.inl h1, h2⟩
theorem ent_set (h : Mok m) {k : Nat} (hk : k < m.length) {e : En} (he : (m.getD k default).q = e.q) (q : Qu) : entL (m.set k e) q = if q = e.q then some e else entL m q := by
  apply Option.ext
  intro x
  rw [entL_some (ok_set h he)]
  by_cases hq : q = e.q
  · rw [if_pos hq, Option.some.injEq]
    constructor
    · rintro ⟨h1, h2⟩
      have h3 : e ∈ m.set k e := List.mem_set hk e
      have h4 := (entL_some (ok_set h he) (q := q) (e := x)).2 ⟨h1, h2⟩
      have h5 := (entL_some (ok_set h he) (q := q) (e := e)).2 ⟨h3, hq.symm⟩
      rw [h4] at h5
      exact (Option.some.inj h5).symm
    · rintro rfl; exact ⟨List.mem_set hk e, hq.symm⟩
  · rw [if_neg hq, entL_some h]
    constructor
    · rintro ⟨h1, h2⟩
      rcases List.mem_or_eq_of_mem_set h1 with h3 | h3
      · exact ⟨h3, h2⟩
      · subst h3; exact absurd h2.symm hq
    · rintro ⟨h1, h2⟩
      obtain ⟨i, hi, rfl⟩ := List.getElem_of_mem h1
      have hik : k ≠ i := fun e2 => by
        subst e2
        apply hq
        rw [← h2, ← he]
        simp [hi]
      refine ⟨List.mem_iff_getElem.2 ⟨i, by rw [List.length_set]; exact hi, ?_⟩, h2⟩
      rw [List.getElem_set_ne hik]
/-- What an insert makes. -/
theorem ent_ins (h : Mok m) (room : Int) (e : En) (now : Nat) (q : Qu) : entL (insL m room e now).1 q = if q = e.q ∧ (insL m room e now).2 = 0 then some e else entL m q := by
  unfold insL
  split
  · rw [if_neg (fun h => by cases h.2)]
  · cases hf : findL m e.q with
    | none =>
      simp only
      split
      · rw [if_neg (fun h => by cases h.2)]
      · rw [ent_app h (findL_none.1 hf)]
        simp
    | some k =>
      simp only
      obtain ⟨hk, he⟩ := findL_some hf
      split
      · rw [ent_set h hk he]
        simp
      · rw [if_neg (fun h => by cases h.2)]
theorem ent_drop (h : Mok m) (q q' : Qu) : entL (dropL m q) q' = if q' = q then none else entL m q' := by
  apply Option.ext
  intro x
  rw [entL_some (ok_drop h q)]
  unfold dropL
  rw [List.mem_filter]
  by_cases e : q' = q
  · rw [if_pos e]
    simp only [Bool.not_eq_true', decide_eq_false_iff_not, reduceCtorEq, iff_false]
    rintro ⟨⟨_, h1⟩, h2⟩
    exact h1 (h2.trans e)
  · rw [if_neg e, entL_some h]
    simp only [Bool.not_eq_true', decide_eq_false_iff_not]
    constructor
    · rintro ⟨⟨h1, _⟩, h2⟩; exact ⟨h1, h2⟩
    · rintro ⟨h1, h2⟩; exact ⟨⟨h1, fun e2 => e (h2.symm.trans e2)⟩, h2⟩
theorem ent_left (h : Mok m) (now : Nat) (q : Qu) : entL (leftL m now) q = (entL m q).filter fun e => decide (now < e.ex) := by
  apply Option.ext
  intro x
  rw [entL_some (ok_left h now), Option.filter_eq_some_iff, entL_some h]
  unfold leftL
  rw [List.mem_filter]
  constructor
  · rintro ⟨⟨h1, h2⟩, h3⟩; exact ⟨⟨h1, h3⟩, h2⟩
  · rintro ⟨⟨h1, h3⟩, h2⟩; exact ⟨⟨h1, h2⟩, h3⟩
theorem fold_ins : ∀ (l : List En) (o : List Qu), RiseQ o → (l.map (·.q)).Nodup → (∀ e ∈ l, e.q ∉ o) → RiseQ (l.foldl (fun l e => insQ l e.q) o) ∧ (∀ q, q ∈ l.foldl (fun l e => insQ l e.q) o ↔ q ∈ o ∨ ∃ e ∈ l, e.q = q)
  | [], o, h, _, _ => ⟨h, fun q => by simp⟩
  | a :: l, o, h, hn, hd => by
    rw [List.map_cons, List.nodup_cons] at hn
    have h1 := rise_insQ h (hd a (List.mem_cons_self ..))
    obtain ⟨h2, h3⟩ := fold_ins l (insQ o a.q) h1 hn.2 (fun e he hc => by
      rcases mem_insQ.1 hc with h4 | h4
      · exact hn.1 (List.mem_map.2 ⟨e, he, h4⟩)
      · exact hd e (List.mem_cons_of_mem _ he) h4)
    refine ⟨h2, fun q => ?_⟩
    rw [List.foldl_cons, h3, mem_insQ]
    simp only [List.mem_cons, exists_eq_or_imp]
    constructor
    · rintro ((h4 | h4) | h4)
      · exact .inr (.inl h4.symm)
      · exact .inl h4
      · exact .inr (.inr h4)
    · rintro (h4 | h4 | h4)
      · exact .inl (.inr h4)
      · exact .inl (.inl h4.symm)
      · exact .inr h4
theorem gone_rise (h : Mok m) (now : Nat) : RiseQ (goneL m now) := (fold_ins _ [] List.Pairwise.nil (ok_sub h List.filter_sublist) (fun _ _ h => by cases h)).1
theorem mem_goneL (h : Mok m) (now : Nat) (q : Qu) : q ∈ goneL m now ↔ ∃ e, entL m q = some e ∧ ¬ now < e.ex := by
  unfold goneL
  rw [(fold_ins _ [] List.Pairwise.nil (ok_sub h List.filter_sublist) (fun _ _ h => by cases h)).2]
  simp only [List.not_mem_nil, false_or, List.mem_filter, Bool.not_eq_true', decide_eq_false_iff_not]
  constructor
  · rintro ⟨e, ⟨h1, h2⟩, h3⟩; exact ⟨e, (entL_some h).2 ⟨h1, h3⟩, h2⟩
  · rintro ⟨e, h1, h2⟩
    obtain ⟨h3, h4⟩ := (entL_some h).1 h1
    exact ⟨e, ⟨h3, h2⟩, h4⟩
theorem insQ_len (l : List Qu) (q : Qu) : (insQ l q).length = l.length + 1 := by
  have h := congrArg List.length (List.takeWhile_append_dropWhile (p := (lessQ · q)) (l := l))
  rw [List.length_append] at h
  unfold insQ
  rw [List.length_append, List.length_cons]
  omega
theorem fold_len : ∀ (l : List En) (o : List Qu), (l.foldl (fun l e => insQ l e.q) o).length = o.length + l.length
  | [], o => by simp
  | a :: l, o => by rw [List.foldl_cons, fold_len l, insQ_len, List.length_cons]; omega
theorem gone_len (m : List En) (now : Nat) : (goneL m now).length + (leftL m now).length = m.length := by
  unfold goneL leftL
  rw [fold_len]
  simp only [List.length_nil, Nat.zero_add]
  induction m with
  | nil => rfl
  | cons a m ih =>
    simp only [List.filter_cons]
    cases decide (now < a.ex) <;> simp <;> omega
theorem drop_len (h : Mok m) (q : Qu) : (dropL m q).length + (if (entL m q).isSome then 1 else 0) = m.length := by
  induction m with
  | nil => rfl
  | cons a m ih =>
    have hm := h
    unfold Mok at hm
    rw [List.map_cons, List.nodup_cons] at hm
    have ih := ih hm.2
    by_cases e : a.q = q
    · have h1 : entL (a :: m) q = some a := (entL_some h).2 ⟨List.mem_cons_self .., e⟩
      have h2 : entL m q = none := entL_none.2 fun x hx he => hm.1 (List.mem_map.2 ⟨x, hx, he.trans e.symm⟩)
      rw [h2] at ih
      rw [h1]
      have h3 : dropL (a :: m) q = dropL m q := by unfold dropL; rw [List.filter_cons]; simp [e]
      rw [h3, List.length_cons]
      simp at ih ⊢
      exact ih
    · have h1 : entL (a :: m) q = entL m q := by unfold entL; rw [List.find?_cons, decide_eq_false e]
      have h3 : dropL (a :: m) q = a :: dropL m q := by unfold dropL; rw [List.filter_cons]; simp [e]
      rw [h1, h3, List.length_cons, List.length_cons]
      omega
theorem ins_len (m : List En) (room : Int) (e : En) (now : Nat) : (insL m room e now).1.length ≤ m.length + 1 := by
  unfold insL
  split
  · simp
  · split
    · split
      · simp
      · simp
    · split
      · simp
      · simp
end
end Go.Proofs.Ytnmgeoeppfdnhaa
