/- The document's Insert of a model (written by tools/gen_emq.py). -/
import Derived.Test.YtnmgeoeppfdnhaaEme
import Derived.Laws.AppendOwnNone
namespace Go.Proofs.Ytnmgeoeppfdnhaa.D
open Go.RowKit
set_option linter.unusedVariables false
set_option linter.unusedSimpArgs false

theorem wpList_append_slw {α : Type} {f : α → List Value} {P : Program} {w : World} {ops : Array Oper} {rest : List Oper} {o : Oper} {a : Act} {Q : Exit → Act → World → Prop} (hgd : o.guard = none) (s x : Operand) (t : TypeId)
    (ho : o.op = .call { callee := .builtin .append, args := #[s, x], argTypes := #[t, t] })
    (base : Nat) (e : TypeId) (i : TypeInfo) (z : Value) (size bytes : Nat) (ht : P.underlying t = some (.slice e)) (hi : P.info? e = some i) (hz : i.zero = some z)
    (hsize : i.size = size) (hby : i.bytes = bytes) (hzs : z.cells.size = size) (hsz : 0 < size)
    (v : Value) (n : Nat) (xs : List Value) (hs : a.eval s = v) (hown : w.ownsRow base e size v n xs)
    {A : Option Addr} {cap : Nat} {l : List α} (hx : a.eval x = .slice A l.length cap) (hk : ∀ r, (f r).length = size) (hI : Sl f w A cap l) (h1 : ∀ u ∈ l.flatMap f, u.oneCell' = true)
    (h63 : n + l.length ≤ maxLen) (hbytes : (n + l.length) * bytes ≤ 140737488355328) (hbase : base ≤ w.heap.size)
    (h : ∀ v' w', w'.ownsRow base e size v' (n + l.length) (xs ++ l.flatMap f) → w.grownBy w' v.ownBlock → wpList P ops Q rest (a.put o.dst v') w') : wpList P ops Q (o :: rest) a w := by
  cases A with
  | none =>
    obtain rfl := hI.empty rfl
    have hc := hI.nl rfl
    subst hc
    exact wpList_append_own_none hgd s x t ho base e i size ht hi v n xs hs hown hx (h v w (by simpa using hown) ⟨rfl, rfl, rfl, Nat.le_refl _, fun _ _ _ => rfl⟩)
  | some ad => exact wpList_append_own w hgd s x t ho base e i z size bytes ht hi hz hsize hby hzs hsz v n xs hs hown ad l.length cap (l.flatMap f) hx (flat_len hk l) hI.src h1 h63 hbytes hbase fun v' w' h2 h3 _ => h v' w' h2 h3
section
variable {B g n c0 : Nat}
/-- Values put into a list, one behind the other. -/
def putL : List Value → Nat → List Value → List Value
  | xs, _, [] => xs
  | xs, o, v :: r => putL (xs.set o v) (o + 1) r
theorem putL_len : ∀ (vs xs : List Value) (o : Nat), (putL xs o vs).length = xs.length
  | [], xs, o => rfl
  | v :: r, xs, o => by rw [putL, putL_len r]; simp
theorem putL_at : ∀ (vs xs : List Value) (o i : Nat), o + vs.length ≤ xs.length → (putL xs o vs)[i]? = if o ≤ i ∧ i < o + vs.length then vs[i - o]? else xs[i]?
  | [], xs, o, i, _ => by rw [putL, if_neg (by simp only [List.length_nil]; omega)]
  | v :: r, xs, o, i, h => by
    simp only [List.length_cons] at h
    rw [putL, putL_at r _ (o + 1) i (by simp; omega)]
    by_cases h1 : o = i
    · subst h1
      rw [if_neg (by omega), if_pos (by simp only [List.length_cons]; omega), Nat.sub_self, List.getElem?_set_self (by omega)]
      rfl
    · rw [List.getElem?_set_ne h1]
      by_cases h2 : o + 1 ≤ i ∧ i < o + 1 + r.length
      · rw [if_pos h2, if_pos (by simp only [List.length_cons]; omega)]
        obtain ⟨q, hq⟩ : ∃ q, i - o = q + 1 := ⟨i - o - 1, by omega⟩
        rw [hq, show i - (o + 1) = q by omega]
        rfl
      · rw [if_neg h2, if_neg (by simp only [List.length_cons]; omega)]
theorem own_cells {e : TypeId} {k : Nat} : ∀ (vs : List Value) (o : Nat) (w : World) (xs : List Value), w.ownsRow B e k (.slice (some ⟨g, 0, none⟩) n c0) n xs → (w.setCells g o vs).ownsRow B e k (.slice (some ⟨g, 0, none⟩) n c0) n (putL xs o vs)
  | [], _, _, _, h => h
  | v :: r, o, _, _, h => by
    rw [World.setCells, putL]
    exact own_cells r (o + 1) _ _ (h.stored o v).1
end
theorem putL_flat (l : List Ev) (k : Nat) (hk : k < l.length) (x : Ev) : putL (l.flatMap evL) (k * 7) (evL x) = (l.set k x).flatMap evL := by
  apply List.ext_getElem?
  intro q
  have hl : (l.flatMap evL).length = l.length * 7 := flat_len evL_len l
  have h1 : k * 7 + (evL x).length ≤ (l.flatMap evL).length := by rw [hl, evL_len]; omega
  rw [putL_at _ _ _ _ h1, evL_len]
  by_cases hq : q < l.length * 7
  · have e1 : q = q / 7 * 7 + q % 7 := by omega
    have h2 : q / 7 < (l.set k x).length := by rw [List.length_set]; omega
    have h3 : ((l.set k x).flatMap evL)[q]? = (evL (l.set k x)[q / 7])[q % 7]? := by
      conv => lhs; rw [e1]
      exact flat_at evL_len _ _ _ h2 (by omega)
    have h4 : (l.flatMap evL)[q]? = (evL (l[q / 7]'(by omega)))[q % 7]? := by
      conv => lhs; rw [e1]
      exact flat_at evL_len _ _ _ (by omega) (by omega)
    rw [h3, h4, List.getElem_set]
    by_cases h5 : k = q / 7
    · rw [if_pos h5, if_pos (by omega), show q - k * 7 = q % 7 by omega]
    · rw [if_neg h5, if_neg (by omega)]
  · rw [if_neg (by omega), List.getElem?_eq_none (by rw [hl]; omega), List.getElem?_eq_none (by rw [flat_len evL_len, List.length_set]; omega)]
theorem there_own {w : World} {B g n cap : Nat} {e : TypeId} {k o m : Nat} {xs : List Value} (h : w.ownsRow B e k (.slice (some ⟨g, 0, none⟩) n cap) n xs) (hm : o + m ≤ n * k) : w.there g o m := by
  rcases h.2 with ⟨h1, _⟩ | ⟨g', cap', cur, h1, _, hg, hle, _, hsz, _⟩
  · cases h1
  · cases h1
    have b : Blk w g e cur := hg
    exact b.there o m (by rw [hsz]; exact Nat.le_trans hm (Nat.mul_le_mul_right k hle))
def insV (l : List Ev) (room : Int) (x : Ev) (now : Nat) : List Ev × Int :=
  if x.e.ex ≤ now then (l, 4) else match findL (pm l) x.e.q with
  | none => if room ≤ (l.length : Int) then (l, 5) else (l ++ [x], 0)
  | some k => if btE (l.getD k default).e x.e now then (l.set k x, 0) else (l, 7)
theorem insV_pure (l : List Ev) (room : Int) (x : Ev) (now : Nat) : (pm (insV l room x now).1, (insV l room x now).2) = insL (pm l) room x.e now := by
  unfold insV insL
  by_cases h : x.e.ex ≤ now
  · rw [if_pos h, if_pos h]
  · rw [if_neg h, if_neg h]
    cases hk : findL (pm l) x.e.q with
    | none =>
      simp only [pm_len]
      split
      · rfl
      · simp [pm]
    | some k =>
      have hl := (find_lt hk).1
      have e1 : (pm l).getD k default = (l.getD k default).e := by rw [pm_getD l k hl]; simp [hl]
      simp only [e1]
      split
      · simp [pm, List.map_set]
      · rfl
theorem insV_mem {l : List Ev} {room : Int} {x : Ev} {now : Nat} {y : Ev} (h : y ∈ (insV l room x now).1) : y = x ∨ y ∈ l := by
  unfold insV at h
  split at h
  · exact .inr h
  · split at h
    · split at h
      · exact .inr h
      · rcases List.mem_append.1 h with h1 | h1
        · exact .inr h1
        · exact .inl (List.mem_singleton.1 h1)
    · split at h
      · rcases List.mem_or_eq_of_mem_set h with h1 | h1
        · exact .inr h1
        · exact .inl h1
      · exact .inr h
set_option maxRecDepth 100000 in
set_option maxHeartbeats 4000000 in
theorem ins_late (A : Option Addr) (cap : Nat) (l : List Ev) (hl : l.length ≤ 1000) (room : Int) (x : Ev) (now : Nat) (w : World) (hI : Sl evL w A cap l) (hd : x.e.ex ≤ now) :
    Calls Try.prog 23 #[.slice A l.length cap, .int .i64 room, .agg (evL x).toArray, .int .u64 (now : Nat)] w fun e w' => e = .returned (.tuple #[.slice A l.length cap, .int .i64 4]) ∧ Below w.heap.size w w' := by
  have hb := (Below.refl w.heap.size w).alloc (Nat.le_refl _) (Obj.cells (evL x).toArray 35)
  have HX := Lib.hid (Blk.new w 35 (evL x).toArray)
  have HB := Lib.hid hb
  have HI := Lib.hid (hI.below' hb)
  clear hI hb
  unfold evL at HX HB HI ⊢
  have d0 : decide ((x.e.ex : Int) ≤ (now : Nat)) = true := by simp; omega
  go_enter Try.func23, Try.ntmps23
  go_upto_region 1 with (fail)
  generalize w.alloc (Obj.cells #[.string x.e.q.n, .int .u16 (x.e.q.k : Nat), .int .u16 (x.e.q.c : Nat), .slice x.A x.e.l.length x.cap, .int .i64 x.e.rc, .int .i64 x.e.rk, .int .u64 (x.e.ex : Nat)] 35) = w1 at *
  obtain ⟨e0, e1, e2, e3, e4, e5, e6⟩ := e_cells (x := x) HX.out
  go_wp2_with fail
  go_ret2
  exact ⟨rfl, HB.out⟩
set_option maxRecDepth 100000 in
set_option maxHeartbeats 4000000 in
theorem ins_full (A : Option Addr) (cap : Nat) (l : List Ev) (hl : l.length ≤ 1000) (room : Int) (x : Ev) (now : Nat) (w : World) (hI : Sl evL w A cap l) (hd : ¬ x.e.ex ≤ now) (hk : findL (pm l) x.e.q = none) (hr : room ≤ (l.length : Int)) :
    Calls Try.prog 23 #[.slice A l.length cap, .int .i64 room, .agg (evL x).toArray, .int .u64 (now : Nat)] w fun e w' => e = .returned (.tuple #[.slice A l.length cap, .int .i64 5]) ∧ Below w.heap.size w w' := by
  have hb := (Below.refl w.heap.size w).alloc (Nat.le_refl _) (Obj.cells (evL x).toArray 35)
  have HX := Lib.hid (Blk.new w 35 (evL x).toArray)
  have HB := Lib.hid hb
  have HI := Lib.hid (hI.below' hb)
  have hC := find_any _ cap l hl x.e.q _ (hI.below' hb)
  rw [hk] at hC
  simp only [atI] at hC
  have HC := Lib.hid hC
  clear hk hC
  clear hI hb
  unfold evL at HX HB HI HC ⊢
  have d0 : decide ((x.e.ex : Int) ≤ (now : Nat)) = false := by simp; omega
  have d0n : ¬ x.e.ex ≤ now := hd
  have d1 : decide (room ≤ ((l.length : Nat) : Int)) = true := by simpa using hr
  go_enter Try.func23, Try.ntmps23
  go_upto_region 1 with (fail)
  generalize w.alloc (Obj.cells #[.string x.e.q.n, .int .u16 (x.e.q.k : Nat), .int .u16 (x.e.q.c : Nat), .slice x.A x.e.l.length x.cap, .int .i64 x.e.rc, .int .i64 x.e.rk, .int .u64 (x.e.ex : Nat)] 35) = w1 at *
  obtain ⟨e0, e1, e2, e3, e4, e5, e6⟩ := e_cells (x := x) HX.out
  go_wp2_with ((go_at_call 15; (with_reducible (refine (HC.out).mono ?_)); rintro e w2 ⟨rfl, hb2⟩; have HB2 := Lib.hid hb2; clear hb2))
  go_ret2
  exact ⟨rfl, HB.out.trans (HB2.out.mono HB.out.size)⟩
set_option maxRecDepth 100000 in
set_option maxHeartbeats 4000000 in
theorem ins_new (A : Option Addr) (cap : Nat) (l : List Ev) (hl : l.length ≤ 1000) (room : Int) (x : Ev) (now : Nat) (w : World) (hI : Sl evL w A cap l) (hd : ¬ x.e.ex ≤ now) (hk : findL (pm l) x.e.q = none) (hr : ¬ room ≤ (l.length : Int)) :
    Calls Try.prog 23 #[.slice A l.length cap, .int .i64 room, .agg (evL x).toArray, .int .u64 (now : Nat)] w fun e w' => ∃ A' cap', e = .returned (.tuple #[.slice A' (l ++ [x]).length cap', .int .i64 0]) ∧ Sl evL w' A' cap' (l ++ [x]) ∧ Below w.heap.size w w' := by
  obtain ⟨i0, hi, hz0, hz1, hz2⟩ := el_of elT
  have hb := (Below.refl w.heap.size w).alloc (Nat.le_refl _) (Obj.cells (evL x).toArray 35)
  have HX := Lib.hid (Blk.new w 35 (evL x).toArray)
  have HB := Lib.hid hb
  have HI := Lib.hid (hI.below' hb)
  have hC := find_any _ cap l hl x.e.q _ (hI.below' hb)
  rw [hk] at hC
  simp only [atI] at hC
  have HC := Lib.hid hC
  clear hk hC
  clear hI hb
  unfold evL at HX HB HI HC ⊢
  have d0 : decide ((x.e.ex : Int) ≤ (now : Nat)) = false := by simp; omega
  have d0n : ¬ x.e.ex ≤ now := hd
  have d1 : decide (room ≤ ((l.length : Nat) : Int)) = false := by simpa using hr
  go_enter Try.func23, Try.ntmps23
  go_upto_region 1 with (fail)
  generalize w.alloc (Obj.cells #[.string x.e.q.n, .int .u16 (x.e.q.k : Nat), .int .u16 (x.e.q.c : Nat), .slice x.A x.e.l.length x.cap, .int .i64 x.e.rc, .int .i64 x.e.rk, .int .u64 (x.e.ex : Nat)] 35) = w1 at *
  obtain ⟨e0, e1, e2, e3, e4, e5, e6⟩ := e_cells (x := x) HX.out
  go_upto_region 4 with (go_at_call 15; (with_reducible (refine (HC.out).mono ?_)); rintro e w2 ⟨rfl, hb2⟩; have HB2 := Lib.hid hb2; clear hb2)
  clear e0 e1 e2 e3 e4 e5 e6
  have HX2 := Lib.hid (HX.out.eq (HB2.out.block _ HX.out.lt))
  have HB3 := Lib.hid (HB.out.trans (HB2.out.mono HB.out.size))
  have HI3 := Lib.hid (HI.out.below' HB2.out)
  clear HX HB HI HB2 HC
  go_upto_region 6 with (fail)
  clear d0 d0n d1 hd hr
  have HO := Lib.hid (World.ownsRow_made (e := 35) (size := 7) w2 #[] 0 (Nat.le_refl _) (Nat.zero_le _) (by simp))
  have hb4 := (Below.refl w2.heap.size w2).alloc (Nat.le_refl _) (Obj.cells #[] 35)
  have HX4 := Lib.hid (HX2.out.eq (hb4.block _ HX2.out.lt))
  have HI4 := Lib.hid (HI3.out.below' hb4)
  have HB4 := Lib.hid hb4
  clear hb4
  go_upto_region 7 with (at_builtin; (refine wpList_append_slw rfl _ _ 29 rfl w2.heap.size 35 i0 (evV default) 7 72 Try.underlying29 hi hz0 hz1 hz2 rfl (by decide) _ _ _ rfl HO.out (f := evL) (l := l) rfl evL_len HI4.out (fun u hu => by obtain ⟨y, _, hy⟩ := List.mem_flatMap.1 hu; exact evL_each y u hy) ?q4 ?q5 HB4.out.size ?_))
  case q4 => unfold maxLen; omega
  case q5 => omega
  intro v' w5 hown hgrow
  have hb5 := HB4.out.grown hgrow HB4.out.size (fun k hk => (HO.out.lt k hk).1)
  replace hown : w5.ownsRow w2.heap.size 35 7 v' l.length (l.flatMap evL) := by simpa using hown
  have HF5 := Lib.hid (And.intro hown (And.intro (HX2.out.eq (hb5.block _ HX2.out.lt)) (And.intro (HB3.out.trans (hb5.mono HB3.out.size)) (And.intro hb5 HX2.out.lt))))
  obtain ⟨Av, cv, rfl⟩ := ownR_form hown
  clear hown hgrow hb5 HO HX4 HI4 HB4
  obtain ⟨e0, e1, e2, e3, e4, e5, e6⟩ := e_cells (x := x) HF5.out.2.1
  have HO6 := Lib.hid (HF5.out.1.alloc (Obj.cells #[.string x.e.q.n, .int .u16 (x.e.q.k : Nat), .int .u16 (x.e.q.c : Nat), .slice x.A x.e.l.length x.cap, .int .i64 x.e.rc, .int .i64 x.e.rk, .int .u64 (x.e.ex : Nat)] 35))
  have HB6 := Lib.hid (HF5.out.2.2.2.1.alloc HF5.out.2.2.2.1.size (Obj.cells #[.string x.e.q.n, .int .u16 (x.e.q.k : Nat), .int .u16 (x.e.q.c : Nat), .slice x.A x.e.l.length x.cap, .int .i64 x.e.rc, .int .i64 x.e.rk, .int .u64 (x.e.ex : Nat)] 35))
  go_wp2_with ((at_builtin; (refine wpList_append_own _ rfl _ _ 29 rfl w2.heap.size 35 i0 (evV default) 7 72 Try.underlying29 hi hz0 hz1 hz2 rfl (by decide) _ _ _ rfl HO6.out ⟨w5.heap.size, 0, none⟩ 1 1 (evL x) rfl rfl (newE w5 x) ?q3 ?q4 ?q5 HB6.out.size ?_)))
  case q3 => exact evL_each x
  case q4 => unfold maxLen; omega
  case q5 => omega
  intro v' w6 hown2 hgrow hnil
  have hb6 := HB6.out.grown hgrow HB6.out.size (fun k hk => (HO6.out.lt k hk).1)
  rw [show l.length + 1 = (l ++ [x]).length by simp, show l.flatMap evL ++ evL x = (l ++ [x]).flatMap evL by simp] at hown2
  obtain ⟨Av2, cv2, rfl⟩ := ownR_form hown2
  have HF := Lib.hid (And.intro (Sl.owned evL_len hown2).1 (HB3.out.trans (hb6.mono HB3.out.size)))
  clear hown2 hgrow hnil hb6
  go_wp2_with fail
  go_ret2
  exact ⟨Av2, cv2, rfl, HF.out⟩
set_option maxRecDepth 100000 in
set_option maxHeartbeats 4000000 in
theorem ins_low (A : Option Addr) (cap : Nat) (l : List Ev) (hl : l.length ≤ 1000) (room : Int) (x : Ev) (now : Nat) (w : World) (hI : Sl evL w A cap l) (hd : ¬ x.e.ex ≤ now) {k : Nat} (hk : findL (pm l) x.e.q = some k) (hbt : btE (l.getD k default).e x.e now = false) :
    Calls Try.prog 23 #[.slice A l.length cap, .int .i64 room, .agg (evL x).toArray, .int .u64 (now : Nat)] w fun e w' => e = .returned (.tuple #[.slice A l.length cap, .int .i64 7]) ∧ Below w.heap.size w w' := by
  obtain ⟨i0, hi, hz0, hz1, hz2⟩ := el_of elT
  obtain ⟨hkl, _⟩ := find_lt hk
  have hg : l.getD k default = l[k] := by simp [hkl]
  rw [hg] at hbt
  obtain ⟨b, off, hAe, hbs, hr⟩ := sl_ev hI k hkl
  subst hAe
  have hb := (Below.refl w.heap.size w).alloc (Nat.le_refl _) (Obj.cells (evL x).toArray 35)
  have HX := Lib.hid (Blk.new w 35 (evL x).toArray)
  have HB := Lib.hid hb
  have HI := Lib.hid (hI.below' hb)
  have hC := find_any _ cap l hl x.e.q _ (hI.below' hb)
  rw [hk] at hC
  simp only [atI] at hC
  have HC := Lib.hid hC
  clear hk hC
  clear hI hb
  unfold evL at HX HB HI HC ⊢
  have s0 : (0 : Int) ≤ (k : Nat) := by omega
  have s1 : (k : Int) < (l.length : Nat) := by omega
  have s2 : ((k : Int) < 0) = False := by simp
  have d0 : decide ((x.e.ex : Int) ≤ (now : Nat)) = false := by simp; omega
  have d0n : ¬ x.e.ex ≤ now := hd
  have HBt := Lib.hid (fun W => rbeats_any l[k] x now W)
  rw [hbt] at HBt
  have HRr := Lib.hid (And.intro hr hbs)
  clear hbt hr hbs hg
  generalize hy : l[k] = y at *
  have HRy := Lib.hid hy
  clear hy
  unfold evL at HBt
  go_enter Try.func23, Try.ntmps23
  go_upto_region 1 with (fail)
  generalize w.alloc (Obj.cells #[.string x.e.q.n, .int .u16 (x.e.q.k : Nat), .int .u16 (x.e.q.c : Nat), .slice x.A x.e.l.length x.cap, .int .i64 x.e.rc, .int .i64 x.e.rk, .int .u64 (x.e.ex : Nat)] 35) = w1 at *
  obtain ⟨e0, e1, e2, e3, e4, e5, e6⟩ := e_cells (x := x) HX.out
  go_upto_region 4 with (go_at_call 15; (with_reducible (refine (HC.out).mono ?_)); rintro e w2 ⟨rfl, hb2⟩; have HB2 := Lib.hid hb2; clear hb2)
  have HR := Lib.hid (show w2.rangeAt b (off + k * 7) (evL y) ∧ b < w2.heap.size from ⟨fun i u hi => (HB2.out.cell (p := ⟨b, off + k * 7 + i, none⟩) (Nat.lt_of_lt_of_le HRr.out.2 HB.out.size)).trans ((HB.out.cell (p := ⟨b, off + k * 7 + i, none⟩) HRr.out.2).trans (HRr.out.1 i u hi)), Nat.lt_of_lt_of_le HRr.out.2 (Nat.le_trans HB.out.size HB2.out.size)⟩)
  clear HRr
  clear e0 e1 e2 e3 e4 e5 e6
  have HX2 := Lib.hid (HX.out.eq (HB2.out.block _ HX.out.lt))
  have HB3 := Lib.hid (HB.out.trans (HB2.out.mono HB.out.size))
  have HI3 := Lib.hid (HI.out.below' HB2.out)
  clear HX HB HI HB2 HC
  go_upto_region 6 with (fail)
  have HO := Lib.hid (World.ownsRow_made (e := 35) (size := 7) w2 #[] 0 (Nat.le_refl _) (Nat.zero_le _) (by simp))
  have hb4 := (Below.refl w2.heap.size w2).alloc (Nat.le_refl _) (Obj.cells #[] 35)
  have HX4 := Lib.hid (HX2.out.eq (hb4.block _ HX2.out.lt))
  have HI4 := Lib.hid (HI3.out.below' hb4)
  have HB4 := Lib.hid hb4
  clear hb4
  go_upto_region 7 with (at_builtin; (refine wpList_append_slw rfl _ _ 29 rfl w2.heap.size 35 i0 (evV default) 7 72 Try.underlying29 hi hz0 hz1 hz2 rfl (by decide) _ _ _ rfl HO.out (f := evL) (l := l) rfl evL_len HI4.out (fun u hu => by obtain ⟨y, _, hy⟩ := List.mem_flatMap.1 hu; exact evL_each y u hy) ?q4 ?q5 HB4.out.size ?_))
  case q4 => unfold maxLen; omega
  case q5 => omega
  intro v' w5 hown hgrow
  have hb5 := HB4.out.grown hgrow HB4.out.size (fun k hk => (HO.out.lt k hk).1)
  replace hown : w5.ownsRow w2.heap.size 35 7 v' l.length (l.flatMap evL) := by simpa using hown
  have HF5 := Lib.hid (And.intro hown (And.intro (HX2.out.eq (hb5.block _ HX2.out.lt)) (And.intro (HB3.out.trans (hb5.mono HB3.out.size)) (And.intro hb5 HX2.out.lt))))
  obtain ⟨Av, cv, rfl⟩ := ownR_form hown
  clear hown hgrow hb5 HO HX4 HI4 HB4
  have HR5 := Lib.hid (show w5.rangeAt b (off + k * 7) (evL y) from fun i u hi => (HF5.out.2.2.2.1.cell (p := ⟨b, off + k * 7 + i, none⟩) HR.out.2).trans (HR.out.1 i u hi))
  obtain ⟨g0, g1, g2, g3, g4, g5, g6⟩ := ev_cells HR5.out
  obtain ⟨e0, e1, e2, e3, e4, e5, e6⟩ := e_cells (x := x) HF5.out.2.1
  go_upto_region 10 with (fail)
  go_still_tail 6, (by kernel_rfl)
  change wpList _ _ _ _ _ w5.drew
  have hd := (Below.refl w5.heap.size w5).drew
  have HF6 := Lib.hid (And.intro (ownR_below HF5.out.1 hd) (And.intro (HF5.out.2.1.eq (hd.block _ HF5.out.2.1.lt)) (HF5.out.2.2.1.trans (hd.mono HF5.out.2.2.1.size))))
  clear hd e0 e1 e2 e3 e4 e5 e6 g0 g1 g2 g3 g4 g5 g6 HF5 HR5 HR
  generalize w5.drew = w6 at *
  go_wp2_with (go_at_call 34; (with_reducible (refine (HBt.out _).mono ?_)); rintro e w7 ⟨rfl, hb7⟩; have HF7 := Lib.hid (And.intro (ownR_below HF6.out.1 hb7) (And.intro (HF6.out.2.1.eq (hb7.block _ HF6.out.2.1.lt)) (HF6.out.2.2.trans (hb7.mono HF6.out.2.2.size)))); clear hb7)
  go_ret2
  exact ⟨rfl, HF7.out.2.2⟩
set_option maxRecDepth 100000 in
set_option maxHeartbeats 4000000 in
theorem ins_rep (A : Option Addr) (cap : Nat) (l : List Ev) (hl : l.length ≤ 1000) (room : Int) (x : Ev) (now : Nat) (w : World) (hI : Sl evL w A cap l) (hd : ¬ x.e.ex ≤ now) {k : Nat} (hk : findL (pm l) x.e.q = some k) (hbt : btE (l.getD k default).e x.e now = true) :
    Calls Try.prog 23 #[.slice A l.length cap, .int .i64 room, .agg (evL x).toArray, .int .u64 (now : Nat)] w fun e w' => ∃ A' cap', e = .returned (.tuple #[.slice A' (l.set k x).length cap', .int .i64 0]) ∧ Sl evL w' A' cap' (l.set k x) ∧ Below w.heap.size w w' := by
  obtain ⟨i0, hi, hz0, hz1, hz2⟩ := el_of elT
  obtain ⟨hkl, _⟩ := find_lt hk
  have hg : l.getD k default = l[k] := by simp [hkl]
  rw [hg] at hbt
  obtain ⟨b, off, hAe, hbs, hr⟩ := sl_ev hI k hkl
  subst hAe
  have hb := (Below.refl w.heap.size w).alloc (Nat.le_refl _) (Obj.cells (evL x).toArray 35)
  have HX := Lib.hid (Blk.new w 35 (evL x).toArray)
  have HB := Lib.hid hb
  have HI := Lib.hid (hI.below' hb)
  have hC := find_any _ cap l hl x.e.q _ (hI.below' hb)
  rw [hk] at hC
  simp only [atI] at hC
  have HC := Lib.hid hC
  clear hk hC
  clear hI hb
  unfold evL at HX HB HI HC ⊢
  have s0 : (0 : Int) ≤ (k : Nat) := by omega
  have s1 : (k : Int) < (l.length : Nat) := by omega
  have s2 : ((k : Int) < 0) = False := by simp
  have d0 : decide ((x.e.ex : Int) ≤ (now : Nat)) = false := by simp; omega
  have d0n : ¬ x.e.ex ≤ now := hd
  have HBt := Lib.hid (fun W => rbeats_any l[k] x now W)
  rw [hbt] at HBt
  have HRr := Lib.hid (And.intro hr hbs)
  clear hbt hr hbs hg
  generalize hy : l[k] = y at *
  have HRy := Lib.hid hy
  clear hy
  unfold evL at HBt
  go_enter Try.func23, Try.ntmps23
  go_upto_region 1 with (fail)
  generalize w.alloc (Obj.cells #[.string x.e.q.n, .int .u16 (x.e.q.k : Nat), .int .u16 (x.e.q.c : Nat), .slice x.A x.e.l.length x.cap, .int .i64 x.e.rc, .int .i64 x.e.rk, .int .u64 (x.e.ex : Nat)] 35) = w1 at *
  obtain ⟨e0, e1, e2, e3, e4, e5, e6⟩ := e_cells (x := x) HX.out
  go_upto_region 4 with (go_at_call 15; (with_reducible (refine (HC.out).mono ?_)); rintro e w2 ⟨rfl, hb2⟩; have HB2 := Lib.hid hb2; clear hb2)
  have HR := Lib.hid (show w2.rangeAt b (off + k * 7) (evL y) ∧ b < w2.heap.size from ⟨fun i u hi => (HB2.out.cell (p := ⟨b, off + k * 7 + i, none⟩) (Nat.lt_of_lt_of_le HRr.out.2 HB.out.size)).trans ((HB.out.cell (p := ⟨b, off + k * 7 + i, none⟩) HRr.out.2).trans (HRr.out.1 i u hi)), Nat.lt_of_lt_of_le HRr.out.2 (Nat.le_trans HB.out.size HB2.out.size)⟩)
  clear HRr
  clear e0 e1 e2 e3 e4 e5 e6
  have HX2 := Lib.hid (HX.out.eq (HB2.out.block _ HX.out.lt))
  have HB3 := Lib.hid (HB.out.trans (HB2.out.mono HB.out.size))
  have HI3 := Lib.hid (HI.out.below' HB2.out)
  clear HX HB HI HB2 HC
  go_upto_region 6 with (fail)
  have HO := Lib.hid (World.ownsRow_made (e := 35) (size := 7) w2 #[] 0 (Nat.le_refl _) (Nat.zero_le _) (by simp))
  have hb4 := (Below.refl w2.heap.size w2).alloc (Nat.le_refl _) (Obj.cells #[] 35)
  have HX4 := Lib.hid (HX2.out.eq (hb4.block _ HX2.out.lt))
  have HI4 := Lib.hid (HI3.out.below' hb4)
  have HB4 := Lib.hid hb4
  clear hb4
  go_upto_region 7 with (at_builtin; (refine wpList_append_slw rfl _ _ 29 rfl w2.heap.size 35 i0 (evV default) 7 72 Try.underlying29 hi hz0 hz1 hz2 rfl (by decide) _ _ _ rfl HO.out (f := evL) (l := l) rfl evL_len HI4.out (fun u hu => by obtain ⟨y, _, hy⟩ := List.mem_flatMap.1 hu; exact evL_each y u hy) ?q4 ?q5 HB4.out.size ?_))
  case q4 => unfold maxLen; omega
  case q5 => omega
  intro v' w5 hown hgrow
  have hb5 := HB4.out.grown hgrow HB4.out.size (fun k hk => (HO.out.lt k hk).1)
  replace hown : w5.ownsRow w2.heap.size 35 7 v' l.length (l.flatMap evL) := by simpa using hown
  have HF5 := Lib.hid (And.intro hown (And.intro (HX2.out.eq (hb5.block _ HX2.out.lt)) (And.intro (HB3.out.trans (hb5.mono HB3.out.size)) (And.intro hb5 HX2.out.lt))))
  obtain ⟨Av, cv, rfl⟩ := ownR_form hown
  clear hown hgrow hb5 HO HX4 HI4 HB4
  have HR5 := Lib.hid (show w5.rangeAt b (off + k * 7) (evL y) from fun i u hi => (HF5.out.2.2.2.1.cell (p := ⟨b, off + k * 7 + i, none⟩) HR.out.2).trans (HR.out.1 i u hi))
  obtain ⟨g0, g1, g2, g3, g4, g5, g6⟩ := ev_cells HR5.out
  obtain ⟨e0, e1, e2, e3, e4, e5, e6⟩ := e_cells (x := x) HF5.out.2.1
  go_upto_region 10 with (fail)
  go_still_tail 6, (by kernel_rfl)
  change wpList _ _ _ _ _ w5.drew
  have hd := (Below.refl w5.heap.size w5).drew
  have HF6 := Lib.hid (And.intro (ownR_below HF5.out.1 hd) (And.intro (HF5.out.2.1.eq (hd.block _ HF5.out.2.1.lt)) (HF5.out.2.2.1.trans (hd.mono HF5.out.2.2.1.size))))
  clear hd e0 e1 e2 e3 e4 e5 e6 g0 g1 g2 g3 g4 g5 g6 HF5 HR5 HR
  generalize w5.drew = w6 at *
  go_upto_region 12 with (go_at_call 34; (with_reducible (refine (HBt.out _).mono ?_)); rintro e w7 ⟨rfl, hb7⟩; have HF7 := Lib.hid (And.intro (ownR_below HF6.out.1 hb7) (And.intro (HF6.out.2.1.eq (hb7.block _ HF6.out.2.1.lt)) (HF6.out.2.2.trans (hb7.mono HF6.out.2.2.size)))); clear hb7)
  obtain ⟨g, hAv, hBg⟩ := own_block HF7.out.1 (by omega)
  subst hAv
  have hin : k * 7 + (evL x).length ≤ l.length * 7 := by rw [evL_len]; omega
  obtain ⟨e0, e1, e2, e3, e4, e5, e6⟩ := e_cells (x := x) HF7.out.2.1
  have HTh := Lib.hid (show w7.there g (k * 7) (evL x).toArray.size from there_own HF7.out.1 (by rw [List.size_toArray, evL_len]; omega))
  have HOw := Lib.hid (own_cells (evL x) (k * 7) w7 _ HF7.out.1)
  have HBe := Lib.hid (setCells_below (B := w.heap.size) (g := g) (evL x) (k * 7) HF7.out.2.2 (by have := HB3.out.size; omega))
  rw [putL_flat l k hkl x] at HOw
  go_wp2_with (refine wpList_store_mid rfl 35 _ _ rfl g (k * 7) (evL x).toArray (by go_num) rfl HTh.out (infoEa _) (evL_one _) ?_)
  go_ret2
  have hs := Sl.owned (l := l.set k x) (cap := cv) (A := some ⟨g, 0, none⟩) evL_len (by rw [List.length_set]; exact HOw.out)
  exact ⟨some ⟨g, 0, none⟩, cv, by rw [List.length_set]; rfl, hs.1, HBe.out⟩
end Go.Proofs.Ytnmgeoeppfdnhaa.D
