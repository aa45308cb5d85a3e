/- The contract of derrickref12.Advance. -/
import Derived.Test.YtjjanogfcfapcaaVdg
namespace Go.Proofs.Ytjjanogfcfapcaa.D
open Go.RowKit
set_option linter.unusedVariables false

def frA (c : List (Ce Ev)) (is : List W.Ti) : List (Ce Ev) := is.foldl (fun c x => c.set x.id.toNat Z0) c
theorem frA_len : ∀ (is : List W.Ti) (c : List (Ce Ev)), (frA c is).length = c.length
  | [], c => rfl
  | x :: r, c => by
    have := frA_len r (c.set x.id.toNat Z0)
    rw [List.length_set] at this
    exact this
theorem frA_pc : ∀ (is : List W.Ti) (c : List (Ce Ev)), pc (frA c is) = freeAll (pc c) is
  | [], c => rfl
  | x :: r, c => by
    have := frA_pc r (c.set x.id.toNat Z0)
    rw [pc_set] at this
    exact this
theorem frA_snoc (c : List (Ce Ev)) (is : List W.Ti) (x : W.Ti) : frA c (is ++ [x]) = (frA c is).set x.id.toNat Z0 := by
  unfold frA
  rw [List.foldl_append]
  rfl
/-- A slot that is freed is of nothing; the others are as they were. -/
theorem frA_at : ∀ (is : List W.Ti) (c : List (Ce Ev)) (k : Nat), ((frA c is).getD k Z0).x = (c.getD k Z0).x ∨ ((frA c is).getD k Z0).x = default
  | [], c, k => .inl rfl
  | x :: r, c, k => by
    rcases frA_at r (c.set x.id.toNat Z0) k with h | h
    · by_cases hx : x.id.toNat < c.length
      · rw [getD_set _ _ _ _ hx] at h
        split at h
        · exact .inr h
        · exact .inl h
      · rw [List.set_eq_of_length_le (by omega)] at h
        show ((frA (c.set x.id.toNat Z0) r).getD k Z0).x = _ ∨ _
        rw [List.set_eq_of_length_le (by omega)]
        exact .inl h
    · exact .inr h
theorem goneQ_snoc (c : List (Ce En)) (is : List W.Ti) (x : W.Ti) : goneQ c (is ++ [x]) = goneQ c is ++ [qAt c x.id.toNat] := by
  unfold goneQ
  rw [List.map_append]
  rfl
theorem goneQ_len (c : List (Ce En)) (is : List W.Ti) : (goneQ c is).length = is.length := by simp [goneQ]
/-- The least that is due so far. -/
def sK (c : List (Ce Ev)) (now i : Nat) : Option Nat := W.scanK En.ex (tiC (pc c)) now i
section
variable {c : List (Ce Ev)} {now i : Nat}
theorem cell_ti (c : List (Ce Ev)) (i : Nat) : W.cellOf (tiC (pc c)) i = if us c i then some (c.getD i Z0).x.e else none := by
  rw [cell_tiC, us_pc, pc_getD]
  rfl
theorem sK_zero : sK c now 0 = none := rfl
theorem sK_some {k : Nat} (h : sK c now i = some k) : k < i ∧ us c k = true ∧ W.exAt En.ex (tiC (pc c)) k = (c.getD k Z0).x.e.ex := by
  have h1 := W.scanK_least En.ex (tiC (pc c)) now i
  rw [show W.scanK En.ex (tiC (pc c)) now i = some k from h] at h1
  obtain ⟨h2, e, h3, _⟩ := h1
  have h4 := cell_ti c k
  rw [h3] at h4
  cases hu : us c k with
  | false => rw [hu] at h4; cases h4
  | true =>
    refine ⟨h2, rfl, ?_⟩
    unfold W.exAt
    rw [cell_ti, hu]
    rfl
theorem sK_free (hu : us c i = false) : sK c now (i + 1) = sK c now i := by
  show W.lookK En.ex (tiC (pc c)) now i (sK c now i) = _
  unfold W.lookK
  rw [cell_ti, hu]
  rfl
theorem sK_live (hu : us c i = true) (he : now < (c.getD i Z0).x.e.ex) : sK c now (i + 1) = sK c now i := by
  show W.lookK En.ex (tiC (pc c)) now i (sK c now i) = _
  unfold W.lookK
  rw [cell_ti, hu]
  simp only [if_true]
  rw [if_neg (by omega)]
theorem sK_first (hu : us c i = true) (he : (c.getD i Z0).x.e.ex ≤ now) (hs : sK c now i = none) : sK c now (i + 1) = some i := by
  show W.lookK En.ex (tiC (pc c)) now i (sK c now i) = _
  unfold W.lookK
  rw [cell_ti, hu, hs]
  simp only [if_true]
  rw [if_pos ⟨he, .inl (by trivial)⟩]
theorem sK_less (hu : us c i = true) (he : (c.getD i Z0).x.e.ex ≤ now) {k : Nat} (hs : sK c now i = some k) (hl : (c.getD i Z0).x.e.ex < (c.getD k Z0).x.e.ex) : sK c now (i + 1) = some i := by
  have h1 := (sK_some hs).2.2
  show W.lookK En.ex (tiC (pc c)) now i (sK c now i) = _
  unfold W.lookK
  rw [cell_ti, hu, hs]
  simp only [if_true, Option.getD_some]
  rw [if_pos ⟨he, .inr (by rw [h1]; exact hl)⟩]
theorem sK_more (hu : us c i = true) {k : Nat} (hs : sK c now i = some k) (hl : ¬ (c.getD i Z0).x.e.ex < (c.getD k Z0).x.e.ex) : sK c now (i + 1) = some k := by
  have h1 := (sK_some hs).2.2
  show W.lookK En.ex (tiC (pc c)) now i (sK c now i) = _
  unfold W.lookK
  rw [cell_ti, hu, hs]
  simp only [if_true, Option.getD_some]
  rw [if_neg (fun hc => by rcases hc.2 with h | h; (· cases h); (· rw [h1] at h; exact hl h))]
end
theorem e_at {w : World} {g k : Nat} {x : Ev} (h : w.rangeAt g k (evL x)) : w.cell? ⟨g, k + 6, none⟩ = some (.int .u64 (x.e.ex : Nat)) := h 6 _ rfl
theorem Vx.low {B q n : Nat} {w wr w3 : World} {d : Dv} {M : Ms Ev} (h : Vx B q n w wr d M) (hb : Below wr.heap.size wr w3) : Vx B q n w w3 d M :=
  ⟨h.bx.eq (hb.block _ h.bx.lt), h.br.eq (hb.block _ h.br.lt), h.D.below hb, h.ok, h.hl, h.b.trans (hb.mono (Nat.le_of_lt h.bx.lt))⟩
theorem with_zero (B i : Nat) (d : Dv) (M : Ms Ev) (hok : M.Ok) (hi : i < M.c.length) (w : World) (h : Dw B w d M.c) (hB : B ≤ w.heap.size) : Calls Try.prog 47 #[.agg #[.slice (some ⟨d.gx, 0, none⟩) M.c.length d.cx, .slice (some ⟨d.gu, 0, none⟩) M.c.length d.cu, .slice (some ⟨d.gt, 0, none⟩) M.c.length d.ct, .int .i64 (M.h : Nat)], .int .i64 (i : Nat), .agg #[.string ⟨#[]⟩, .int .u16 0, .int .u16 0, .slice none 0 0, .int .i64 0, .int .i64 0, .int .u64 0], .bool false, .bool false] w fun e w' => ∃ d' : Dv, e = .returned (.agg #[.slice (some ⟨d'.gx, 0, none⟩) M.c.length d'.cx, .slice (some ⟨d'.gu, 0, none⟩) M.c.length d'.cu, .slice (some ⟨d'.gt, 0, none⟩) M.c.length d'.ct, .int .i64 (M.h : Nat)]) ∧ Dw B w' d' (M.c.set i Z0) ∧ Below w.heap.size w w' :=
  with_lit B i default false false d M hok hi w h hB
/-- How far what is due has gone. -/
structure Ad (B q n : Nat) (w wr : World) (d : Dv) (M : Ms Ev) (D : List W.Ti) (now j : Nat) (v : Value) : Prop where
  vx : Vx B q n w wr d ⟨frA M.c (D.take j), M.h⟩
  own : wr.ownsRow w.heap.size 35 3 v j ((goneQ (pc M.c) (D.take j)).flatMap qf)
  lst : ∃ l, TO (pc (frA M.c (D.take j))) l ∧ W.dueL l now = D.drop j
theorem Ad.low {B q n : Nat} {w wr w3 : World} {d : Dv} {M : Ms Ev} {D : List W.Ti} {now j : Nat} {v : Value} (h : Ad B q n w wr d M D now j v) (hb : Below wr.heap.size wr w3) : Ad B q n w w3 d M D now j v := ⟨h.vx.low hb, ownR_below h.own hb, h.lst⟩
/-- Nothing more is due. -/
theorem Ad.end_ {B q n : Nat} {w wr : World} {d : Dv} {M : Ms Ev} {D : List W.Ti} {now j : Nat} {v : Value} (h : Ad B q n w wr d M D now j v) (hn : sK (frA M.c (D.take j)) now n = none) : D.take j = D := by
  obtain ⟨l, h1, h2⟩ := h.lst
  have hl : (tiC (pc (frA M.c (D.take j)))).length = n := by rw [tiC_len, pc_len]; exact h.vx.hl
  cases hd : W.dueL l now with
  | nil =>
    rw [hd] at h2
    have h3 : (D.drop j).length = 0 := by rw [← h2]; rfl
    rw [List.length_drop] at h3
    rw [List.take_of_length_le (by omega)]
  | cons x r =>
    obtain ⟨k, e, _, h4, _⟩ := W.scanK_some h1 hd
    rw [hl] at h4
    unfold sK at hn
    rw [hn] at h4
    cases h4
/-- One more is due. -/
theorem Ad.next {B q n : Nat} {w wr : World} {d : Dv} {M : Ms Ev} {D : List W.Ti} {now j k : Nat} {v : Value} {l0 : List W.Ti} (h : Ad B q n w wr d M D now j v) (h0 : TO (pc M.c) l0) (hD : D = W.dueL l0 now) (hn : sK (frA M.c (D.take j)) now n = some k) :
    j < D.length ∧ k < n ∧ frA M.c (D.take (j + 1)) = (frA M.c (D.take j)).set k Z0 ∧ goneQ (pc M.c) (D.take (j + 1)) = goneQ (pc M.c) (D.take j) ++ [((frA M.c (D.take j)).getD k Z0).x.e.q] ∧ ∃ l, TO (pc (frA M.c (D.take (j + 1)))) l ∧ W.dueL l now = D.drop (j + 1) := by
  obtain ⟨l, h1, h2⟩ := h.lst
  have hl : (tiC (pc (frA M.c (D.take j)))).length = n := by rw [tiC_len, pc_len]; exact h.vx.hl
  have hkn := (sK_some hn).1
  cases hd : W.dueL l now with
  | nil =>
    have h3 := W.scanK_none h1 hd
    rw [hl] at h3
    unfold sK at hn
    rw [hn] at h3
    cases h3
  | cons x r =>
    obtain ⟨k', e, hx, h4, hc, _⟩ := W.scanK_some h1 hd
    rw [hl] at h4
    unfold sK at hn
    obtain rfl : k' = k := by rw [hn] at h4; cases h4; rfl
    have h5 := h2
    rw [hd] at h5
    have hj : j < D.length := by
      rcases Nat.lt_or_ge j D.length with h6 | h6
      · exact h6
      · rw [List.drop_of_length_le h6] at h5; cases h5
    have h6 := List.drop_eq_getElem_cons hj
    rw [← h5] at h6
    obtain ⟨h7, h8⟩ := List.cons.inj h6
    have ht : D.take (j + 1) = D.take j ++ [x] := by rw [List.take_add_one, List.getElem?_eq_getElem hj, h7]; rfl
    have hxn : x.id.toNat = k' := by rw [hx]; rfl
    obtain ⟨d1, d2⟩ := W.due_next h1 hx (by rw [hl]; exact hkn) hd
    refine ⟨hj, hkn, by rw [ht, frA_snoc, hxn], ?_, W.delL l x.id, ?_, by rw [d2, h8]⟩
    · rw [ht, goneQ_snoc, hxn]
      have h9 : (freeAll (pc M.c) (D.take j)).getD k' Z0 = (pc M.c).getD k' Z0 := by
        subst hD
        have h10 := due_at h0 now j hj
        rw [← h7, hxn] at h10
        exact h10
      rw [← frA_pc, pc_getD, pc_getD] at h9
      have h11 : ((frA M.c (D.take j)).getD k' Z0).x.e = (M.c.getD k' Z0).x.e := congrArg Ce.x h9
      rw [h11]
      unfold qAt
      rw [pc_getD]
      rfl
    · rw [ht, frA_snoc, hxn, pc_set]
      show W.TimesOf En.ex _ _
      rw [tiC_set]
      exact d1
theorem radv_box {w : World} {B q k n : Nat} {v : Value} {xs : List Value} {old cs : Array Value} (h : w.ownsRow B 35 k v n xs) (hq : Blk w q 29 old) : (w.setRow q cs).ownsRow B 35 k v n xs := own_setRow cs h hq (by decide)

theorem Vx.grown {B q n : Nat} {w w5 w6 : World} {d : Dv} {M : Ms Ev} {v : Value} {m : Nat} {xs : List Value} (h : Vx B q n w w5 d M) (ho : w5.ownsRow q 35 3 v m xs) (g : w5.grownBy w6 v.ownBlock) : Vx B q n w w6 d M := by
  have f : ∀ {t : TypeId} {b : Nat} {cs : Array Value}, Blk w5 b t cs → 35 ≠ t → w6.heap[b]? = w5.heap[b]? := fun hb hne => g.block _ hb.lt (fun e => own_type ho hb hne e.symm rfl)
  refine ⟨h.bx.eq (f h.bx (by decide)), h.br.eq (f h.br (by decide)), ⟨?_, ?_, ?_, h.D.ne⟩, h.ok, h.hl, h.b.grown g (Nat.le_of_lt h.bx.lt) (fun k hk => (ho.lt k hk).1)⟩
  · exact own_keep h.D.ox fun b hb => by obtain ⟨_, cur, hc⟩ := own_at h.D.ox hb; exact f hc (by decide)
  · exact own_keep h.D.ou fun b hb => by obtain ⟨_, cur, hc⟩ := own_at h.D.ou hb; exact f hc (by decide)
  · exact own_keep h.D.ot fun b hb => by obtain ⟨_, cur, hc⟩ := own_at h.D.ot hb; exact f hc (by decide)

set_option maxRecDepth 100000 in
set_option maxHeartbeats 4000000 in
theorem radv_any (B : Nat) (d : Dv) (M : Ms Ev) (hok : M.Ok) (l : List W.Ti) (ht : TO (pc M.c) l) (now : Nat) (w : World) (h : Dw B w d M.c) (hB : B ≤ w.heap.size) : Calls Try.prog 31 #[dV d M, .int .u64 (now : Nat)] w fun e w' => ∃ (d' : Dv) (A : Option Addr) (cap : Nat), e = .returned (.tuple #[dV d' ⟨frA M.c (W.dueL l now), M.h⟩, .slice A (goneQ (pc M.c) (W.dueL l now)).length cap]) ∧ Dw B w' d' (frA M.c (W.dueL l now)) ∧ Sl qf w' A cap (goneQ (pc M.c) (W.dueL l now)) ∧ Nw w.heap.size A ∧ Below w.heap.size w w' := by
  obtain ⟨i0, hi, hz0, hz1, hz2⟩ := el_of elQ
  have hD64 : (W.dueL l now).length ≤ 64 := by
    have h1 := ti_le ht
    have h2 : (W.dueL l now).length ≤ l.length := (List.takeWhile_sublist _).length_le
    have h3 := hok.n64
    rw [pc_len] at h1
    omega
  have h64 := hok.n64
  have HBB := Lib.hid hB
  have hv := vx_of hok h
  have h0 : Ad B w.heap.size M.c.length w ((w.alloc (Obj.cells #[.slice (some ⟨d.gx, 0, none⟩) M.c.length d.cx, .slice (some ⟨d.gu, 0, none⟩) M.c.length d.cu, .slice (some ⟨d.gt, 0, none⟩) M.c.length d.ct, .int .i64 (M.h : Nat)] 29)).alloc (Obj.cells #[Value.slice none 0 0, .slice none 0 0, .slice none 0 0, .int .i64 0] 29)) d M (W.dueL l now) now 0 (.slice none 0 0) := ⟨hv, World.ownsRow_nil _ _ _ _, l, ht, rfl⟩
  rw [goneQ_len]
  have HT := Lib.hid ht
  have HDD := Lib.hid (show W.dueL l now = W.dueL l now from rfl)
  rw [dV_eq]
  have HA := Lib.hid h0
  clear h0 hv ht h hB hok
  generalize hn : M.c.length = n at *
  have HN := Lib.hid hn
  have HL := Lib.hid (fun is => (frA_len is M.c).trans hn)
  clear hn
  obtain ⟨D, HDe⟩ : ∃ D, Hid (D = W.dueL l now) := ⟨_, Lib.hid rfl⟩
  rw [← HDe.out] at hD64 HA ⊢
  go_enter Try.func31, Try.ntmps31
  go_upto_region 1 with (fail)
  generalize ((w.alloc (Obj.cells #[.slice (some ⟨d.gx, 0, none⟩) M.c.length d.cx, .slice (some ⟨d.gu, 0, none⟩) M.c.length d.cu, .slice (some ⟨d.gt, 0, none⟩) M.c.length d.ct, .int .i64 (M.h : Nat)] 29)).alloc (Obj.cells #[Value.slice none 0 0, .slice none 0 0, .slice none 0 0, .int .i64 0] 29)) = w1 at *
  go_wp2_with fail
  go_loopg [6] D.length (fun k v wr => ∃ (j : Nat) (d' : Dv), j + k = D.length ∧ Ad B w.heap.size n w wr d' M D now j v)
  case atStart => exact ⟨0, d, by omega, HA.out⟩
  case round =>
    clear HA HDD
    obtain ⟨j, d', hjk, hA⟩ := hrel
    obtain ⟨Av, cv, rfl⟩ := ownR_form hA.own
    obtain ⟨c, HC⟩ : ∃ c, Hid (frA M.c (D.take j) = c) := ⟨_, Lib.hid rfl⟩
    have hvx := hA.vx
    rw [HC.out] at hvx
    have hl := hvx.hl
    simp only at hl
    have HA := Lib.hid hA
    have HV := Lib.hid hvx
    clear hA hvx
    go_wp2_with fail
    go_loopw [7, 8] (fun kv iv wi => ∃ i : Nat, i ≤ n ∧ iv = .int .i64 i ∧ kv = .int .i64 (atI (sK c now i)) ∧ Below wr.heap.size wr wi) (fun _ iv _ => n - (intOf iv).toNat)
    case atStart => exact ⟨0, Nat.zero_le _, rfl, rfl, Below.refl _ _⟩
    case round =>
      obtain ⟨i, hin, rfl, rfl, hbi⟩ := hrel
      have hvi := HV.out.low hbi
      have HBI := Lib.hid hbi
      have x0 := hvi.bx.cell 0
      have x1 := hvi.bx.cell 1
      have x2 := hvi.bx.cell 2
      have x3 := hvi.bx.cell 3
      simp only [List.getElem?_toArray, List.getElem?_cons_zero, List.getElem?_cons_succ] at x0 x1 x2 x3
      by_cases hlt : i < n
      · have d1 : decide ((i : Int) < n) = true := by simp; omega
        have hic : i < c.length := by omega
        have e1 := hvi.D.e1 hic
        have s0 : (0 : Int) ≤ (i : Nat) := by omega
        have s1 : (i : Int) < (n : Nat) := by omega
        have r6 := e_at (hvi.D.e0 hic)
        simp only at e1 r6
        cases hu : us c i with
        | false =>
          rw [hu] at e1
          have HS := Lib.hid (sK_free (now := now) hu)
          clear hu r6 hvi hbi
          obtain ⟨kz, HK⟩ : ∃ kz, Hid (atI (sK c now i) = kz) := ⟨_, Lib.hid rfl⟩
          rw [HK.out]
          go_upto_region 6 with (fail)
          go_quiet (fail)
          go_wp2_with fail
          go_roundw
          case rel => exact ⟨i + 1, hlt, by go_num, by rw [HS.out, HK.out], bel_dn HBI.out _⟩
          case measure => simp [intOf]; omega
        | true =>
          rw [hu] at e1
          by_cases hlive : now < (c.getD i Z0).x.e.ex
          · have HS := Lib.hid (sK_live hu hlive)
            obtain ⟨ei, hei⟩ : ∃ ei, (c.getD i Z0).x.e.ex = ei := ⟨_, rfl⟩
            rw [hei] at r6 hlive
            have d2 : ¬ ei ≤ now := by omega
            clear hu hvi hbi hei
            obtain ⟨kz, HK⟩ : ∃ kz, Hid (atI (sK c now i) = kz) := ⟨_, Lib.hid rfl⟩
            rw [HK.out]
            go_upto_region 6 with (fail)
            go_quiet (fail)
            go_wp2_with fail
            go_roundw
            case rel => exact ⟨i + 1, hlt, by go_num, by rw [HS.out, HK.out], bel_dn HBI.out _⟩
            case measure => simp [intOf]; omega
          · have hdue : (c.getD i Z0).x.e.ex ≤ now := by omega
            cases hs : sK c now i with
            | none =>
              have HS := Lib.hid (sK_first hu hdue hs)
              obtain ⟨ei, hei⟩ : ∃ ei, (c.getD i Z0).x.e.ex = ei := ⟨_, rfl⟩
              rw [hei] at r6 hdue
              have d2 : decide ((ei : Int) ≤ (now : Nat)) = true := by simp; omega
              clear hu hvi hbi hei hlive hs
              simp only [atI]
              go_upto_region 6 with (fail)
              go_quiet (fail)
              go_wp2_with fail
              go_roundw
              case rel => exact ⟨i + 1, hlt, by go_num, by rw [HS.out], bel_dn HBI.out _⟩
              case measure => simp [intOf]; omega
            | some k =>
              obtain ⟨hki, huk, _⟩ := sK_some hs
              have t6 := e_at (hvi.D.e0 (k := k) (by simp only; omega))
              simp only at t6
              have g0 : decide ((k : Int) < 0) = false := by simp
              have g1 : (0 : Int) ≤ (k : Nat) := by omega
              have g2 : (k : Int) < (n : Nat) := by omega
              by_cases hless : (c.getD i Z0).x.e.ex < (c.getD k Z0).x.e.ex
              · have HS := Lib.hid (sK_less hu hdue hs hless)
                obtain ⟨ei, hei⟩ : ∃ ei, (c.getD i Z0).x.e.ex = ei := ⟨_, rfl⟩
                obtain ⟨ek, hek⟩ : ∃ ek, (c.getD k Z0).x.e.ex = ek := ⟨_, rfl⟩
                rw [hei] at r6 hdue hless
                rw [hek] at t6 hless
                have d2 : decide ((ei : Int) ≤ (now : Nat)) = true := by simp; omega
                have d3 : decide ((ei : Int) < (ek : Nat)) = true := by simp; omega
                clear hu hvi hbi hei hek hlive hs huk
                simp only [atI]
                go_upto_region 6 with (fail)
                go_quiet (fail)
                go_wp2_with fail
                go_roundw
                case rel => exact ⟨i + 1, hlt, by go_num, by rw [HS.out], bel_dn HBI.out _⟩
                case measure => simp [intOf]; omega
              · have HS := Lib.hid (sK_more hu hs hless)
                obtain ⟨ei, hei⟩ : ∃ ei, (c.getD i Z0).x.e.ex = ei := ⟨_, rfl⟩
                obtain ⟨ek, hek⟩ : ∃ ek, (c.getD k Z0).x.e.ex = ek := ⟨_, rfl⟩
                rw [hei] at r6 hdue hless
                rw [hek] at t6 hless
                have d2 : decide ((ei : Int) ≤ (now : Nat)) = true := by simp; omega
                have d3 : decide ((ei : Int) < (ek : Nat)) = false := by simp; omega
                clear hu hvi hbi hei hek hlive hs huk
                simp only [atI]
                go_upto_region 6 with (fail)
                go_quiet (fail)
                go_wp2_with fail
                go_roundw
                case rel => exact ⟨i + 1, hlt, by go_num, by rw [HS.out], bel_dn HBI.out _⟩
                case measure => simp [intOf]; omega
      · obtain rfl : i = n := by omega
        have d1 : decide ((i : Int) < i) = false := by simp
        have hvi2 := HV.out.low hbi
        cases hs : sK c now i with
        | none =>
          have hE := HA.out.end_ (by rw [HC.out]; exact hs)
          have hj : j = D.length := by
            have h3 := congrArg List.length hE
            rw [List.length_take] at h3
            omega
          have hA3 := HA.out.low hbi
          have hd3 := hA3.vx.D
          simp only at hd3
          rw [hE] at hd3
          have ho3 := hA3.own
          rw [hE] at ho3
          have HO := Lib.hid ho3
          have HD3 := Lib.hid hd3
          have HR5 := Lib.hid (hvi2.ret #[.slice (some ⟨d'.gx, 0, none⟩) i d'.cx, .slice (some ⟨d'.gu, 0, none⟩) i d'.cu, .slice (some ⟨d'.gt, 0, none⟩) i d'.ct, .int .i64 (M.h : Nat)])
          have HV3 := Lib.hid hvi2
          have HVV := Lib.hid (show Value.agg #[.slice (some ⟨d'.gx, 0, none⟩) i d'.cx, .slice (some ⟨d'.gu, 0, none⟩) i d'.cu, .slice (some ⟨d'.gt, 0, none⟩) i d'.ct, .int .i64 (M.h : Nat)] = dV d' ⟨frA M.c D, M.h⟩ by rw [dV_eq]; simp only; rw [frA_len, HN.out])
          have HJ := Lib.hid hj
          clear hvi hvi2 hbi hA3 hd3 ho3 hs hE
          simp only [atI]
          go_wp2_with (first | (refine wpList_load_row rfl 29 _ rfl w.heap.size rfl 29 _ _ _ HV3.out.bx Try.underlying29 rfl infoD ?_) | (refine wpList_store_row rfl 29 _ _ rfl (w.heap.size + 1) _ rfl rfl 29 _ HV3.out.br infoD rfl (all4 _ _ _ _ _ _ _ _) ?_))
          have HO4 := radv_box (cs := #[.slice (some ⟨d'.gx, 0, none⟩) i d'.cx, .slice (some ⟨d'.gu, 0, none⟩) i d'.cu, .slice (some ⟨d'.gt, 0, none⟩) i d'.ct, .int .i64 (M.h : Nat)]) HO.out HV3.out.br
          rw [HJ.out, ← goneQ_len (pc M.c) D] at HO4
          have HS4 := Sl.owned qf_len HO4
          refine ret_d2 rfl rfl rfl rfl (setRow_heap _ _ _ _ _ _ HV3.out.br) ⟨d', Av, cv, ?_, ?_, HS4.1, HS4.2, HR5.out.2⟩
          · rw [← HVV.out]
            first | rfl | (rw [HJ.out]; rfl)
          · exact HD3.out.setRow HV3.out.br
        | some k =>
          obtain ⟨n1, n2, n3, n4, l5, n5, n6⟩ := HA.out.next HT.out HDe.out (by rw [HC.out]; exact hs)
          rw [HC.out] at n3 n4
          have hkc : k < c.length := by omega
          obtain ⟨r0, r1, r2⟩ := q_at (hvi2.D.e0 (k := k) hkc)
          simp only at r0 r1 r2
          obtain ⟨r, hr⟩ : ∃ r, (c.getD k Z0).x.e.q = r := ⟨_, rfl⟩
          rw [hr] at r0 r1 r2 n4
          have g0 : decide ((k : Int) < 0) = false := by simp
          have g1 : (0 : Int) ≤ (k : Nat) := by omega
          have g2 : (k : Int) < (i : Nat) := by omega
          have hoi := (HA.out.low hbi).own
          have hq5 := (hvi2.low ((Below.refl wr.heap.size wr).alloc (Nat.le_refl _) (Obj.cells #[.string r.n, .int .u16 (r.k : Nat), .int .u16 (r.c : Nat)] 35)))
          have HO5 := Lib.hid (hoi.alloc (Obj.cells #[.string r.n, .int .u16 (r.k : Nat), .int .u16 (r.c : Nat)] 35))
          have HQ5 := Lib.hid hq5
          clear hvi hvi2 hbi hoi hq5 hr
          simp only [atI]
          have HN3 := Lib.hid n3
          have HN4 := Lib.hid n4
          have HN5 := Lib.hid n5
          have HN6 := Lib.hid n6
          have HKC := Lib.hid hkc
          clear n3 n4 n5 n6 hs
          go_wp2_with (at_builtin; (refine wpList_append_own _ rfl _ _ 43 rfl w.heap.size 35 i0 (qV ⟨⟨#[]⟩, 0, 0⟩) 3 24 Try.underlying43 hi hz0 hz1 hz2 rfl (by decide) _ _ _ rfl HO5.out ⟨wr.heap.size, 0, none⟩ 1 1 (qf r) rfl rfl (newQ wr r) ?q3 ?q4 ?q5 (Nat.le_trans HQ5.out.b.size (Nat.le_refl _)) ?_))
          case q3 => intro u hu; simp [qf] at hu; rcases hu with rfl | rfl | rfl <;> rfl
          case q4 => unfold maxLen; omega
          case q5 => omega
          intro v' w6 hown2 hgrow hnil
          have hv6 := HQ5.out.grown HO5.out hgrow
          rw [show (goneQ (pc M.c) (D.take j)).flatMap qf ++ qf r = (goneQ (pc M.c) (D.take (j + 1))).flatMap qf by rw [HN4.out, List.flatMap_append]; simp] at hown2
          have HO6 := Lib.hid hown2
          have HV6 := Lib.hid hv6
          have HW6 := Lib.hid (with_zero B k d' ⟨c, M.h⟩ hv6.ok HKC.out w6 hv6.D (Nat.le_trans HBB.out hv6.b.size))
          simp only [hl] at HW6
          have hset : (c.set k Z0).length = i := by rw [List.length_set]; exact hl
          have hok7 : (⟨c.set k Z0, M.h⟩ : Ms Ev).Ok := ⟨by rw [hset, ← hl]; exact hv6.ok.n1, by rw [hset]; exact h64, by rw [hset, ← hl]; exact hv6.ok.hn⟩
          have HK7 := Lib.hid (And.intro hset hok7)
          clear hown2 hgrow hnil hv6 HO5 HQ5 r0 r1 r2 hset hok7 x0 x1 x2 x3
          go_wp2_with (first | (refine wpList_load_row rfl 29 _ rfl w.heap.size rfl 29 _ _ _ HV6.out.bx Try.underlying29 rfl infoD ?_) | (refine wpList_store_row rfl 29 _ _ rfl w.heap.size _ rfl rfl 29 _ HR7.out.1 infoD rfl (all4 _ _ _ _ _ _ _ _) ?_) | (go_at_call 47; with_reducible (refine HW6.out.mono ?_); rintro e w7 ⟨d5, rfl, hd7, hb7⟩; have HO7 := Lib.hid (ownR_below HO6.out hb7); have HR7 := Lib.hid (HV6.out.box (M' := ⟨c.set k Z0, M.h⟩) hd7 hb7 HK7.out.2 HK7.out.1 rfl); clear hd7 hb7))
          go_roundg (D.length - (j + 1))
          case rel =>
            refine ⟨j + 1, d5, by omega, ?_, radv_box HO7.out HR7.out.1, l5, HN5.out, HN6.out⟩
            rw [HN3.out]
            exact HR7.out.2
          case measure => omega
end Go.Proofs.Ytjjanogfcfapcaa.D
