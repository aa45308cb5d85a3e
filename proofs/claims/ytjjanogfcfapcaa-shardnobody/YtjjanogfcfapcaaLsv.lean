/- Entries, deeds of shards, slices of deeds and questions as arguments are read. -/
import Derived.Test.YtjjanogfcfapcaaVck
import Derived.ProofKit
import Derived.OpenShut
import Derived.ShutString
import Derived.ChangeOld
import Derived.SizedLaws
import Derived.Deep.Slices
import Derived.Deep.SlicePairs
import Derived.Carry
namespace Go.Proofs.Ytjjanogfcfapcaa
open Go.ChangeShapes Go.WideShapes Go.ChangeAt Go.RowKit Go.Deep
set_option linter.unusedVariables false
theorem laidOut : laidOutB Try.prog = true := by kernel_rfl
theorem readE : Try.prog.readableRec 39 = true := by kernel_rfl
theorem sizeE : 39 < Try.prog.types.size := by decide +kernel
theorem readD : Try.prog.readableRec 41 = true := by kernel_rfl
theorem sizeD : 41 < Try.prog.types.size := by decide +kernel
theorem readZ : Try.prog.readableRec 22 = true := by kernel_rfl
theorem sizeZ : 22 < Try.prog.types.size := by decide +kernel
theorem readq : Try.prog.readableRec 35 = true := by kernel_rfl
theorem sizeq : 35 < Try.prog.types.size := by decide +kernel
theorem cell_E : Try.prog.cellsOf 39 = 7 := by kernel_rfl
theorem cell_D : Try.prog.cellsOf 41 = 9 := by kernel_rfl
theorem cell_R : Try.prog.cellsOf 89 = 5 := by kernel_rfl
theorem cell_Rs : Try.prog.cellsOf 36 = 1 := by kernel_rfl
theorem cell_u16 : Try.prog.cellsOf 33 = 1 := by kernel_rfl
theorem cell_u32 : Try.prog.cellsOf 87 = 1 := by kernel_rfl
theorem cell_u64 : Try.prog.cellsOf 37 = 1 := by kernel_rfl
theorem cell_int : Try.prog.cellsOf 3 = 1 := by kernel_rfl
theorem cell_s : Try.prog.cellsOf 9 = 1 := by kernel_rfl
theorem byteR : Try.prog.bytesOf 89 = 40 := by kernel_rfl
theorem nat_u16 {n : Int} (h : (Lit.int .u16 n).wf = true) : ∃ k : Nat, n = k ∧ k < 65536 := by
  simp [Lit.wf, IntKind.min, IntKind.max, IntKind.signed, IntKind.bits] at h
  exact ⟨n.toNat, by omega, by omega⟩
theorem nat_u8 {n : Int} (h : (Lit.int .u8 n).wf = true) : ∃ k : Nat, n = k ∧ k < 256 := by
  simp [Lit.wf, IntKind.min, IntKind.max, IntKind.signed, IntKind.bits] at h
  exact ⟨n.toNat, by omega, by omega⟩
theorem nat_u32 {n : Int} (h : (Lit.int .u32 n).wf = true) : ∃ k : Nat, n = k ∧ k < 4294967296 := by
  simp [Lit.wf, IntKind.min, IntKind.max, IntKind.signed, IntKind.bits] at h
  exact ⟨n.toNat, by omega, by omega⟩
theorem nat_u64 {n : Int} (h : (Lit.int .u64 n).wf = true) : ∃ k : Nat, n = k ∧ k < 18446744073709551616 := by
  simp [Lit.wf, IntKind.min, IntKind.max, IntKind.signed, IntKind.bits] at h
  exact ⟨n.toNat, by omega, by omega⟩
theorem cell_lt {w : World} {p : Addr} {v : Value} (h : w.cell? p = some v) : p.block < w.heap.size := cell_size h
/-- An entry that came in. -/
structure Arg (w : World) (x : Ev) : Prop where
  sl : Sl rf w x.A x.cap x.e.l
  q : x.e.q.Fine
  ex : x.e.ex < 18446744073709551616
  sm : x.e.l.length ≤ 3518437208883
theorem Arg.low {w w' : World} {x : Ev} (h : Arg w x) (hb : Below w.heap.size w w') : Arg w' x := ⟨h.sl.below' hb, h.q, h.ex, h.sm⟩
/-- A deed. -/
structure Dd where
  k : Int
  x : Ev
  now : Nat
instance : Inhabited Dd := ⟨⟨0, default, 0⟩⟩
instance : Inhabited Rc := ⟨Rc.zero⟩
def df (d : Dd) : List Value := .int .i64 d.k :: (evL d.x ++ [.int .u64 (d.now : Nat)])
theorem df_len (d : Dd) : (df d).length = 9 := rfl
/-- A deed that came in. -/
structure ArgD (w : World) (d : Dd) : Prop where
  x : Arg w d.x
  now : d.now < 18446744073709551616
section
variable {H : Type} {enc : TypeId × Value → H} {w : World} {base : Nat} {sp : Nat → Bool} {held : Bool}
set_option maxRecDepth 100000 in
theorem rr_cells {fuel : Nat} {cs : List Value} {x : DataW H × List MemPlace} (h : DataW.trod enc Try.prog w base sp held fuel 89 cs = some x) :
    ∃ r : Rc, cs = rf r ∧ r.Ok := by
  obtain ⟨xs, n, _, _, hlen, hxl, hf⟩ := DataW.trod_struct Try.underlying89 h
  rw [cell_R] at hlen
  have hxl' : xs.length = 5 := hxl
  have h0 : DataW.trod enc Try.prog w base sp held n 9 ((cs.drop 0).take (Try.prog.cellsOf 9)) = xs[0]? := hf 0 _ rfl
  have h1 : DataW.trod enc Try.prog w base sp held n 33 ((cs.drop 1).take (Try.prog.cellsOf 33)) = xs[1]? := hf 1 _ rfl
  have h2 : DataW.trod enc Try.prog w base sp held n 33 ((cs.drop 2).take (Try.prog.cellsOf 33)) = xs[2]? := hf 2 _ rfl
  have h3 : DataW.trod enc Try.prog w base sp held n 87 ((cs.drop 3).take (Try.prog.cellsOf 87)) = xs[3]? := hf 3 _ rfl
  have h4 : DataW.trod enc Try.prog w base sp held n 9 ((cs.drop 4).take (Try.prog.cellsOf 9)) = xs[4]? := hf 4 _ rfl
  rw [List.getElem?_eq_getElem (by omega), cell_s] at h0 h4
  rw [List.getElem?_eq_getElem (by omega), cell_u16] at h1 h2
  rw [List.getElem?_eq_getElem (by omega), cell_u32] at h3
  match cs, hlen with
  | [v0, v1, v2, v3, v4], _ =>
    obtain ⟨a0, e0, _, s0⟩ := DataW.trod_string Try.underlying9 h0
    obtain ⟨a1, e1, _, s1⟩ := DataW.trod_int Try.underlying33 h1
    obtain ⟨a2, e2, _, s2⟩ := DataW.trod_int Try.underlying33 h2
    obtain ⟨a3, e3, _, s3⟩ := DataW.trod_int Try.underlying87 h3
    obtain ⟨a4, e4, _, s4⟩ := DataW.trod_string Try.underlying9 h4
    obtain ⟨k, rfl, hk⟩ := nat_u16 s1
    obtain ⟨c, rfl, hc⟩ := nat_u16 s2
    obtain ⟨t, rfl, ht⟩ := nat_u32 s3
    simp at e0 e1 e2 e3 e4
    exact ⟨⟨a0, k, c, t, a4⟩, by rw [e0, e1, e2, e3, e4]; rfl, ⟨hk, hc, ht⟩⟩
set_option maxRecDepth 100000 in
theorem q_read {fuel : Nat} {cs : List Value} {x : DataW H × List MemPlace} (h : DataW.trod enc Try.prog w base sp held fuel 35 cs = some x) :
    ∃ q : Qu, cs = qf q ∧ q.Fine := by
  obtain ⟨ys, m, _, _, hlen, hyl, hq⟩ := DataW.trod_struct Try.underlying35 h
  rw [cellsQ] at hlen
  have hyl' : ys.length = 3 := hyl
  have q0 : DataW.trod enc Try.prog w base sp held m 9 ((cs.drop 0).take (Try.prog.cellsOf 9)) = ys[0]? := hq 0 _ rfl
  have q1 : DataW.trod enc Try.prog w base sp held m 33 ((cs.drop 1).take (Try.prog.cellsOf 33)) = ys[1]? := hq 1 _ rfl
  have q2 : DataW.trod enc Try.prog w base sp held m 33 ((cs.drop 2).take (Try.prog.cellsOf 33)) = ys[2]? := hq 2 _ rfl
  rw [List.getElem?_eq_getElem (by omega), cell_s] at q0
  rw [List.getElem?_eq_getElem (by omega), cell_u16] at q1 q2
  match cs, hlen with
  | [v0, v1, v2], _ =>
    obtain ⟨a0, e0, _, s0⟩ := DataW.trod_string Try.underlying9 q0
    obtain ⟨a1, e1, _, s1⟩ := DataW.trod_int Try.underlying33 q1
    obtain ⟨a2, e2, _, s2⟩ := DataW.trod_int Try.underlying33 q2
    obtain ⟨t, rfl, ht⟩ := nat_u16 s1
    obtain ⟨c, rfl, hc⟩ := nat_u16 s2
    simp at e0 e1 e2
    exact ⟨⟨a0, t, c⟩, by rw [e0, e1, e2]; rfl, ⟨s0, ht, hc⟩⟩
end
/-- Elements that lie one behind the other. -/
theorem sl_of {α : Type} [Inhabited α] {f : α → List Value} {k : Nat} (hk : ∀ r, (f r).length = k) (hk0 : 0 < k) {G : α → Prop} {W : World} {a : Addr} {len cap : Nat} (hl : len ≤ cap) (each : ∀ i, i < len → ∃ r : α, G r ∧ W.cells? 0 (a.add (i * k)) k = some (f r)) :
    ∃ l : List α, l.length = len ∧ Sl f W (some a) cap l ∧ ∀ r ∈ l, G r := by
  obtain ⟨Q, hQ⟩ := choose_lt each
  refine ⟨(List.range len).map Q, by simp, ⟨(fun h => by cases h), by simpa using hl, ?_⟩, fun r hr => ?_⟩
  · rcases Nat.eq_zero_or_pos len with h0 | h0
    · left
      rw [h0]
      rfl
    · right
      obtain ⟨_, _, hatz⟩ := World.cells?_some (hQ 0 h0).2
      have qz := hatz 0 hk0
      rw [List.getElem?_eq_getElem (by rw [hk]; exact hk0)] at qz
      obtain ⟨sb, so, spot⟩ := a
      have hspot : spot = none := by simpa [Addr.add] using World.cell?_spot qz
      subst hspot
      have hlt : sb < W.heap.size := by simpa [Addr.add] using cell_lt qz
      refine ⟨sb, so, rfl, hlt, fun j u hj => ?_⟩
      have hjl : j < len * k := by
        have := (List.getElem?_eq_some_iff.1 hj).1
        rw [flat_len hk] at this
        simpa using this
      have hi : j / k < len := Nat.div_lt_of_lt_mul (by rw [Nat.mul_comm]; exact hjl)
      have hm : j % k < k := Nat.mod_lt _ hk0
      have hjj : j / k * k + j % k = j := by rw [Nat.mul_comm]; exact Nat.div_add_mod j k
      have hfa := flat_at hk ((List.range len).map Q) (j / k) (j % k) (by simpa using hi) hm
      rw [hjj, hj] at hfa
      simp only [List.getElem_map, List.getElem_range] at hfa
      obtain ⟨_, _, hat⟩ := World.cells?_some (hQ (j / k) hi).2
      have hc := hat (j % k) hm
      rw [add_plain, add_plain, Nat.add_assoc, hjj] at hc
      rw [hc]
      exact hfa.symm
  · obtain ⟨i, hi', rfl⟩ := List.mem_map.1 hr
    exact (hQ i (List.mem_range.1 hi')).1
section
variable {H : Type} {enc : TypeId × Value → H} {W : World}
theorem rrs_cell {fuel : Nat} {c : Value} {x : DataW H × List MemPlace} (hf : DataW.trod enc Try.prog W 0 (fun _ => true) true fuel 36 [c] = some x) (hw : ∀ n ∈ x.1.weights Try.prog 36, n ≤ reachBytes) : ∃ A cap l, c = .slice A l.length cap ∧ Sl rf W A cap l ∧ l.length ≤ 3518437208883 := by
  rcases open_slice Try.underlying36 hf with ⟨hcs, hx⟩ | ⟨a, len, cap, m, n, D, Pl, hcs, _, hl, hm, hmm, hx, hi⟩
  · simp at hcs
    subst hcs
    exact ⟨none, 0, [], rfl, Sl.nil _ _, by simp⟩
  · simp at hcs
    subst hcs
    simp only [if_true] at hmm
    rw [cell_R] at hi
    obtain ⟨l, h1, h2, h3⟩ := sl_of (f := rf) (G := Rc.Ok) rf_len (by decide) hl (fun i hil => by
      obtain ⟨cs', g1, g2⟩ := hi i (by omega)
      obtain ⟨r, rfl, g4⟩ := rr_cells g2
      exact ⟨r, g4, g1⟩)
    refine ⟨some a, cap, l, by rw [h1], h2, ?_⟩
    have := hw ((((List.range len).map D).length + ((List.range (m - len)).map fun j => D (len + j)).length) * Try.prog.bytesOf 89) (by rw [hx]; simp only [DataW.weights, Try.underlying36]; exact List.mem_cons_self ..)
    rw [byteR] at this
    simp only [List.length_map, List.length_range] at this
    have := reachBytes_lt
    omega
set_option maxRecDepth 100000 in
theorem entry_read {fuel : Nat} {cs : List Value} {x : DataW H × List MemPlace} (h : DataW.trod enc Try.prog W 0 (fun _ => true) true fuel 39 cs = some x) (hw : ∀ n ∈ x.1.weights Try.prog 39, n ≤ reachBytes) : ∃ e : Ev, cs = evL e ∧ Arg W e := by
  obtain ⟨xs, n, _, hxe, hlen, hxl, hfs⟩ := DataW.trod_struct Try.underlying39 h
  rw [cell_E] at hlen
  have hxl' : xs.length = 5 := hxl
  have h0 : DataW.trod enc Try.prog W 0 (fun _ => true) true n 35 ((cs.drop 0).take (Try.prog.cellsOf 35)) = xs[0]? := hfs 0 _ rfl
  have h1 : DataW.trod enc Try.prog W 0 (fun _ => true) true n 36 ((cs.drop 3).take (Try.prog.cellsOf 36)) = xs[1]? := hfs 1 _ rfl
  have h2 : DataW.trod enc Try.prog W 0 (fun _ => true) true n 3 ((cs.drop 4).take (Try.prog.cellsOf 3)) = xs[2]? := hfs 2 _ rfl
  have h3 : DataW.trod enc Try.prog W 0 (fun _ => true) true n 3 ((cs.drop 5).take (Try.prog.cellsOf 3)) = xs[3]? := hfs 3 _ rfl
  have h4 : DataW.trod enc Try.prog W 0 (fun _ => true) true n 37 ((cs.drop 6).take (Try.prog.cellsOf 37)) = xs[4]? := hfs 4 _ rfl
  rw [List.getElem?_eq_getElem (by omega), cellsQ] at h0
  rw [List.getElem?_eq_getElem (by omega), cell_Rs] at h1
  rw [List.getElem?_eq_getElem (by omega), cell_int] at h2 h3
  rw [List.getElem?_eq_getElem (by omega), cell_u64] at h4
  match cs, hlen with
  | [v0, v1, v2, v3, v4, v5, v6], _ =>
    obtain ⟨q, hq, hqf⟩ := q_read h0
    simp only [List.drop_zero, List.take_succ_cons, List.take_zero, qf, List.cons.injEq, and_true] at hq
    obtain ⟨rfl, rfl, rfl⟩ := hq
    obtain ⟨A, cap, l, e1, hsl, hll⟩ := rrs_cell h1 (fun n hn => hw n (by
      rw [hxe]
      simp only [DataW.weights, Try.underlying39]
      exact DataW.weights_mem_each (j := 1) (t := 36) rfl (by rw [List.getElem?_map, List.getElem?_eq_getElem (by omega)]; rfl) n hn))
    obtain ⟨a4, e4, _, s4⟩ := DataW.trod_int Try.underlying3 h2
    obtain ⟨a5, e5, _, s5⟩ := DataW.trod_int Try.underlying3 h3
    obtain ⟨a6, e6, _, s6⟩ := DataW.trod_int Try.underlying37 h4
    obtain ⟨ex, rfl, hex⟩ := nat_u64 s6
    simp at e4 e5 e6
    exact ⟨⟨⟨q, l, a4, a5, ex⟩, A, cap⟩, by rw [e1, e4, e5, e6]; rfl, ⟨hsl, hqf, hex, hll⟩⟩
set_option maxRecDepth 100000 in
theorem deed_read {fuel : Nat} {cs : List Value} {x : DataW H × List MemPlace} (h : DataW.trod enc Try.prog W 0 (fun _ => true) true fuel 41 cs = some x) (hw : ∀ n ∈ x.1.weights Try.prog 41, n ≤ reachBytes) : ∃ d : Dd, cs = df d ∧ ArgD W d := by
  obtain ⟨xs, n, _, hxe, hlen, hxl, hfs⟩ := DataW.trod_struct Try.underlying41 h
  rw [cell_D] at hlen
  have hxl' : xs.length = 3 := hxl
  have h0 : DataW.trod enc Try.prog W 0 (fun _ => true) true n 3 ((cs.drop 0).take (Try.prog.cellsOf 3)) = xs[0]? := hfs 0 _ rfl
  have h1 : DataW.trod enc Try.prog W 0 (fun _ => true) true n 39 ((cs.drop 1).take (Try.prog.cellsOf 39)) = xs[1]? := hfs 1 _ rfl
  have h2 : DataW.trod enc Try.prog W 0 (fun _ => true) true n 37 ((cs.drop 8).take (Try.prog.cellsOf 37)) = xs[2]? := hfs 2 _ rfl
  rw [List.getElem?_eq_getElem (by omega), cell_int] at h0
  rw [List.getElem?_eq_getElem (by omega), cell_E] at h1
  rw [List.getElem?_eq_getElem (by omega), cell_u64] at h2
  match cs, hlen with
  | [v0, v1, v2, v3, v4, v5, v6, v7, v8], _ =>
    obtain ⟨a0, e0, _, s0⟩ := DataW.trod_int Try.underlying3 h0
    obtain ⟨e, he, ha⟩ := entry_read h1 (fun n hn => hw n (by
      rw [hxe]
      simp only [DataW.weights, Try.underlying41]
      exact DataW.weights_mem_each (j := 1) (t := 39) rfl (by rw [List.getElem?_map, List.getElem?_eq_getElem (by omega)]; rfl) n hn))
    obtain ⟨a8, e8, _, s8⟩ := DataW.trod_int Try.underlying37 h2
    obtain ⟨now, rfl, hnow⟩ := nat_u64 s8
    simp only [List.drop_succ_cons, List.drop_zero, List.take_succ_cons, List.take_zero] at he
    simp at e0 e8
    refine ⟨⟨a0, e, now⟩, ?_, ⟨ha, hnow⟩⟩
    unfold df
    simp only
    rw [← he, e0, e8]
    rfl
theorem deeds_cell {fuel : Nat} {c : Value} {x : DataW H × List MemPlace} (hf : DataW.trod enc Try.prog W 0 (fun _ => true) true fuel 22 [c] = some x) (hw : ∀ n ∈ x.1.weights Try.prog 22, n ≤ reachBytes) : ∃ A cap l, c = .slice A l.length cap ∧ Sl df W A cap l ∧ ∀ d ∈ l, ArgD W d := by
  rcases open_slice Try.underlying22 hf with ⟨hcs, hx⟩ | ⟨a, len, cap, m, n, D, Pl, hcs, _, hl, hm, hmm, hx, hi⟩
  · simp at hcs
    subst hcs
    exact ⟨none, 0, [], rfl, Sl.nil _ _, fun d hd => by cases hd⟩
  · simp at hcs
    subst hcs
    simp only [if_true] at hmm
    rw [cell_D] at hi
    have hall : ∀ (ds : List (DataW H)) (d : DataW H), d ∈ ds → ∀ n ∈ d.weights Try.prog 41, n ∈ DataW.weightsAll Try.prog 41 ds := by
      intro ds
      induction ds with
      | nil => intro d hd; cases hd
      | cons a ds ih =>
        intro d hd n hn
        simp only [DataW.weightsAll, List.mem_append]
        rcases List.mem_cons.1 hd with rfl | hd
        · exact .inl hn
        · exact .inr (ih d hd n hn)
    obtain ⟨l, h1, h2, h3⟩ := sl_of (f := df) (G := ArgD W) df_len (by decide) hl (fun i hil => by
      obtain ⟨cs', g1, g2⟩ := hi i (by omega)
      obtain ⟨d, rfl, g4⟩ := deed_read g2 (fun n hn => hw n (by
        rw [hx]
        simp only [DataW.weights, Try.underlying22]
        refine List.mem_cons_of_mem _ (List.mem_append.2 (.inl (hall _ (D i) (List.mem_map.2 ⟨i, List.mem_range.2 hil, rfl⟩) n hn)))))
      exact ⟨d, g4, g1⟩)
    exact ⟨some a, cap, l, by rw [h1], h2, h3⟩
end
section
variable {H : Type} {enc : TypeId × Value → H} {W : World} {base : Nat} {v : Value} {d : DataW H} {ps : List MemPlace}
set_option maxRecDepth 100000 in
theorem open_ent (hok : Value.okWide Try.prog W .any base 39 v) (h : DataW.Trod enc Try.prog W 0 (fun _ => true) true 39 v d ps) (hw : ∀ n ∈ d.weights Try.prog 39, n ≤ reachBytes) : ∃ x : Ev, v = evV x ∧ Arg W x := by
  obtain ⟨cs, rfl, hsz⟩ := okWide_struct Try.underlying39 hok
  obtain ⟨fuel, hf⟩ := h
  obtain ⟨e, he, ha⟩ := entry_read hf hw
  refine ⟨e, ?_, ha⟩
  unfold evV
  rw [← he]
  rfl
set_option maxRecDepth 100000 in
theorem open_deed (hok : Value.okWide Try.prog W .any base 41 v) (h : DataW.Trod enc Try.prog W 0 (fun _ => true) true 41 v d ps) (hw : ∀ n ∈ d.weights Try.prog 41, n ≤ reachBytes) : ∃ x : Dd, v = .agg (df x).toArray ∧ ArgD W x := by
  obtain ⟨cs, rfl, hsz⟩ := okWide_struct Try.underlying41 hok
  obtain ⟨fuel, hf⟩ := h
  obtain ⟨e, he, ha⟩ := deed_read hf hw
  refine ⟨e, ?_, ha⟩
  rw [← he]
  rfl
set_option maxRecDepth 100000 in
theorem open_deeds (hok : Value.okWide Try.prog W .any base 22 v) (h : DataW.Trod enc Try.prog W 0 (fun _ => true) true 22 v d ps) (hw : ∀ n ∈ d.weights Try.prog 22, n ≤ reachBytes) : ∃ A cap l, v = .slice A l.length cap ∧ Sl df W A cap l ∧ ∀ d ∈ l, ArgD W d := by
  obtain ⟨a0, len, cap, rfl⟩ := okWide_slice Try.underlying22 hok
  obtain ⟨fuel, hf⟩ := h
  exact deeds_cell hf hw
set_option maxRecDepth 100000 in
theorem open_qq (hok : Value.okWide Try.prog W .any base 35 v) (h : DataW.Trod enc Try.prog W 0 (fun _ => true) true 35 v d ps) (hw : ∀ n ∈ d.weights Try.prog 35, n ≤ reachBytes) : ∃ q : Qu, v = qV q ∧ q.Fine := by
  obtain ⟨cs, rfl, hsz⟩ := okWide_struct Try.underlying35 hok
  obtain ⟨fuel, hf⟩ := h
  obtain ⟨q, he, hq⟩ := q_read hf
  refine ⟨q, ?_, hq⟩
  have e1 : cs.toList = qf q := he
  obtain ⟨L⟩ := cs
  simp only at e1
  subst e1
  rfl
end
/-- What a law's argument weighs. -/
theorem weigh {H : Type} {P : Program} {ts : List TypeId} {ds : List (DataW H)} (h : (DataW.weightsEach P ts ds).all (· ≤ reachBytes) = true) {j : Nat} {t : TypeId} {d : DataW H} (ht : ts[j]? = some t) (hd : ds[j]? = some d) : ∀ n ∈ d.weights P t, n ≤ reachBytes := fun n hn => by
  have := List.all_eq_true.1 h _ (DataW.weights_mem_each ht hd n hn)
  simpa using this
end Go.Proofs.Ytjjanogfcfapcaa
