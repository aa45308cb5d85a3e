/- The contract of rdata.split: the pieces of an encoding. -/
import Derived.Test.YtlphbeaaeeohjaaDoorRrd
import Derived.Test.YtlphbeaaeeohjaaDoorLpt
import Derived.Maps.AppendAt
namespace Go.Proofs.YtlphbeaaeeohjaaDoor
open Go.RowKit
set_option linter.unusedVariables false

/-- One part, or nothing. -/
def rdP (s : ByteArray) (p e : Nat) (q : Int) : Option ((ByteArray × Bool) × Nat) := if rdE s p e q = 0 then some ((rdB s p e q, rdN q), (rdX s p e q).toNat) else none
/-- Parts, one behind the other, and where they end. -/
def spl3 (s : ByteArray) (e : Nat) : Nat → List Int → Option (List (ByteArray × Bool) × Nat)
  | p, [] => some ([], p)
  | p, q :: qs => match rdP s p e q with
    | some r => (spl3 s e r.2 qs).map fun x => (r.1 :: x.1, x.2)
    | none => none
def lays (k : Nat) : List Int := [(lay k).1, (lay k).2.1, (lay k).2.2]
/-- The pieces of an encoding that ends at e. -/
def spl (s : ByteArray) (p e k : Nat) : Option (List (ByteArray × Bool)) :=
  if p + 65535 < e then none else match spl3 s e p (lays k) with
    | some r => if r.2 = e then some r.1 else none
    | none => none
theorem lay_ge (k : Nat) : -3 ≤ (lay k).1 ∧ -3 ≤ (lay k).2.1 ∧ -3 ≤ (lay k).2.2 := by
  unfold lay
  split
  · decide
  · split
    · decide
    · split
      · decide
      · split
        · decide
        · split
          · decide
          · split <;> decide
theorem rd_cases (s : ByteArray) (p e : Nat) (q : Int) : rdE s p e q = 2 ∨ (rdE s p e q = 0 ∧ ∃ n : Nat, rdX s p e q = n ∧ n ≤ s.size) := by
  unfold rdE rdX
  by_cases h1 : q = -1
  · rw [if_pos h1, if_pos h1]
    rcases tk_cases s p with ⟨h, _⟩ | ⟨h, _, _, h2⟩
    · left; rw [h]; rfl
    · right; exact ⟨by rw [h]; rfl, _, rfl, h2⟩
  · rw [if_neg h1, if_neg h1]
    by_cases h2 : q = -2
    · rw [if_pos h2, if_pos h2]
      cases hg : txG s p e with
      | none => left; rw [(rs_none hg).2.2]; rfl
      | some n => right; rw [(rs_some hg).2.2, (rs_some hg).2.1]; exact ⟨rfl, n, rfl, (txG_lt _ p (Nat.le_refl _) n hg).2.1⟩
    · rw [if_neg h2, if_neg h2]
      unfold Oc.se Oc.so
      by_cases h : Oc.okS s p (rdM p e q)
      · right
        rw [if_pos h, if_pos h]
        unfold Oc.okS at h
        exact ⟨rfl, ((p : Int) + rdM p e q).toNat, by omega, by omega⟩
      · left; rw [if_neg h]

/-- The cells of pieces. -/
def pcCells (L : List (ByteArray × Bool)) : List Value := L.flatMap fun p => [.string p.1, .bool p.2]
theorem pcCells_len (L : List (ByteArray × Bool)) : (pcCells L).length = L.length * 2 := by
  induction L with
  | nil => rfl
  | cons a r ih => simp only [pcCells, List.flatMap_cons, List.length_append, List.length_cons, List.length_nil] at *; omega
theorem pcCells_at : ∀ (L : List (ByteArray × Bool)) (j : Nat) (h : j < L.length), (pcCells L)[j * 2]? = some (.string L[j].1) ∧ (pcCells L)[j * 2 + 1]? = some (.bool L[j].2)
  | [], j, h => by cases h
  | p :: r, 0, h => ⟨rfl, rfl⟩
  | p :: r, j + 1, h => by
    have := pcCells_at r j (by simpa using h)
    have e : pcCells (p :: r) = .string p.1 :: .bool p.2 :: pcCells r := rfl
    rw [e, show (j + 1) * 2 = j * 2 + 2 by omega, show j * 2 + 2 + 1 = j * 2 + 1 + 2 by omega]
    simpa using this
theorem pcCells_snoc (L : List (ByteArray × Bool)) (x : ByteArray × Bool) : pcCells (L ++ [x]) = pcCells L ++ [.string x.1, .bool x.2] := by simp [pcCells]
/-- A slice of pieces that the call made. -/
def Pcs (B : Nat) (v : Value) (L : List (ByteArray × Bool)) (w : World) : Prop := w.ownsRow B 120 2 v L.length (pcCells L)
theorem Pcs.form {B : Nat} {v : Value} {L : List (ByteArray × Bool)} {w : World} (h : Pcs B v L w) : ∃ A cap, v = .slice A L.length cap := by
  rcases h.2 with ⟨rfl, h0⟩ | ⟨g, cap, cur, rfl, _⟩
  · exact ⟨none, 0, by rw [h0]⟩
  · exact ⟨_, _, rfl⟩
theorem Pcs.ge {B : Nat} {v : Value} {L : List (ByteArray × Bool)} {w : World} (h : Pcs B v L w) : ∀ g, v.ownBlock = some g → B ≤ g := by
  intro g hg
  rcases h.2 with ⟨rfl, _⟩ | ⟨g', cap, cur, rfl, hb, hgg, _⟩
  · cases hg
  · cases hg
    exact hb
theorem Pcs.below {B : Nat} {v : Value} {L : List (ByteArray × Bool)} {w w' : World} (h : Pcs B v L w) (hb : Below w.heap.size w w') : Pcs B v L w' :=
  World.ownsRow.kept (row := none) h ⟨hb.os, hb.tape, hb.output, hb.size, fun k hk _ => hb.block k hk⟩ (by cases v.ownBlock <;> simp)
theorem Pcs.parts {B : Nat} {A : Option Addr} {n cap : Nat} {L : List (ByteArray × Bool)} {w : World} (h : Pcs B (.slice A n cap) L w) : Parts w A L := by
  intro j hj
  have h' := h
  rcases h.2 with ⟨hv, h0⟩ | ⟨g, cap', cur, hv, hb, hgg, _⟩
  · omega
  · cases hv
    obtain ⟨h1, h2⟩ := pcCells_at L j hj
    have hc : ∀ i u, (pcCells L)[i]? = some u → w.cell? ⟨g, i, none⟩ = some u := fun i u hu => by
      have := World.ownsRow.cells h' (g := g) rfl i u hu
      unfold Addr.add at this
      split at this
      · rename_i h0; subst h0; exact this
      · simpa using this
    refine ⟨g, 0, rfl, (Array.getElem?_eq_some_iff.1 hgg).1, ?_, ?_⟩
    · rw [Nat.zero_add]; exact hc _ _ h1
    · rw [Nat.zero_add]; exact hc _ _ h2
theorem infoPc : (Tryd.prog.info? 120).map (fun i => (i.zero, i.size, i.bytes)) = some (some (.agg #[.string ⟨#[]⟩, .bool false]), 2, 24) := by kernel_rfl
theorem lay3_index (a b c : Int) : ∀ (i : Nat) (hi : i < [a, b, c].length) (w : World), (Instr.index 143 (.agg #[.int .i64 a, .int .i64 b, .int .i64 c]) (.int .i64 (i : Nat))).run Tryd.prog w = .ok (.int .i64 ([a, b, c][i])) w
  | 0, _, w => by kernel_rfl
  | 1, _, w => by kernel_rfl
  | 2, _, w => by kernel_rfl
theorem spl3_step {s : ByteArray} {e n : Nat} {qs : List Int} {i : Nat} (hi : i < qs.length) {ps : List (ByteArray × Bool)} {R : Option (List (ByteArray × Bool) × Nat)} (h : R = (spl3 s e n (qs.drop i)).map fun r => (ps ++ r.1, r.2)) :
    (rdP s n e qs[i] = none → R = none) ∧ ∀ r, rdP s n e qs[i] = some r → R = (spl3 s e r.2 (qs.drop (i + 1))).map fun x => ((ps ++ [r.1]) ++ x.1, x.2) := by
  rw [List.drop_eq_getElem_cons hi, spl3] at h
  refine ⟨fun h1 => by rw [h, h1]; rfl, fun r h1 => ?_⟩
  rw [h, h1]
  simp only [Option.map_map]
  congr 1
  funext x
  simp
theorem two_new' (w : World) (a b : Value) (t : TypeId) : ∀ j u, [a, b][j]? = some u → (w.alloc (.cells #[a, b] t)).cell? ((⟨w.heap.size, 0, none⟩ : Addr).add j) = some u := by
  intro j u h
  have hh : (w.alloc (.cells #[a, b] t)).heap[w.heap.size]? = some (.cells #[a, b] t (0, 0)) := World.alloc_heap_new w _
  have hadd : (⟨w.heap.size, 0, none⟩ : Addr).add j = ⟨w.heap.size, j, none⟩ := by unfold Addr.add; split <;> simp_all
  rw [hadd, cell_of_row _ _ _ _ _ _ hh]
  simpa using h
theorem two_new2 (w : World) (o : Obj) (a b : Value) (t : TypeId) : ∀ j u, [a, b][j]? = some u → ((w.alloc o).alloc (.cells #[a, b] t)).cell? ((⟨w.heap.size + 1, 0, none⟩ : Addr).add j) = some u := by
  have h := two_new' (w.alloc o) a b t
  rw [show (w.alloc o).heap.size = w.heap.size + 1 by simp] at h
  exact h
/-- What rdata.split hands back. -/
def SplPost (s : ByteArray) (p e k : Nat) (w : World) (en : Ending) (w' : World) : Prop :=
  (∃ v, en = .returned (.tuple #[v, .bool (spl s p e k).isSome]) ∧ ∀ l, spl s p e k = some l → Pcs w.heap.size v l w') ∧ Below w.heap.size w w'

set_option maxRecDepth 100000 in
set_option maxHeartbeats 1000000 in
theorem split_any (s : ByteArray) (p e k : Nat) (hs : s.size ≤ 140737488355328) (hp : p ≤ s.size) (he : e ≤ s.size) (hk : k < 65536) (w : World) (hL : Lay w) :
    Calls Tryd.prog 80 #[.string s, .int .i64 (p : Nat), .int .i64 (e : Nat), .int .u16 (k : Nat)] w fun en w' => SplPost s p e k w en w' := by
  have HL := Lib.hid hL
  clear hL
  by_cases hbig : p + 65535 < e
  · have hn : spl s p e k = none := by unfold spl; rw [if_pos hbig]
    have HN := Lib.hid hn
    have b0 : decide ((65535 : Int) < (e : Int) - (p : Int)) = true := by simp; omega
    clear hn
    go_enter Tryd.func80, Tryd.ntmps80
    go_wp2_with fail
    go_ret2
    exact ⟨⟨_, by rw [HN.out]; rfl, fun l h => by rw [HN.out] at h; cases h⟩, Below.refl _ _⟩
  · have hspl : spl s p e k = match spl3 s e p (lays k) with | some r => if r.2 = e then some r.1 else none | none => none := by unfold spl; rw [if_neg hbig]
    have HSpl := Lib.hid hspl
    have b0 : decide ((65535 : Int) < (e : Int) - (p : Int)) = false := by simp; omega
    clear hspl hbig
    go_enter Tryd.func80, Tryd.ntmps80
    go_wp2_with fail
    refine (parts_any k hk _ HL.out).mono ?_
    rintro en w1 ⟨rfl, hb1⟩
    have hg := lay_ge k
    have hq : ∀ i (hi : i < (lays k).length), -3 ≤ (lays k)[i] := by
      intro i hi
      have : i < 3 := hi
      rcases (by omega : i = 0 ∨ i = 1 ∨ i = 2) with h | h | h <;> (subst h; simp only [lays]; first | exact hg.1 | exact hg.2.1 | exact hg.2.2)
    have hIx := lay3_index (lay k).1 (lay k).2.1 (lay k).2.2
    change ∀ (i : Nat) (hi : i < (lays k).length) (w : World), (Instr.index 143 (.agg #[.int .i64 (lay k).1, .int .i64 (lay k).2.1, .int .i64 (lay k).2.2]) (.int .i64 (i : Nat))).run Tryd.prog w = .ok (.int .i64 ((lays k)[i])) w at hIx
    have hlen : (lays k).length = 3 := rfl
    generalize #[Value.int IntKind.i64 (lay k).1, .int .i64 (lay k).2.1, .int .i64 (lay k).2.2] = C at hIx ⊢
    generalize lays k = qs at *
    have HX := Lib.hid hIx
    have HQ := Lib.hid hq
    have HLen := Lib.hid hlen
    clear hIx hq hlen hg hk
    go_wp2_with fail
    go_loopw [1, 10, 22] (fun at_ l i wr => ∃ (j n : Nat) (ps : List (ByteArray × Bool)), j ≤ 3 ∧ i = .int .i64 j ∧ at_ = .int .i64 n ∧ n ≤ s.size ∧ ps.length = j ∧ spl3 s e p qs = ((spl3 s e n (qs.drop j)).map fun r => (ps ++ r.1, r.2)) ∧ Pcs w.heap.size l ps wr ∧ Below w.heap.size w wr) (fun _ _ i _ => 3 - (intOf i).toNat)
    case atStart => exact ⟨0, p, [], Nat.zero_le _, rfl, rfl, hp, rfl, by simp, World.ownsRow_nil _ _ _ _, hb1⟩
    case round =>
      obtain ⟨j, n, ps, hj, rfl, rfl, hn, hpl, hR, hP, hbel⟩ := hrel
      subst hpl
      obtain ⟨A, cap, rfl⟩ := hP.form
      by_cases hlt : ps.length < 3
      · have hj3 : ps.length < qs.length := by rw [HLen.out]; exact hlt
        have hix := HX.out ps.length hj3
        have hq := HQ.out ps.length hj3
        have hst := spl3_step hj3 hR
        generalize qs[ps.length] = q at *
        have HSt := Lib.hid hst
        have HP := Lib.hid hP
        clear hst hP hR hj3
        go_wp2_with fail
        refine (read_any s n e q hs (by omega) (by omega) hq _).mono ?_
        rintro en w2 ⟨rfl, hb2⟩
        have HP2 := Lib.hid (HP.out.below hb2)
        have HB2 := Lib.hid (bthen hbel hb2)
        clear hix hq hbel hb2
        rcases rd_cases s n e q with hE | ⟨hE, n', hX, hn'⟩
        · have hnone : rdP s n e q = none := by unfold rdP; rw [hE, if_neg (by decide)]
          have hsn : spl s p e k = none := by rw [HSpl.out, HSt.out.1 hnone]
          have HN := Lib.hid hsn
          rw [hE]
          clear hnone hsn hE
          generalize rdX s n e q = X
          generalize rdB s n e q = Bb
          generalize rdN q = Nn
          go_wp2_with fail
          go_ret2
          exact ⟨⟨_, by rw [HN.out]; rfl, fun l h => by rw [HN.out] at h; cases h⟩, balloc HB2.out _⟩
        · have hsome : rdP s n e q = some ((rdB s n e q, rdN q), n') := by unfold rdP; rw [hE, if_pos rfl, hX]; rfl
          have hnext := HSt.out.2 _ hsome
          rw [hE, hX]
          clear hsome hE hX
          simp only at hnext
          generalize rdB s n e q = Bb at *
          generalize rdN q = Nn at *
          have HNx := Lib.hid hnext
          clear hnext
          obtain ⟨i0, hi, hz0, hz1, hz2⟩ := info_parts infoPc
          have hsz2 := HB2.out.size
          have HO := Lib.hid (fun o o' => World.ownsRow.alloc (World.ownsRow.alloc HP2.out o) o')
          go_wp2_with (at_builtin; refine wpList_append_own _ rfl _ _ 104 rfl w.heap.size 120 i0 _ 2 24 Tryd.underlying104 hi hz0 hz1 hz2 rfl (by decide) (.slice A ps.length cap) _ _ rfl (HO.out _ _) ⟨w2.heap.size + 1, 0, none⟩ 1 1 [.string Bb, .bool Nn] rfl rfl (two_new2 _ _ _ _ _) (by simp [Value.oneCell']) (by unfold maxLen; omega) (by omega) (by simp; omega) ?_; intro u' w4 hown' hgrow _)
          have hP4 : Pcs w.heap.size u' (ps ++ [(Bb, Nn)]) w4 := by unfold Pcs; rw [pcCells_snoc, List.length_append]; exact hown'
          have HP4 := Lib.hid hP4
          have HB4 := Lib.hid ((balloc (balloc HB2.out _) _).grown hgrow (by simp; omega) HP2.out.ge)
          clear hP4 hown' hgrow HO HP2 HB2
          go_wp2_with fail
          go_roundw
          case rel => exact ⟨ps.length + 1, n', ps ++ [(Bb, Nn)], hlt, by go_num, rfl, hn', by simp, HNx.out, HP4.out, HB4.out⟩
          case measure => simp [intOf]; omega
      · have h3 : ps.length = 3 := by omega
        have hfin : spl s p e k = if n = e then some ps else none := by
          rw [HSpl.out, hR, List.drop_of_length_le (by rw [HLen.out]; omega), spl3]
          simp
        have HF := Lib.hid hfin
        have HP := Lib.hid hP
        clear hR hP
        by_cases hne : n = e
        · subst hne
          have hs2 : spl s p n k = some ps := by rw [HF.out, if_pos rfl]
          have HS2 := Lib.hid hs2
          clear hs2 hfin
          go_wp2_with fail
          go_ret2
          exact ⟨⟨_, by rw [HS2.out]; rfl, fun l h => by rw [HS2.out] at h; cases h; have h2 := HP.out; rw [h3] at h2; exact h2⟩, hbel⟩
        · have hs2 : spl s p e k = none := by rw [HF.out, if_neg hne]
          have HS2 := Lib.hid hs2
          have hb : ((n : Int) == (e : Int)) = false := by simp; omega
          clear hs2 hfin
          go_wp2_with fail
          go_ret2
          exact ⟨⟨_, by rw [HS2.out]; rfl, fun l h => by rw [HS2.out] at h; cases h⟩, hbel⟩
end Go.Proofs.YtlphbeaaeeohjaaDoor
