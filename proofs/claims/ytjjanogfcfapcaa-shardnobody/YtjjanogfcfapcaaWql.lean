/- slices.SortFunc by a wheel's order, over pdqsort's contract: what Due asks of it. -/
import Derived.Test.YtjjanogfcfapcaaWqs
import Derived.Test.YtjjanogfcfapcaaWqk
namespace Go.Proofs.Ytjjanogfcfapcaa.W
open Go.RowKit Go.Shelf Go.Sort
open Go.Proofs (SW Row1 ltOf)
set_option linter.unusedVariables false
def PdqAll : Prop := ∀ (cf : Ik → Ik → Int) (g blk off n : Nat) (w0 : World) (d0 : Array Ik), CmpB cf g blk off n w0 → Row1 eK w0 blk off d0 → d0.size = n → n ≤ 100000 → SWO (ltOf cf) → ∀ (cap limit : Nat) (d : Array Ik) (w : World), d.size = n → SW eK w0 blk off d w → limit ≤ 100000 →
  Calls Try.prog 65 #[.slice (some ⟨blk, off, none⟩) n cap, .int .i64 0, .int .i64 (n : Nat), .int .i64 (limit : Nat), fvB g] w fun e w' => e = .returned (.tuple #[]) ∧ SW eK w0 blk off (pdq (ltOf cf) d 0 n limit true true) w'
set_option maxHeartbeats 1000000 in
theorem sortfunc_s (HP : PdqAll) (cf : Ik → Ik → Int) (g blk off n : Nat) (w : World) (d : Array Ik) (HC : CmpB cf g blk off n w) (R : Row1 eK w blk off d) (hs : d.size = n) (hn : n ≤ 100000) (hO : SWO (ltOf cf)) (cap : Nat) :
    Calls Try.prog 58 #[.slice (some ⟨blk, off, none⟩) n cap, fvB g] w fun e w' => e = .returned (.tuple #[]) ∧ SW eK w blk off (pdq (ltOf cf) d 0 n (Lib.bitLen n) true true) w' := by
  have hlim : Lib.bitLen n ≤ 62 := Lib.bitLen_le n 62 (by omega) (by omega)
  have HL := Lib.hid (bits_len n (by omega) w)
  have HQ := Lib.hid (HP cf g blk off n w d HC R hs hn hO cap (Lib.bitLen n) d w hs (SW.start R.hH) (by omega))
  have d2 : IntKind.u64.wrap (n : Int) = (n : Nat) := by rw [IntKind.wrap_u64]; omega
  generalize pdq (ltOf cf) d 0 n (Lib.bitLen n) true true = d' at *
  generalize Lib.bitLen n = bl at *
  clear HC R hO hs
  go_enter Try.func58, Try.ntmps58
  go_wp2_with (first
    | (go_at_call 66; with_reducible (refine HL.out.mono ?_); rintro e w' ⟨rfl, rfl⟩)
    | (go_at_call 65; with_reducible (refine HQ.out.mono ?_); rintro e w2 ⟨rfl, hq⟩)
    | fail)
  go_end0
  exact ⟨rfl, hq⟩
/-- The order is the pairs'. -/
theorem cfW_lt (l : List Ti) (x y : Ik) : ltOf (cfW l) x y = decide (ltT (tiOf l x.1) (tiOf l y.1)) := by
  unfold ltOf cfW ltT tiOf orZ cmpZ
  simp only
  generalize (look l x.1).getD 0 = a
  generalize (look l y.1).getD 0 = b
  apply decide_eq_decide.2
  by_cases h1 : a < b
  · simp [show ((a : Nat) : Int) < (b : Nat) by omega, h1]
  · by_cases h2 : b < a
    · have e1 : ¬ ((a : Nat) : Int) < (b : Nat) := by omega
      have e2 : ((b : Nat) : Int) < (a : Nat) := by omega
      simp only [if_neg e1, if_pos e2]
      constructor
      · intro h; omega
      · intro h; omega
    · have e1 : ¬ ((a : Nat) : Int) < (b : Nat) := by omega
      have e2 : ¬ ((b : Nat) : Int) < (a : Nat) := by omega
      simp only [if_neg e1, if_neg e2]
      constructor
      · intro h
        right
        refine ⟨by omega, ?_⟩
        by_cases h3 : x.1 < y.1
        · exact h3
        · by_cases h4 : y.1 < x.1 <;> simp [h3, h4] at h
      · intro h
        rcases h with h | ⟨_, h⟩
        · omega
        · simp [h]
theorem cfW_swo (l : List Ti) : SWO (ltOf (cfW l)) where
  irrefl x := by rw [cfW_lt]; exact decide_eq_false (ltT_irrefl _)
  trans x y z h1 h2 := by rw [cfW_lt] at *; exact decide_eq_true (ltT_trans (of_decide_eq_true h1) (of_decide_eq_true h2))
  ntrans x y z h1 h2 := by
    rw [cfW_lt] at *
    have a1 := of_decide_eq_false h1
    have a2 := of_decide_eq_false h2
    refine decide_eq_false fun h => ?_
    rcases ltT_tri (tiOf l x.1) (tiOf l y.1) with c | c | c
    · exact a1 c
    · rw [c] at h; exact a2 h
    · exact a2 (ltT_trans c h)
theorem sw_grown {w0 W : World} {blk off : Nat} {d : Array Ik} (S : SW eK w0 blk off d W) : w0.grownBy W (some blk) := by
  obtain ⟨m, os, rfl⟩ := S
  refine ⟨rfl, rfl, rfl, by unfold sortWorld; simp, fun k hk hne => ?_⟩
  unfold sortWorld
  rw [heap_grow_old _ _ (by simpa using hk)]
  have : blk ≠ k := fun e => hne (by rw [e])
  simp [putRow, mapBlock, Sort.ahead, Array.getElem?_modify, this]
theorem sw_heap {w0 W : World} {blk : Nat} {d : Array Ik} (S : SW eK w0 blk 0 d W) {cur : Array Value} {e : TypeId} {fr : Nat × Nat} (hb : w0.heap[blk]? = some (.cells cur e fr)) : W.heap[blk]? = some (.cells (putCells eK 0 d cur) e fr) := by
  obtain ⟨m, os, rfl⟩ := S
  have hg : blk < w0.heap.size := (Array.getElem?_eq_some_iff.1 hb).1
  unfold sortWorld
  rw [heap_grow_old _ _ (by simpa using hg)]
  simp [putRow, mapBlock, Sort.ahead, Array.getElem?_modify, hb, onCells]
theorem take_putK (cur : Array Value) (d : Array Ik) (h : d.size ≤ cur.size) : (putCells eK 0 d cur).toList.take d.size = d.toList.map eK := by
  apply List.ext_getElem?
  intro j
  by_cases hj : j < d.size
  · rw [List.getElem?_take_of_lt hj, Array.getElem?_toList]
    simp [putCells, hj, show j < cur.size by omega]
  · rw [List.getElem?_take_eq_none (by omega), List.getElem?_eq_none (by simp; omega)]
theorem holdsK {w : World} {g : Nat} {cur : Array Value} {e : TypeId} {d : Array Ik} (hb : w.heap[g]? = some (.cells cur e (0, 0))) (ht : cur.toList.take d.size = d.toList.map eK) : Holds eK w g 0 d := by
  intro j hj
  refine ⟨?_, by simp [World.frozen?, hb]⟩
  have h1 : (cur.toList.take d.size)[j]? = (d.toList.map eK)[j]? := by rw [ht]
  rw [List.getElem?_take_of_lt hj] at h1
  simp only [World.cell?, hb, Nat.zero_add]
  simp only [Option.isSome_none, Bool.false_eq_true, if_false]
  rw [← Array.getElem?_toList, h1]
  simp [hj]
theorem map_eK (d : Array Ik) : d.toList.map eK = valI (d.toList.map (·.1)) := by
  unfold valI
  rw [List.map_map]
  rfl
theorem ext_all (d : Array Ik) (n : Nat) (h : d.size = n) : d.extract 0 n = d := by subst h; simp
set_option maxHeartbeats 1000000 in
theorem sortC_any (HP : PdqAll) (k : Nat) (hk : k ≤ 100000) : SortC k := by
  intro w g sb s n bm l ids A cap B h hL hB hlen hnd hwf ho
  rcases ho.2 with ⟨he, h0⟩ | ⟨blk, cap', cur, he, hbase, hb, h1, h2, h3, h4⟩
  · have e0 : ids = [] := List.eq_nil_of_length_eq_zero h0
    subst e0
    exact sortC_one w g sb s n bm l [] A cap B h hL hB (by simp) hnd hwf ho
  · cases he
    obtain ⟨d, hd⟩ : ∃ d : Array Ik, d.toList.map (·.1) = ids := by
      refine ⟨(ids.attach.map fun i => (⟨i.1, hwf i.1 i.2⟩ : Ik)).toArray, ?_⟩
      simp
    have hs : d.size = ids.length := by rw [← hd]; simp
    have hH : Holds eK w blk 0 d := holdsK hb (by rw [map_eK, hd, hs]; rw [Nat.mul_one] at h4; exact h4)
    have hblk : blk < w.heap.size := (Array.getElem?_eq_some_iff.1 hb).1
    have R : Row1 eK w blk 0 d := ⟨eK_one, hH, hblk⟩
    have HC : CmpB (cfW l) g blk 0 ids.length w := by
      intro W dk hdk S x y
      have hW : Wl W g sb s n bm l := h.keptBut (sw_grown S) (fun e => by have := hL.g; cases e; omega) (fun e => by have := hL.b; cases e; omega) (fun j hj e => by have := hL.m j hj; cases e; omega)
      exact order_any x y hW
    refine (sortfunc_s HP (cfW l) g blk 0 ids.length w d HC R hs (by omega) (cfW_swo l) cap).mono ?_
    rintro e w' ⟨rfl, S⟩
    obtain ⟨hp, hso⟩ := pdq_sorts (ltOf (cfW l)) (cfW_swo l) d 0 ids.length (Lib.bitLen ids.length) true true (Nat.zero_le _) (by omega) (Or.inl rfl)
    generalize pdq (ltOf (cfW l)) d 0 ids.length (Lib.bitLen ids.length) true true = d' at *
    have hs' : d'.size = ids.length := hp.1.trans hs
    have hperm : (d'.toList.map (·.1)).Perm ids := by
      have := hp.2.2
      rw [ext_all d' _ hs', ext_all d _ hs] at this
      rw [← hd]
      exact this.map _
    refine ⟨rfl, d'.toList.map (·.1), hperm, ?_, ?_, sw_grown S⟩
    · have hnd' : (d'.toList.map (·.1)).Nodup := hperm.nodup_iff.2 hnd
      rw [List.pairwise_iff_getElem]
      intro i j hi hj hij
      simp only [List.length_map, Array.length_toList] at hi hj
      have hso' := hso i j (Nat.zero_le _) hij (by omega)
      rw [cfW_lt] at hso'
      have hn := of_decide_eq_false hso'
      simp only [List.getElem_map, Array.getElem_toList]
      rw [getElem!_pos d' i hi, getElem!_pos d' j hj] at hn
      rcases ltT_tri (tiOf l d'[i].1) (tiOf l d'[j].1) with c | c | c
      · exact c
      · exfalso
        have c1 : d'[i].1 = d'[j].1 := congrArg Ti.id c
        have := (List.pairwise_iff_getElem.1 hnd') i j (by simpa using hi) (by simpa using hj) hij
        simp only [List.getElem_map, Array.getElem_toList] at this
        exact this c1
      · exact absurd c hn
    · refine ⟨by rw [← map_eK]; simp [hs'], .inr ⟨blk, cap, _, rfl, hbase, sw_heap S hb, h1, h2, by simp [putCells, h3], ?_⟩⟩
      rw [Nat.mul_one, ← map_eK, ← hs']
      exact take_putK cur d' (by rw [h3, Nat.mul_one, hs']; exact h1)
end Go.Proofs.Ytjjanogfcfapcaa.W
