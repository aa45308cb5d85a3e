/- The contracts of hash.Spread, of the document's, and of derrickref09.Ints at what is the same. -/
import Derived.Test.YtdgbmcjlnpfndaaHsb
namespace Go.Proofs.Ytdgbmcjlnpfndaa
open Go.RowKit
set_option linter.unusedVariables false

/-- How many of the questions belong to shard i of m; and the counts of all. -/
def cnt (l : List Rc) (m i : Nat) : Nat := l.countP (fun r => shN r m == i)
def cnts (l : List Rc) (m : Nat) : List Nat := (List.range m).map (cnt l m)
theorem cnts_len (l : List Rc) (m : Nat) : (cnts l m).length = m := by simp [cnts]
theorem cnt_le (l : List Rc) (m i : Nat) : cnt l m i ≤ l.length := List.countP_le_length
theorem cnt_take (l : List Rc) (m i j : Nat) (hj : j < l.length) : cnt (l.take (j + 1)) m i = cnt (l.take j) m i + if shN l[j] m = i then 1 else 0 := by
  unfold cnt
  rw [List.take_add_one, List.getElem?_eq_getElem hj, List.countP_append]
  simp [List.countP_cons]
/-- The cells behind some questions. -/
def ccs (l : List Rc) (m : Nat) : Array Value := ((List.range 16).map fun i => Value.int .i64 (cnt l m i : Nat)).toArray
theorem ccs_at (l : List Rc) (m i : Nat) (h : i < 16) : (ccs l m)[i]? = some (.int .i64 (cnt l m i : Nat)) := by simp [ccs, h]
theorem ccs_set (l : List Rc) (m j : Nat) (hj : j < l.length) (hs : shN l[j] m < 16) : (ccs (l.take j) m).setIfInBounds (shN l[j] m) (.int .i64 ((cnt (l.take j) m (shN l[j] m) + 1 : Nat) : Int)) = ccs (l.take (j + 1)) m := by
  apply Array.ext_getElem?
  intro i
  rw [Array.getElem?_setIfInBounds]
  by_cases hi : i < 16
  · rw [ccs_at _ m i hi, ccs_at _ m i hi, cnt_take l m i j hj]
    by_cases e : shN l[j] m = i
    · subst e; simp [ccs, hi]
    · rw [if_neg e, if_neg e]; rfl
  · have e : shN l[j] m ≠ i := by omega
    rw [if_neg e]
    simp [ccs, hi]
theorem blk_kept {w w' : World} {g : Nat} {t : TypeId} {cs : Array Value} (h : Oc.Blk w g t cs) (hb : Below w.heap.size w w') : Oc.Blk w' g t cs := (hb.block _ h.lt).trans h
theorem cell_size {w : World} {p : Addr} {v : Value} (h : w.cell? p = some v) : p.block < w.heap.size := by
  rcases Nat.lt_or_ge p.block w.heap.size with h1 | h1
  · exact h1
  · unfold World.cell? at h
    rw [Array.getElem?_eq_none h1] at h
    cases h
theorem Ns.below {k : IntKind} {w w' : World} {A : Option Addr} {l : List Nat} (h : Ns k w A l) (hb : Below w.heap.size w w') : Ns k w' A l := fun j hj => by
  obtain ⟨b, off, h1, h2⟩ := h j hj
  exact ⟨b, off, h1, (hb.cell (p := ⟨b, off + j, none⟩) (cell_size h2)).trans h2⟩

set_option maxRecDepth 100000 in
set_option maxHeartbeats 1000000 in
theorem spread_any (A : Option Addr) (cap : Nat) (l : List Rc) (hl : l.length ≤ 1000) (ho : ∀ r ∈ l, r.Ok ∧ r.n.size ≤ 100000) (m : Nat) (h1 : 1 ≤ m) (h2 : m ≤ 16) (w : World) (hI : Sl qf w A cap l) :
    Calls Try.prog 17 #[.slice A l.length cap, .int .i64 (m : Nat)] w fun e w' => ∃ g, e = .returned (.slice (some ⟨g, 0, none⟩) m 16) ∧ Ns .i64 w' (some ⟨g, 0, none⟩) (cnts l m) ∧ Below w.heap.size w w' := by
  have HM := Lib.hid (fun w => may_any (m : Nat) w)
  rw [mayM_yes h1 h2] at HM
  have HI := Lib.hid hI
  have HO := Lib.hid ho
  clear hI ho
  go_enter Try.func17, Try.ntmps17
  go_upto_region 4 with (go_at_call 21; with_reducible (refine (HM.out _).mono ?_); rintro e w1 ⟨rfl, rfl⟩)
  have hB0 : Oc.Blk (w1.alloc (Obj.cells (ccs (l.take 0) m) 44)) w1.heap.size 44 (ccs (l.take 0) m) := Oc.Blk.new _ _ _
  have e0 : ccs (l.take 0) m = #[.int .i64 0, .int .i64 0, .int .i64 0, .int .i64 0, .int .i64 0, .int .i64 0, .int .i64 0, .int .i64 0, .int .i64 0, .int .i64 0, .int .i64 0, .int .i64 0, .int .i64 0, .int .i64 0, .int .i64 0, .int .i64 0] := by rw [List.take_zero]; rfl
  have hb0 : Below w1.heap.size w1 (w1.alloc (Obj.cells (ccs (l.take 0) m) 44)) := (Below.refl _ _).alloc (Nat.le_refl _) _
  have HS0 := Lib.hid (And.intro hB0 hb0)
  rw [← e0]
  clear hB0 hb0 e0
  go_wp2_with fail
  go_loopw [7, 13] (fun _ i wr => ∃ j : Nat, j ≤ l.length ∧ i = .int .i64 j ∧ Oc.Blk wr w1.heap.size 44 (ccs (l.take j) m) ∧ Below w1.heap.size w1 wr) (fun _ i _ => l.length - (intOf i).toNat)
  case atStart => exact ⟨0, Nat.zero_le _, rfl, HS0.out.1, HS0.out.2⟩
  case round =>
    clear HS0
    obtain ⟨j, hj, rfl, hblk, hbel⟩ := hrel
    by_cases hlt : j < l.length
    · obtain ⟨b, off, rfl, hb, c0, c1, c2⟩ := (HI.out.below' hbel).ask3 j hlt
      have hr := HO.out l[j] (List.getElem_mem hlt)
      have HC := Lib.hid (fun W => shard_any l[j] hr.1 hr.2 m h1 h2 W)
      have hs16 : shN l[j] m < 16 := Nat.lt_of_lt_of_le (shN_lt _ h1) h2
      have HT := Lib.hid (ccs_set l m j hlt hs16)
      have HAt := Lib.hid (ccs_at (l.take j) m (shN l[j] m) hs16)
      have hcl : cnt (l.take j) m (shN l[j] m) ≤ 1000 := Nat.le_trans (cnt_le _ _ _) (by rw [List.length_take]; omega)
      generalize cnt (l.take j) m (shN l[j] m) = q at *
      generalize shN l[j] m = s at *
      unfold qV at HC
      generalize l[j] = r at *
      have ba : Oc.Blk (wr.alloc (Obj.cells #[.string r.n, .int .u16 (r.k : Nat), .int .u16 (r.c : Nat)] 24)) w1.heap.size 44 (ccs (l.take j) m) := blk_kept hblk ((Below.refl wr.heap.size wr).alloc (Nat.le_refl _) _)
      have hba := hbel.alloc hbel.size (Obj.cells #[.string r.n, .int .u16 (r.k : Nat), .int .u16 (r.c : Nat)] 24)
      have HF := Lib.hid (And.intro ba hba)
      have s0 : (0 : Int) ≤ (s : Nat) := by omega
      have s1 : (s : Int) < 16 := by omega
      clear ba hba hblk hbel hr hs16
      go_wp2_with (go_at_call 14; with_reducible (refine (HC.out _).mono ?_); rintro e w3 ⟨rfl, hb3⟩; have hk3 := blk_kept HF.out.1 hb3; have d0 := (Oc.Blk.cell hk3 s).trans HAt.out; have f0 := Oc.Blk.frozen hk3 s; have HG := Lib.hid (And.intro hk3 (HF.out.2.trans (hb3.mono HF.out.2.size))); clear hk3 hb3)
      go_roundw
      case rel =>
        have hset := Oc.Blk.set_ HG.out.1 s (.int .i64 ((q + 1 : Nat) : Int))
        rw [HT.out] at hset
        exact ⟨j + 1, hlt, by go_num, hset, HG.out.2.setCell (Nat.le_refl _) _⟩
      case measure => simp [intOf]; omega
    · obtain rfl : j = l.length := by omega
      rw [List.take_length] at hblk
      have hN : Ns .i64 wr (some ⟨w1.heap.size, 0, none⟩) (cnts l m) := fun i hi => by
        rw [cnts_len] at hi
        refine ⟨_, _, rfl, ?_⟩
        rw [Nat.zero_add, hblk.cell, ccs_at l m i (by omega)]
        simp [cnts]
      have HF := Lib.hid (And.intro hN hbel)
      have m0 : (0 : Int) ≤ (m : Nat) := by omega
      have m1 : (m : Int) ≤ 16 := by omega
      clear hN hbel
      go_wp2_with fail
      go_ret
      exact ⟨_, rfl, HF.out.1, HF.out.2⟩

set_option maxHeartbeats 1000000 in
theorem spread_no (v : Value) (m : Int) (h : mayM m = false) (w : World) :
    Calls Try.prog 17 #[v, .int .i64 m] w fun e w' => e = .returned (.slice none 0 0) ∧ w' = w := by
  have HM := Lib.hid (fun w => may_any m w)
  rw [h] at HM
  clear h
  go_enter Try.func17, Try.ntmps17
  go_wp2_with (go_at_call 21; with_reducible (refine (HM.out _).mono ?_); rintro e w1 ⟨rfl, rfl⟩)
  go_ret
  exact ⟨rfl, rfl⟩

theorem elI : (Try.prog.info? 3).map (fun i => (i.zero, i.size, i.bytes)) = some (some (.int .i64 0), 1, 8) := by kernel_rfl
theorem newI (W : World) (n : Int) : ∀ j u, ([Value.int .i64 n] : List Value)[j]? = some u → (W.alloc (.cells #[.int .i64 n] 3)).cell? ((⟨W.heap.size, 0, none⟩ : Addr).add j) = some u := fun j u hj => by
  have h := heap_alloc_new W (Obj.cells #[.int .i64 n] 3)
  rw [Addr.add_lit, Nat.zero_add, blk_cell h j, ← hj]
  simp
/-- The cells of the first counts. -/
def cvs (l : List Rc) (m k : Nat) : List Value := (List.range k).map fun i => Value.int .i64 (cnt l m i : Nat)
theorem cvs_len (l : List Rc) (m k : Nat) : (cvs l m k).length = k := by simp [cvs]
theorem cvs_succ (l : List Rc) (m k : Nat) : cvs l m (k + 1) = cvs l m k ++ [Value.int .i64 (cnt l m k : Nat)] := by unfold cvs; rw [List.range_succ, List.map_append]; rfl
theorem ns_own {w : World} {B : Nat} {A : Option Addr} {cap : Nat} {l : List Rc} {m : Nat} (h : w.ownsRow B 3 1 (.slice A m cap) m (cvs l m m)) : Ns .i64 w A (cnts l m) := fun j hj => by
  rw [cnts_len] at hj
  obtain ⟨g, rfl, hg⟩ := own_block h (by omega)
  refine ⟨g, 0, rfl, ?_⟩
  rw [Nat.zero_add, h.cellAt _ (by omega)]
  simp [cvs, cnts, hj]

set_option maxRecDepth 100000 in
set_option maxHeartbeats 2000000 in
theorem rspread_any (A : Option Addr) (cap : Nat) (l : List Rc) (hl : l.length ≤ 1000) (ho : ∀ r ∈ l, r.Ok ∧ r.n.size ≤ 100000) (m : Nat) (h1 : 1 ≤ m) (h2 : m ≤ 16) (w : World) (hI : Sl qf w A cap l) :
    Calls Try.prog 18 #[.slice A l.length cap, .int .i64 (m : Nat)] w fun e w' => ∃ A' c', e = .returned (.slice A' m c') ∧ Ns .i64 w' A' (cnts l m) ∧ Below w.heap.size w w' := by
  obtain ⟨i0, hi, hz0, hz1, hz2⟩ := el_of elI
  have HI := Lib.hid hI
  have HO := Lib.hid ho
  have g2 : decide ((m : Int) ≤ 16) = true := by simp; omega
  clear hI ho
  go_enter Try.func18, Try.ntmps18
  go_wp2_with fail
  go_loopw [5, 6, 7, 8] (fun v x _ _ wr => ∃ k : Nat, k ≤ m ∧ x = .int .i64 k ∧ wr.ownsRow w.heap.size 3 1 v k (cvs l m k) ∧ Below w.heap.size w wr) (fun _ x _ _ _ => m - (intOf x).toNat)
  case atStart => exact ⟨0, Nat.zero_le _, rfl, World.ownsRow_nil _ _ _ _, Below.refl _ _⟩
  case round =>
    obtain ⟨k, hk, rfl, hown, hbel⟩ := hrel
    by_cases hlt : k < m
    · have d1 : decide ((k : Int) < m) = true := by simp; omega
      obtain ⟨Av, cv, rfl⟩ := ownR_form hown
      have HO1 := Lib.hid (And.intro hown hbel)
      clear hown hbel
      go_wp2_with fail
      go_loopw [7, 8] (fun y x wx => ∃ j : Nat, j ≤ l.length ∧ x = .int .i64 j ∧ y = .int .i64 (cnt (l.take j) m k : Nat) ∧ wx.ownsRow w.heap.size 3 1 (.slice Av k cv) k (cvs l m k) ∧ Below w.heap.size w wx) (fun _ x _ => l.length - (intOf x).toNat)
      case atStart => exact ⟨0, Nat.zero_le _, rfl, by rw [List.take_zero]; rfl, HO1.out.1, HO1.out.2⟩
      case round =>
        clear HO1
        obtain ⟨j, hj, rfl, rfl, hown, hbel⟩ := hrel
        by_cases hjl : j < l.length
        · obtain ⟨b, off, rfl, hb, c0, c1, c2⟩ := (HI.out.below' hbel).ask3 j hjl
          have hr := HO.out l[j] (List.getElem_mem hjl)
          have HC := Lib.hid (fun W => rshard_any l[j] hr.1 hr.2 m h1 h2 W)
          have hcl : cnt (l.take j) m k ≤ 1000 := Nat.le_trans (cnt_le _ _ _) (by rw [List.length_take]; omega)
          have HT := Lib.hid (cnt_take l m k j hjl)
          have HX := Lib.hid (And.intro hown hbel)
          generalize cnt (l.take j) m k = q at *
          generalize shN l[j] m = s at *
          unfold qV at HC
          generalize l[j] = r at *
          clear hown hbel hr
          by_cases e : s = k
          · have HT2 := Lib.hid (HT.out.trans (by rw [if_pos e]))
            clear HT
            subst e
            go_wp2_with (go_at_call 15; with_reducible (refine (HC.out _).mono ?_); rintro e w3 ⟨rfl, hb3⟩; have HG := Lib.hid (And.intro (ownR_below HX.out.1 hb3) (HX.out.2.trans (hb3.mono HX.out.2.size))); clear hb3)
            go_roundw
            case rel => exact ⟨j + 1, hjl, by go_num, by rw [HT2.out]; go_num, HG.out.1, HG.out.2⟩
            case measure => simp [intOf]; omega
          · have ds : decide ((s : Int) = (k : Int)) = false := by simp; omega
            have ds' : ¬ (s : Int) = (k : Int) := by omega
            have HT2 := Lib.hid (HT.out.trans (by rw [if_neg e]))
            clear HT
            go_wp2_with (go_at_call 15; with_reducible (refine (HC.out _).mono ?_); rintro e w3 ⟨rfl, hb3⟩; have HG := Lib.hid (And.intro (ownR_below HX.out.1 hb3) (HX.out.2.trans (hb3.mono HX.out.2.size))); clear hb3)
            go_roundw
            case rel => exact ⟨j + 1, hjl, by go_num, by rw [HT2.out]; rfl, HG.out.1, HG.out.2⟩
            case measure => simp [intOf]; omega
        · obtain rfl : j = l.length := by omega
          rw [List.take_length]
          have HS := Lib.hid (cvs_succ l m k)
          have hcl : cnt l m k ≤ 1000 := Nat.le_trans (cnt_le _ _ _) hl
          generalize cnt l m k = q at *
          have ho3 := hown.alloc (Obj.cells #[.int .i64 (q : Nat)] 3)
          have hb3 := hbel.alloc hbel.size (Obj.cells #[.int .i64 (q : Nat)] 3)
          have HO3 := Lib.hid ho3
          have HB3 := Lib.hid hb3
          clear hown hbel ho3 hb3
          go_wp2_with (at_builtin; (refine wpList_append_own _ rfl _ _ 33 rfl w.heap.size 3 i0 (.int .i64 0) 1 8 Try.underlying33 hi hz0 hz1 hz2 rfl (by decide) _ _ _ rfl HO3.out ⟨wr.heap.size, 0, none⟩ 1 1 [Value.int .i64 (q : Nat)] rfl rfl (newI wr q) ?q3 ?q4 ?q5 HB3.out.size ?_))
          case q3 => intro u hu; simp at hu; subst hu; rfl
          case q4 => unfold maxLen; omega
          case q5 => omega
          intro v' w3 hown2 hgrow hnil
          have hb4 := HB3.out.grown hgrow HB3.out.size (fun k hk => (HO3.out.lt k hk).1)
          rw [← HS.out] at hown2
          have HF := Lib.hid (And.intro hown2 hb4)
          clear hown2 hgrow hnil hb4
          go_wp2_with fail
          go_roundw
          case rel => exact ⟨k + 1, hlt, by go_num, HF.out.1, HF.out.2⟩
          case measure => simp [intOf]; omega
    · obtain rfl : k = m := by omega
      have d1 : decide ((k : Int) < k) = false := by simp
      obtain ⟨Av, cv, rfl⟩ := ownR_form hown
      have HF := Lib.hid (And.intro (ns_own hown) hbel)
      clear hown hbel
      go_wp2_with fail
      go_ret
      exact ⟨Av, cv, rfl, HF.out.1, HF.out.2⟩
end Go.Proofs.Ytdgbmcjlnpfndaa
