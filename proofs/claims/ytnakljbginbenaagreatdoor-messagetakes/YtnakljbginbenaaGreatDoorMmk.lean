/- The contracts of message: Header, take (of questions, and of records), Take. -/
import Derived.Test.YtnakljbginbenaaGreatDoorMmi
namespace Go.Proofs.YtnakljbginbenaaGreatDoor
open Go.RowKit
set_option linter.unusedVariables false

def hmT (s : ByteArray) : Ms := if 12 ≤ s.size then hdT s else zMs
def hmE (s : ByteArray) : Int := if 12 ≤ s.size then 0 else 2
theorem and15 (a : Nat) (ha : a < 65536) : bits .and .u16 (a : Int) 15 = ((a % 16 : Nat) : Int) := by
  have := bits_mask .u16 16 (by decide) u16w 4 (by decide) (a : Int) (by omega) (by omega)
  rw [show ((2 : Int) ^ 4 - 1) = 15 by decide] at this
  rw [this]
  simp
theorem u16_at (s : ByteArray) (p : Nat) (hs : s.size ≤ 1073741824) (hp : p + 2 ≤ s.size) (w : World) :
    Calls Tryz.prog 43 #[.string s, .int .i64 p] w fun e w' => e = .returned (.tuple #[.int .u16 (g16 s p : Nat), .int .i64 ((p + 2 : Nat) : Int), .int .i64 0]) ∧ Below w.heap.size w w' := by
  have h := Oc.u16_any s (p : Nat) w (by unfold maxLen; omega) (by unfold maxLen; omega)
  have e1 : Oc.so s (p : Nat) 2 = (p + 2 : Nat) := so_nat (m := 2) hp
  have e2 : Oc.se s (p : Nat) 2 = 0 := (se_nat s p 2).trans (if_pos hp)
  rw [un16 hp, e1, e2] at h
  exact h

set_option maxRecDepth 100000 in
set_option maxHeartbeats 2000000 in
theorem header_any (s : ByteArray) (hs : s.size ≤ 1073741824) (w : World) :
    Calls Tryz.prog 17 #[.string s] w fun e w' => e = .returned (.tuple #[.agg (msV (hmT s) zAd), .int .i64 (hmE s)]) ∧ Below w.heap.size w w' := by
  have hb1 := (Below.refl w.heap.size w).alloc (Nat.le_refl _) (Obj.cells (msV zMs zAd) 26)
  have hx1 := World.alloc_heap_new w (Obj.cells (msV zMs zAd) 26)
  obtain ⟨w1, hw1⟩ : ∃ w1, w1 = w.alloc (Obj.cells (msV zMs zAd) 26) := ⟨_, rfl⟩
  rw [← hw1] at hb1 hx1
  have HW := Lib.hid hw1
  have HB1 := Lib.hid hb1
  have HX1 := Lib.hid hx1
  clear hb1 hx1 hw1
  by_cases h12 : 12 ≤ s.size
  · have HE := Lib.hid (show hmT s = hdT s ∧ hmE s = 0 from ⟨if_pos h12, if_pos h12⟩)
    have d1 : decide ((s.size : Int) < 12) = false := by simp; omega
    have hb := g16_lt s 2 (by omega)
    have h0 := g16_lt s 0 (by omega)
    have HD := Lib.hid (show hdT s = ⟨g16 s 0, decide (g16 s 2 / 32768 % 2 = 1), decide (g16 s 2 / 1024 % 2 = 1), decide (g16 s 2 / 512 % 2 = 1), decide (g16 s 2 / 256 % 2 = 1), decide (g16 s 2 / 128 % 2 = 1), (g16 s 2 / 2048 % 16 : Nat), (g16 s 2 % 16 : Nat), [], [], [], []⟩ from rfl)
    have HU0 := Lib.hid (fun w' => u16_at s 0 hs (by omega) w')
    have HU2 := Lib.hid (fun w' => u16_at s 2 hs (by omega) w')
    clear h12
    generalize g16 s 0 = I at *
    generalize g16 s 2 = T at *
    obtain ⟨O, hO⟩ : ∃ O : Int, O = ((T / 2048 % 16 : Nat) : Int) := ⟨_, rfl⟩
    obtain ⟨C, hC⟩ : ∃ C : Int, C = ((T % 16 : Nat) : Int) := ⟨_, rfl⟩
    have a1 : bits .and .u16 ((T : Int) / 2048) 15 = O := by rw [show ((T : Int) / 2048) = ((T / 2048 : Nat) : Int) by omega, hO]; exact and15 (T / 2048) (by omega)
    have a2 : bits .and .u16 (T : Int) 15 = C := by rw [hC]; exact and15 T hb
    have k1 : IntKind.i64.wrap O = O := by rw [IntKind.wrap_i64]; omega
    have k2 : IntKind.i64.wrap C = C := by rw [IntKind.wrap_i64]; omega
    have HOC := Lib.hid (And.intro hO hC)
    clear hO hC
    have HB := Lib.hid hb
    clear hb h0
    go_enter Tryz.func17, Tryz.ntmps17
    go_upto_region 1 with (fail)
    rw [show Obj.cells #[Value.int IntKind.u16 0, .bool false, .bool false, .bool false, .bool false, .bool false, .int .i64 0, .int .i64 0, .slice none 0 0, .slice none 0 0, .slice none 0 0, .slice none 0 0] 26 = Obj.cells (msV zMs zAd) 26 from rfl, ← HW.out]
    clear HW
    go_wp2_with fail
    refine (HU0.out _).mono ?_
    rintro e w2 ⟨rfl, hb2⟩
    have HB2 := Lib.hid (HB1.out.trans (hb2.mono HB1.out.size))
    have HX2 := Lib.hid ((hb2.block _ (heap_lt HX1.out)).trans HX1.out)
    clear hb2
    rw [show ((0 + 2 : Nat) : Int) = 2 from rfl]
    go_wp2_with fail
    refine (HU2.out _).mono ?_
    rintro e w3 ⟨rfl, hb3⟩
    have HB3 := Lib.hid (HB2.out.trans (hb3.mono HB2.out.size))
    have HX3 := Lib.hid ((hb3.block _ (heap_lt HX2.out)).trans HX2.out)
    clear hb3 HB2 HX2
    rw [show ((2 + 2 : Nat) : Int) = 4 from rfl]
    go_wp2_with fail
    refine (has_any T 0 HB.out (by omega) _).mono ?_
    rintro e w4 ⟨rfl, rfl⟩
    go_wp2_with fail
    refine (has_any T 5 HB.out (by omega) _).mono ?_
    rintro e w5 ⟨rfl, rfl⟩
    go_wp2_with fail
    refine (has_any T 6 HB.out (by omega) _).mono ?_
    rintro e w4 ⟨rfl, rfl⟩
    go_wp2_with fail
    refine (has_any T 7 HB.out (by omega) _).mono ?_
    rintro e w5 ⟨rfl, rfl⟩
    go_wp2_with fail
    refine (has_any T 8 HB.out (by omega) _).mono ?_
    rintro e w5 ⟨rfl, rfl⟩
    go_wp2_with (refine wpList_store_row rfl 26 _ _ rfl w.heap.size (msV ⟨I, decide (T / 32768 % 2 = 1), decide (T / 1024 % 2 = 1), decide (T / 512 % 2 = 1), decide (T / 256 % 2 = 1), decide (T / 128 % 2 = 1), O, C, [], [], [], []⟩ zAd) rfl rfl 26 _ HX3.out infoM rfl (msV_all _ _) ?_)
    refine ret_m2 (g := w.heap.size) rfl rfl rfl rfl (setRow_heap _ _ _ _ _ _ HX3.out) rfl ?_
    rw [HE.out.1, HE.out.2, HD.out, ← HOC.out.1, ← HOC.out.2]
    exact ⟨rfl, setRow_below HB3.out (Nat.le_refl _) _⟩
  · have HE := Lib.hid (show hmT s = zMs ∧ hmE s = 2 from ⟨if_neg h12, if_neg h12⟩)
    have d1 : decide ((s.size : Int) < 12) = true := by simp; omega
    clear h12
    go_enter Tryz.func17, Tryz.ntmps17
    go_upto_region 1 with (fail)
    rw [show Obj.cells #[Value.int IntKind.u16 0, .bool false, .bool false, .bool false, .bool false, .bool false, .int .i64 0, .int .i64 0, .slice none 0 0, .slice none 0 0, .slice none 0 0, .slice none 0 0] 26 = Obj.cells (msV zMs zAd) 26 from rfl, ← HW.out]
    clear HW
    go_wp2_with (refine wpList_store_row rfl 26 _ _ rfl w.heap.size (msV zMs zAd) rfl rfl 26 _ HX1.out infoM rfl (msV_all _ _) ?_)
    refine ret_m2 (g := w.heap.size) rfl rfl rfl rfl (setRow_heap _ _ _ _ _ _ HX1.out) rfl ?_
    rw [HE.out.1, HE.out.2]
    exact ⟨rfl, setRow_below HB1.out (Nat.le_refl _) _⟩

theorem ownR_below {w w' : World} {B : Nat} {e : TypeId} {k : Nat} {v : Value} {n : Nat} {xs : List Value} (h : w.ownsRow B e k v n xs) (hb : Below w.heap.size w w') : w'.ownsRow B e k v n xs := by
  refine ⟨h.1, ?_⟩
  rcases h.2 with h1 | ⟨g, cap, cur, h1, h2, h3, h4⟩
  · exact .inl h1
  · exact .inr ⟨g, cap, cur, h1, h2, (hb.block g (heap_lt h3)).trans h3, h4⟩

theorem newQ (W : World) (o : Obj) (r : Rc) : ∀ j u, (qf r)[j]? = some u → ((W.alloc o).alloc (.cells #[.string r.n, .int .u16 (r.k : Nat), .int .u16 (r.c : Nat)] 48)).cell? ((⟨W.heap.size + 1, 0, none⟩ : Addr).add j) = some u := fun j u hj => by
  have h := heap_alloc2_new W o (Obj.cells #[.string r.n, .int .u16 (r.k : Nat), .int .u16 (r.c : Nat)] 48)
  rw [Addr.add_lit, Nat.zero_add, blk_cell h j, ← hj]
  simp [qf]
theorem oneQ (r : Rc) : ∀ u ∈ qf r, u.oneCell' = true := fun u hu => by have := qf_one [r] u (by simpa using hu); exact this
set_option maxRecDepth 100000 in
set_option maxHeartbeats 2000000 in
theorem takeQ_any (s : ByteArray) (p : Int) (sec : Nat) (hs : s.size ≤ 1073741824) (h12 : 12 ≤ s.size) (hsec : sec ≤ 3) (hp : -1 ≤ p) (hp2 : p ≤ s.size) (w : World) (hL : Lay w) :
    Calls Tryz.prog 36 #[.string s, .int .i64 p, .int .i64 sec, .func (.func 37) #[] #[]] w fun e w' => ∃ A cap, e = .returned (.tuple #[.slice A (outL (qsT s (g16 s (4 + 2 * sec)) p)).length cap, .int .i64 (outP (qsT s (g16 s (4 + 2 * sec)) p))]) ∧ Sl qf w' A cap (outL (qsT s (g16 s (4 + 2 * sec)) p)) ∧ Below w.heap.size w w' ∧ ∀ a, A = some a → w.heap.size ≤ a.block := by
  obtain ⟨i0, hi, hz0, hz1, hz2⟩ := el_of elQ
  have HL := Lib.hid hL
  have H0 := Lib.hid (lay_lt hL)
  have HU := Lib.hid (fun w' => u16_at s (4 + 2 * sec) hs (by omega) w')
  have hn := g16_lt s (4 + 2 * sec) (by omega)
  obtain ⟨n, hnn⟩ : ∃ n, n = g16 s (4 + 2 * sec) := ⟨_, rfl⟩
  rw [← hnn] at HU hn ⊢
  have hsp : ((4 : Int) + 2 * (sec : Int)) = ((4 + 2 * sec : Nat) : Int) := by omega
  have HSp := Lib.hid hsp
  clear hL hnn hsp
  go_enter Tryz.func36, Tryz.ntmps36
  go_wp2_with fail
  rw [HSp.out]
  refine (HU.out _).mono ?_
  rintro e w1 ⟨rfl, hb1⟩
  have HB1 := Lib.hid hb1
  clear hb1 HU
  go_wp2_with fail
  go_loopw [1, 13, 27] (fun q v i wr => ∃ (j : Nat) (P : Int) (l : List Rc), j ≤ n ∧ i = .int .u16 j ∧ q = .int .i64 P ∧ -1 ≤ P ∧ P ≤ s.size ∧ l.length = j ∧ wr.ownsRow w.heap.size 48 3 v l.length (l.flatMap qf) ∧ qsT s n p = (qsT s (n - j) P).map (fun x => (l ++ x.1, x.2)) ∧ Below w.heap.size w wr) (fun _ _ i _ => n - (intOf i).toNat)
  case atStart => exact ⟨0, p, [], Nat.zero_le _, rfl, rfl, hp, hp2, rfl, World.ownsRow_nil _ _ _ _, by cases qsT s n p <;> simp, HB1.out⟩
  case round =>
    clear HB1
    obtain ⟨j, P, l, hj, rfl, rfl, hP1, hP2, hlj, hown, hT, hbel⟩ := hrel
    have HLj := Lib.hid hlj
    clear hlj
    by_cases hlt : j < n
    · obtain ⟨Av, cv, rfl⟩ := ownR_form hown
      have HO := Lib.hid hown
      have HB := Lib.hid hbel
      have HLr := Lib.hid (HL.out.below H0.out hbel)
      have HK := Lib.hid (fun w' (hL' : Lay w') => takeq_any s P hs (by unfold maxLen; omega) w' )
      have g1 : decide ((j : Int) < (n : Int)) = true := by simp; omega
      rw [show n - j = (n - (j + 1)) + 1 by omega, qsT] at hT
      clear hown hbel
      rcases q_cases s P with ⟨hq, _, _, a3⟩ | ⟨r, hq, a1, a2, a3, a4⟩
      · rw [hq, Option.bind_none, Option.map_none] at hT
        rw [a3] at HK
        have HT := Lib.hid hT
        clear hT hq a3
        generalize qR s P = r at *
        generalize qX s P = X at *
        go_wp2_with fail
        refine (HK.out _ HLr.out).mono ?_
        rintro e w2 ⟨rfl, hb2⟩
        have HB2 := Lib.hid (HB.out.trans (hb2.mono HB.out.size))
        clear hb2
        go_wp2_with fail
        go_ret2
        rw [HT.out]
        exact ⟨none, 0, rfl, Sl.nil _ _, HB2.out.alloc HB2.out.size _, (fun a h => by cases h)⟩
      · obtain ⟨b1, b2, b3, b4, b5, b6⟩ := tkQ_is hq
        rw [hq] at hT
        simp only [Option.bind_some, Option.map_map] at hT
        rw [a1, a2, a3] at HK
        have hT2 : qsT s n p = (qsT s (n - (j + 1)) (r.2 : Nat)).map (fun x => ((l ++ [r.1]) ++ x.1, x.2)) := by
          rw [hT]
          congr 1
          funext x
          simp
        have HT := Lib.hid hT2
        have hr2 : (r.2 : Int) ≤ s.size := by omega
        have hr3 : (0 : Int) ≤ r.2 := by omega
        clear hT hT2 hq a1 a2 a3 a4 b1 b2 b3 b4 b5 b6
        generalize r.2 = X at *
        generalize r.1 = R at *
        go_wp2_with fail
        refine (HK.out _ HLr.out).mono ?_
        rintro e w2 ⟨rfl, hb2⟩
        have HB2 := Lib.hid (HB.out.trans (hb2.mono HB.out.size))
        have HO2 := Lib.hid (ownR_below HO.out hb2)
        clear hb2
        have hbA := (HB2.out.alloc HB2.out.size (Obj.cells #[.string R.n, .int .u16 (R.k : Nat), .int .u16 (R.c : Nat)] 48))
        have hbB := hbA.alloc hbA.size (Obj.cells #[.string R.n, .int .u16 (R.k : Nat), .int .u16 (R.c : Nat)] 48)
        have HO3 := Lib.hid (ownR_below HO2.out ((((Below.refl _ w2).alloc (Nat.le_refl _) (Obj.cells #[.string R.n, .int .u16 (R.k : Nat), .int .u16 (R.c : Nat)] 48))).alloc (by simp) (Obj.cells #[.string R.n, .int .u16 (R.k : Nat), .int .u16 (R.c : Nat)] 48)))
        have HBB := Lib.hid hbB
        clear hbA hbB HO2
        go_wp2_with (at_builtin; refine wpList_append_own _ rfl _ _ 23 rfl w.heap.size 48 i0 zQ 3 24 Tryz.underlying23 hi hz0 hz1 hz2 rfl (by decide) _ _ _ rfl HO3.out ⟨w2.heap.size + 1, 0, none⟩ 1 1 (qf R) rfl rfl (newQ w2 _ R) (oneQ R) ?q4 ?q5 HBB.out.size ?_)
        case q4 => have := HLj.out; unfold maxLen; omega
        case q5 => have := HLj.out; omega
        intro v' w3 hown2 hgrow hnil
        have hb3 := HBB.out.grown hgrow HBB.out.size (fun k hk => (HO3.out.lt k hk).1)
        have hown3 : w3.ownsRow w.heap.size 48 3 v' (l ++ [R]).length ((l ++ [R]).flatMap qf) := by
          rw [List.length_append, List.flatMap_append]
          simpa using hown2
        have HF := Lib.hid (And.intro hown3 hb3)
        clear hown2 hown3 hgrow hnil hb3
        have hw16 : IntKind.u16.wrap ((j : Int) + 1) = ((j + 1 : Nat) : Int) := by rw [u16w _ (by omega) (by omega)]; omega
        go_wp2_with fail
        go_roundw
        case rel => exact ⟨j + 1, (X : Nat), l ++ [R], hlt, by first | rfl | (rw [hw16]) | go_num, rfl, by omega, hr2, by rw [List.length_append, HLj.out]; rfl, HF.out.1, HT.out, HF.out.2⟩
        case measure => simp [intOf]; omega
    · obtain rfl : j = n := by omega
      obtain ⟨A', cap', rfl, hS⟩ := Sl.own qf_len hown
      rw [Nat.sub_self, qsT] at hT
      have hT2 : qsT s j p = some (l, P) := by rw [hT]; simp
      have hfr : ∀ a, A' = some a → w.heap.size ≤ a.block := fun a ha => (hown.lt a.block (by rw [ha]; rfl)).1
      have HF := Lib.hid (And.intro hS (And.intro hbel hfr))
      have HT := Lib.hid hT2
      have g1 : decide ((j : Int) < (j : Int)) = false := by simp
      clear hown hT hT2 hS hbel hfr
      go_wp2_with fail
      go_ret2
      rw [HT.out]
      exact ⟨A', cap', rfl, HF.out.1, HF.out.2.1, HF.out.2.2⟩

theorem newR (W : World) (o : Obj) (r : Rc) : ∀ j u, (rf r)[j]? = some u → ((W.alloc o).alloc (.cells #[.string r.n, .int .u16 (r.k : Nat), .int .u16 (r.c : Nat), .int .u32 (r.t : Nat), .string r.d] 46)).cell? ((⟨W.heap.size + 1, 0, none⟩ : Addr).add j) = some u := fun j u hj => by
  have h := heap_alloc2_new W o (Obj.cells #[.string r.n, .int .u16 (r.k : Nat), .int .u16 (r.c : Nat), .int .u32 (r.t : Nat), .string r.d] 46)
  rw [Addr.add_lit, Nat.zero_add, blk_cell h j, ← hj]
  simp [rf]
theorem oneR (r : Rc) : ∀ u ∈ rf r, u.oneCell' = true := fun u hu => by have := rf_one [r] u (by simpa using hu); exact this
set_option maxRecDepth 100000 in
set_option maxHeartbeats 2000000 in
theorem takeR_any (s : ByteArray) (p : Int) (sec : Nat) (hs : s.size ≤ 1073741824) (h12 : 12 ≤ s.size) (hsec : sec ≤ 3) (hp : -1 ≤ p) (hp2 : p ≤ s.size) (w : World) (hL : Lay w) :
    Calls Tryz.prog 38 #[.string s, .int .i64 p, .int .i64 sec, .func (.func 39) #[] #[]] w fun e w' => ∃ A cap, e = .returned (.tuple #[.slice A (outL (rsT s (g16 s (4 + 2 * sec)) p)).length cap, .int .i64 (outP (rsT s (g16 s (4 + 2 * sec)) p))]) ∧ Sl rf w' A cap (outL (rsT s (g16 s (4 + 2 * sec)) p)) ∧ Below w.heap.size w w' ∧ ∀ a, A = some a → w.heap.size ≤ a.block := by
  obtain ⟨i0, hi, hz0, hz1, hz2⟩ := el_of elR
  have HL := Lib.hid hL
  have H0 := Lib.hid (lay_lt hL)
  have HU := Lib.hid (fun w' => u16_at s (4 + 2 * sec) hs (by omega) w')
  have hn := g16_lt s (4 + 2 * sec) (by omega)
  obtain ⟨n, hnn⟩ : ∃ n, n = g16 s (4 + 2 * sec) := ⟨_, rfl⟩
  rw [← hnn] at HU hn ⊢
  have hsp : ((4 : Int) + 2 * (sec : Int)) = ((4 + 2 * sec : Nat) : Int) := by omega
  have HSp := Lib.hid hsp
  clear hL hnn hsp
  go_enter Tryz.func38, Tryz.ntmps38
  go_wp2_with fail
  rw [HSp.out]
  refine (HU.out _).mono ?_
  rintro e w1 ⟨rfl, hb1⟩
  have HB1 := Lib.hid hb1
  clear hb1 HU
  go_wp2_with fail
  go_loopw [1, 13, 27] (fun q v i wr => ∃ (j : Nat) (P : Int) (l : List Rc), j ≤ n ∧ i = .int .u16 j ∧ q = .int .i64 P ∧ -1 ≤ P ∧ P ≤ s.size ∧ l.length = j ∧ wr.ownsRow w.heap.size 46 5 v l.length (l.flatMap rf) ∧ rsT s n p = (rsT s (n - j) P).map (fun x => (l ++ x.1, x.2)) ∧ Below w.heap.size w wr) (fun _ _ i _ => n - (intOf i).toNat)
  case atStart => exact ⟨0, p, [], Nat.zero_le _, rfl, rfl, hp, hp2, rfl, World.ownsRow_nil _ _ _ _, by cases rsT s n p <;> simp, HB1.out⟩
  case round =>
    clear HB1
    obtain ⟨j, P, l, hj, rfl, rfl, hP1, hP2, hlj, hown, hT, hbel⟩ := hrel
    have HLj := Lib.hid hlj
    clear hlj
    by_cases hlt : j < n
    · obtain ⟨Av, cv, rfl⟩ := ownR_form hown
      have HO := Lib.hid hown
      have HB := Lib.hid hbel
      have HLr := Lib.hid (HL.out.below H0.out hbel)
      have HK := Lib.hid (fun w' (hL' : Lay w') => taker_any s P hs (by unfold maxLen; omega) w' hL')
      have g1 : decide ((j : Int) < (n : Int)) = true := by simp; omega
      rw [show n - j = (n - (j + 1)) + 1 by omega, rsT] at hT
      clear hown hbel
      rcases r_cases s P with ⟨hq, _, _, a3⟩ | ⟨r, hq, a1, a2, a3⟩
      · rw [hq, Option.bind_none, Option.map_none] at hT
        rw [a3] at HK
        have HT := Lib.hid hT
        clear hT hq a3
        generalize rR s P = r at *
        generalize rX s P = X at *
        go_wp2_with fail
        refine (HK.out _ HLr.out).mono ?_
        rintro e w2 ⟨rfl, hb2⟩
        have HB2 := Lib.hid (HB.out.trans (hb2.mono HB.out.size))
        clear hb2
        go_wp2_with fail
        go_ret2
        rw [HT.out]
        exact ⟨none, 0, rfl, Sl.nil _ _, HB2.out.alloc HB2.out.size _, (fun a h => by cases h)⟩
      · obtain ⟨b1, b2, b3, b4⟩ := tkR_is hq
        rw [hq] at hT
        simp only [Option.bind_some, Option.map_map] at hT
        rw [a1, a2, a3] at HK
        have hT2 : rsT s n p = (rsT s (n - (j + 1)) (r.2 : Nat)).map (fun x => ((l ++ [r.1]) ++ x.1, x.2)) := by
          rw [hT]
          congr 1
          funext x
          simp
        have HT := Lib.hid hT2
        have hr2 : (r.2 : Int) ≤ s.size := by omega
        have hr3 : (0 : Int) ≤ r.2 := by omega
        clear hT hT2 hq a1 a2 a3 b1 b2 b3 b4
        generalize r.2 = X at *
        generalize r.1 = R at *
        go_wp2_with fail
        refine (HK.out _ HLr.out).mono ?_
        rintro e w2 ⟨rfl, hb2⟩
        have HB2 := Lib.hid (HB.out.trans (hb2.mono HB.out.size))
        have HO2 := Lib.hid (ownR_below HO.out hb2)
        clear hb2
        have hbA := (HB2.out.alloc HB2.out.size (Obj.cells #[.string R.n, .int .u16 (R.k : Nat), .int .u16 (R.c : Nat), .int .u32 (R.t : Nat), .string R.d] 46))
        have hbB := hbA.alloc hbA.size (Obj.cells #[.string R.n, .int .u16 (R.k : Nat), .int .u16 (R.c : Nat), .int .u32 (R.t : Nat), .string R.d] 46)
        have HO3 := Lib.hid (ownR_below HO2.out ((((Below.refl _ w2).alloc (Nat.le_refl _) (Obj.cells #[.string R.n, .int .u16 (R.k : Nat), .int .u16 (R.c : Nat), .int .u32 (R.t : Nat), .string R.d] 46))).alloc (by simp) (Obj.cells #[.string R.n, .int .u16 (R.k : Nat), .int .u16 (R.c : Nat), .int .u32 (R.t : Nat), .string R.d] 46)))
        have HBB := Lib.hid hbB
        clear hbA hbB HO2
        go_wp2_with (at_builtin; refine wpList_append_own _ rfl _ _ 24 rfl w.heap.size 46 i0 zR 5 40 Tryz.underlying24 hi hz0 hz1 hz2 rfl (by decide) _ _ _ rfl HO3.out ⟨w2.heap.size + 1, 0, none⟩ 1 1 (rf R) rfl rfl (newR w2 _ R) (oneR R) ?q4 ?q5 HBB.out.size ?_)
        case q4 => have := HLj.out; unfold maxLen; omega
        case q5 => have := HLj.out; omega
        intro v' w3 hown2 hgrow hnil
        have hb3 := HBB.out.grown hgrow HBB.out.size (fun k hk => (HO3.out.lt k hk).1)
        have hown3 : w3.ownsRow w.heap.size 46 5 v' (l ++ [R]).length ((l ++ [R]).flatMap rf) := by
          rw [List.length_append, List.flatMap_append]
          simpa using hown2
        have HF := Lib.hid (And.intro hown3 hb3)
        clear hown2 hown3 hgrow hnil hb3
        have hw16 : IntKind.u16.wrap ((j : Int) + 1) = ((j + 1 : Nat) : Int) := by rw [u16w _ (by omega) (by omega)]; omega
        go_wp2_with fail
        go_roundw
        case rel => exact ⟨j + 1, (X : Nat), l ++ [R], hlt, by first | rfl | (rw [hw16]) | go_num, rfl, by omega, hr2, by rw [List.length_append, HLj.out]; rfl, HF.out.1, HT.out, HF.out.2⟩
        case measure => simp [intOf]; omega
    · obtain rfl : j = n := by omega
      obtain ⟨A', cap', rfl, hS⟩ := Sl.own rf_len hown
      rw [Nat.sub_self, rsT] at hT
      have hT2 : rsT s j p = some (l, P) := by rw [hT]; simp
      have hfr : ∀ a, A' = some a → w.heap.size ≤ a.block := fun a ha => (hown.lt a.block (by rw [ha]; rfl)).1
      have HF := Lib.hid (And.intro hS (And.intro hbel hfr))
      have HT := Lib.hid hT2
      have g1 : decide ((j : Int) < (j : Int)) = false := by simp
      clear hown hT hT2 hS hbel hfr
      go_wp2_with fail
      go_ret2
      rw [HT.out]
      exact ⟨A', cap', rfl, HF.out.1, HF.out.2.1, HF.out.2.2⟩
end Go.Proofs.YtnakljbginbenaaGreatDoor
