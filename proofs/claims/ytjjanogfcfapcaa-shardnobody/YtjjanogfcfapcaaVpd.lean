/- The contracts of slices.Clone of records; of the program's shard: Room, Keys, Len. -/
import Derived.Test.YtjjanogfcfapcaaVpc
namespace Go.Proofs.Ytjjanogfcfapcaa
open Go.RowKit
set_option linter.unusedVariables false

def zR : Value := .agg #[.string ⟨#[]⟩, .int .u16 0, .int .u16 0, .int .u32 0, .string ⟨#[]⟩]
theorem elR : (Try.prog.info? 89).map (fun i => (i.zero, i.size, i.bytes)) = some (some zR, 5, 40) := by kernel_rfl
/-- A slice that the call has made: its block is new. -/
def Nw (B : Nat) (A : Option Addr) : Prop := ∀ b off, A = some ⟨b, off, none⟩ → B ≤ b
theorem Sl.owned {α : Type} {f : α → List Value} {w : World} {B : Nat} {e : TypeId} {k : Nat} {A : Option Addr} {cap : Nat} {l : List α} (hk : ∀ r, (f r).length = k) (h : w.ownsRow B e k (.slice A l.length cap) l.length (l.flatMap f)) : Sl f w A cap l ∧ Nw B A := by
  obtain ⟨A', cap', e1, s⟩ := Sl.own hk h
  simp only [Value.slice.injEq, true_and] at e1
  obtain ⟨rfl, rfl⟩ := e1
  refine ⟨s, fun b off hb => ?_⟩
  rcases h.2 with ⟨h1, _⟩ | ⟨g, c, cur, h1, h2, _⟩
  · simp only [Value.slice.injEq] at h1
    rw [h1.1] at hb
    cases hb
  · simp only [Value.slice.injEq] at h1
    rw [h1.1] at hb
    cases hb
    exact h2
set_option maxRecDepth 100000 in
set_option maxHeartbeats 1000000 in
theorem clone_any (A : Option Addr) (cap : Nat) (l : List Rc) (hs : l.length ≤ 3518437208883) (w : World) (hI : Sl rf w A cap l) :
    Calls Try.prog 38 #[.slice A l.length cap] w fun e w' => ∃ A' cap', e = .returned (.slice A' l.length cap') ∧ Sl rf w' A' cap' l ∧ Nw w.heap.size A' ∧ Below w.heap.size w w' := by
  have qn : ∀ (w : World) (a : Option Addr) (n c n' c' : Nat), (binOp .eql 36 (.slice a n c) (.slice none n' c')).run Try.prog w = .ok (.bool a.isNone) w := fun w a n c n' c' => Lib.run_eql_slice_nil w _ _ a n c n' c' Try.underlying36
  cases A with
  | none =>
    obtain rfl := hI.empty rfl
    have hz := hI.nl rfl
    subst hz
    go_enter Try.func38, Try.ntmps38
    go_wp2_with fail
    go_ret
    exact ⟨none, 0, rfl, Sl.nil _ _, (fun b off h => by cases h), Below.refl _ _⟩
  | some a =>
    obtain ⟨i0, hi, hz0, hz1, hz2⟩ := el_of elR
    have HI := Lib.hid hI.src
    clear hI
    go_enter Try.func38, Try.ntmps38
    go_wp2_with (at_builtin; refine wpList_append_own _ rfl _ _ 36 rfl w.heap.size 89 i0 zR 5 40 Try.underlying36 hi hz0 hz1 hz2 rfl (by decide) _ _ _ rfl (World.ownsRow_made w #[] 0 (Nat.le_refl _) (Nat.zero_le _) (by simp)) a l.length cap (l.flatMap rf) rfl (flat_len rf_len l) ?qc2 (rf_one l) ?qc4 ?qc5 ?qc6 ?_)
    case qc2 =>
      intro j u hj
      exact Lib.cell?_alloc_some _ (HI.out j u hj)
    case qc4 => unfold maxLen; omega
    case qc5 => omega
    case qc6 => simp
    intro v' w1 hown hgrow hnil
    have hown2 : w1.ownsRow w.heap.size 89 5 v' l.length (l.flatMap rf) := by simpa using hown
    have hb := ((Below.refl _ w).alloc (Nat.le_refl _) (Obj.cells #[] 89)).grown hgrow (by simp) (by intro k hk; simp [Value.ownBlock] at hk; omega)
    obtain ⟨A', cap', rfl⟩ := ownR_form hown2
    have HF := Lib.hid (And.intro (Sl.owned rf_len hown2) hb)
    clear hown hown2 hgrow hnil hb
    go_wp2_with fail
    go_ret
    exact ⟨A', cap', rfl, HF.out.1.1, HF.out.1.2, HF.out.2⟩

set_option maxHeartbeats 1000000 in
theorem room_nil (w : World) : Calls Try.prog 17 #[.pointer none] w fun e w' => e = .returned (.int .i64 0) ∧ w' = w := by
  go_enter Try.func17, Try.ntmps17
  go_wp2_with fail
  go_ret
  exact ⟨rfl, rfl⟩
set_option maxHeartbeats 1000000 in
theorem room_any {w : World} {h : Nat} {K : Ly} {M : Ms Ev} {f : Qu → Option Nat} {N : Nat} {l : List W.Ti} (v : Sv w h K M f N l) :
    Calls Try.prog 17 #[.pointer (some ⟨h, 0, none⟩)] w fun e w' => e = .returned (.int .i64 (M.c.length : Nat)) ∧ w' = w := by
  have HC := Lib.hid (cap_any v.sp)
  have c0 := v.c0
  clear v
  generalize M.c.length = n at *
  go_enter Try.func17, Try.ntmps17
  go_wp2_with (go_at_call 34; (with_reducible (refine HC.out.mono ?_)); rintro e w1 ⟨rfl, rfl⟩)
  go_ret
  exact ⟨rfl, rfl⟩
theorem keys_all (c : List (Ce En)) : keysOf c = (allC c c.length).map (qAt c) := by
  unfold keysOf allC
  have e : c = (List.range c.length).map fun i => c.getD i Z0 := by
    apply List.ext_getElem
    · simp
    · intro i h1 h2
      simp [h1]
  have key : ∀ l : List Nat, ((l.map fun i => c.getD i Z0).filter (·.u)).map (·.x.q) = (l.filter (us c)).map (qAt c) := by
    intro l
    rw [List.filter_map, List.map_map]
    rfl
  calc (c.filter (·.u)).map (·.x.q) = (((List.range c.length).map fun i => c.getD i Z0).filter (·.u)).map (·.x.q) := by rw [← e]
    _ = _ := key _
theorem keys_len (c : List (Ce En)) : (keysOf c).length = cnt c := by unfold keysOf cnt; rw [List.length_map]
theorem all_pc (c : List (Ce Ev)) (k : Nat) : allC (pc c) k = allC c k := by
  unfold allC
  rw [show us (pc c) = us c from funext (us_pc c)]
theorem cnt_pc (c : List (Ce Ev)) : cnt (pc c) = cnt c := by
  unfold cnt pc
  rw [List.filter_map, List.length_map]
  rfl
theorem newQ (W : World) (x : Qu) : ∀ j u, (qf x)[j]? = some u → (W.alloc (.cells #[.string x.n, .int .u16 (x.k : Nat), .int .u16 (x.c : Nat)] 35)).cell? ((⟨W.heap.size, 0, none⟩ : Addr).add j) = some u := fun j u hj => by
  have h := heap_alloc_new W (Obj.cells #[.string x.n, .int .u16 (x.k : Nat), .int .u16 (x.c : Nat)] 35)
  rw [Addr.add_lit, Nat.zero_add, blk_cell h j, ← hj]
  simp [qf]
theorem qAt_pc (c : List (Ce Ev)) (k : Nat) : qAt (pc c) k = (c.getD k Z0).x.e.q := by unfold qAt; rw [pc_getD]; rfl
set_option maxHeartbeats 1000000 in
theorem keys_nil (w : World) : Calls Try.prog 14 #[.pointer none] w fun e w' => e = .returned (.slice none 0 0) ∧ w' = w := by
  go_enter Try.func14, Try.ntmps14
  go_wp2_with fail
  go_ret
  exact ⟨rfl, rfl⟩
set_option maxRecDepth 100000 in
set_option maxHeartbeats 4000000 in
theorem keys_any {w : World} {h : Nat} {K : Ly} {M : Ms Ev} {f : Qu → Option Nat} {N : Nat} {l : List W.Ti} (v : Sv w h K M f N l) :
    Calls Try.prog 14 #[.pointer (some ⟨h, 0, none⟩)] w fun e w' => ∃ A cap, e = .returned (.slice A (keysOf (pc M.c)).length cap) ∧ Sl qf w' A cap (keysOf (pc M.c)) ∧ Nw w.heap.size A ∧ Below w.heap.size w w' := by
  obtain ⟨i0, hi, hz0, hz1, hz2⟩ := el_of elQ
  have HC := Lib.hid (all_any v.sp)
  have HV := Lib.hid v
  have c0 := v.c0
  have hkl : (keysOf (pc M.c)).length = (allM M).length := by rw [keys_all, List.length_map, pc_len, all_pc]; rfl
  have hka : ∀ j (hj : j < (allM M).length), (keysOf (pc M.c))[j]'(by rw [hkl]; exact hj) = (M.c.getD (allM M)[j] Z0).x.e.q := fun j hj => by
    rw [← qAt_pc]
    simp only [keys_all, pc_len, all_pc, List.getElem_map]
    rfl
  have hm : ∀ j (hj : j < (allM M).length), (allM M)[j] < M.c.length ∧ us M.c (allM M)[j] = true := fun j hj => all_mem.1 (List.getElem_mem hj)
  have h64 : (allM M).length ≤ 64 := Nat.le_trans (allC_le _ _) v.sp.ok.n64
  have HM := Lib.hid (And.intro hka hm)
  clear v hka hm
  generalize keysOf (pc M.c) = ks at *
  obtain ⟨al, HAL⟩ : ∃ al, Hid (allM M = al) := ⟨_, Lib.hid rfl⟩
  simp only [HAL.out] at HC HM h64 hkl
  rw [hkl]
  have HKL := Lib.hid hkl
  clear hkl
  go_enter Try.func14, Try.ntmps14
  go_wp2_with (go_at_call 32; (with_reducible (refine HC.out.mono ?_)); rintro e w1 ⟨A1, c1, rfl, hn1, hb1⟩; have HN := Lib.hid hn1; have HB := Lib.hid hb1; clear hn1 hb1)
  go_loopw [3, 5, 6, 7, 16] (fun v _ _ _ x wr => ∃ j : Nat, j ≤ al.length ∧ x = .int .i64 j ∧ wr.ownsRow w1.heap.size 35 3 v j ((ks.take j).flatMap qf) ∧ Below w1.heap.size w1 wr) (fun _ _ _ _ x _ => al.length - (intOf x).toNat)
  case atStart => exact ⟨0, Nat.zero_le _, rfl, World.ownsRow_nil _ _ _ _, Below.refl _ _⟩
  case round =>
    obtain ⟨j, hj, rfl, hown, hbel⟩ := hrel
    obtain ⟨Av, cv, rfl⟩ := ownR_form hown
    by_cases hlt : j < al.length
    · have d1 : decide ((j : Int) < (al.length : Nat)) = true := by simp; omega
      obtain ⟨b, off, rfl, hc⟩ := HN.out j hlt
      have e0 := (hbel.cell (p := ⟨b, off + j, none⟩) (cell_size hc)).trans hc
      have s0 : (0 : Int) ≤ (j : Nat) := by omega
      have s1 : (j : Int) < (al.length : Nat) := by omega
      obtain ⟨hk, hu⟩ := HM.out.2 j hlt
      have HK := Lib.hid (HM.out.1 j hlt)
      obtain ⟨k, hkk⟩ : ∃ k, al[j] = k := ⟨_, rfl⟩
      rw [hkk] at e0 hk hu HK
      have hvr := HV.out.low (HB.out.trans (hbel.mono HB.out.size))
      have HG := Lib.hid (get_k hvr.sp hk hu)
      have c0 := hvr.c0
      obtain ⟨x, hx⟩ : ∃ x, (M.c.getD k Z0).x = x := ⟨_, rfl⟩
      rw [hx] at HG HK
      have HOB := Lib.hid (And.intro hown hbel)
      clear hvr hown hbel hkk hx hk hu hc
      go_upto_region 8 with (first | (refine wpList_store_row rfl 39 _ _ rfl w3.heap.size _ rfl rfl 39 _ HNw.out (infoEa x) rfl (evL_one x) ?_) | (go_at_call 33; (with_reducible (refine HG.out.mono ?_)); rintro e w3 ⟨rfl, hb3⟩; have HB3 := Lib.hid hb3; have HNw := Lib.hid (Blk.new w3 39 zE); unfold zE at HNw; clear hb3))
      obtain ⟨k4, b4⟩ := box_of w3 x
      have b34 := HB3.out.trans (b4.mono HB3.out.size)
      have HOB4 := Lib.hid (And.intro (ownR_below HOB.out.1 b34) (HOB.out.2.trans (b34.mono HOB.out.2.size)))
      unfold zE at HOB4 k4
      have HK4 := Lib.hid k4
      clear k4 b4 b34 HNw HG HB3 HOB e0 c0
      generalize (w3.alloc (Obj.cells #[.string ⟨#[]⟩, .int .u16 0, .int .u16 0, .slice none 0 0, .int .i64 0, .int .i64 0, .int .u64 0] 39)).setRow w3.heap.size (evL x).toArray = w4 at *
      generalize w3.heap.size = r at *
      have q0 := HK4.out.cell 0
      have q1 := HK4.out.cell 1
      have q2 := HK4.out.cell 2
      unfold evL at q0 q1 q2
      simp only [List.getElem?_toArray, List.getElem?_cons_zero, List.getElem?_cons_succ] at q0 q1 q2
      clear HK4
      have HO5 := Lib.hid (HOB4.out.1.alloc (Obj.cells #[.string x.e.q.n, .int .u16 (x.e.q.k : Nat), .int .u16 (x.e.q.c : Nat)] 35))
      have HB5 := Lib.hid (HOB4.out.2.alloc HOB4.out.2.size (Obj.cells #[.string x.e.q.n, .int .u16 (x.e.q.k : Nat), .int .u16 (x.e.q.c : Nat)] 35))
      clear HOB4
      go_wp2_with (at_builtin; (refine wpList_append_own _ rfl _ _ 43 rfl w1.heap.size 35 i0 (qV ⟨⟨#[]⟩, 0, 0⟩) 3 24 Try.underlying43 hi hz0 hz1 hz2 rfl (by decide) _ _ _ rfl HO5.out ⟨w4.heap.size, 0, none⟩ 1 1 (qf x.e.q) rfl rfl (newQ w4 x.e.q) ?q3 ?q4 ?q5 HB5.out.size ?_))
      case q3 => intro u hu; simp [qf] at hu; rcases hu with rfl | rfl | rfl <;> rfl
      case q4 => unfold maxLen; omega
      case q5 => omega
      intro v' w6 hown2 hgrow hnil
      have hb6 := HB5.out.grown hgrow HB5.out.size (fun k hk => (HO5.out.lt k hk).1)
      have ht : ks.take (j + 1) = ks.take j ++ [x.e.q] := by rw [List.take_add_one, List.getElem?_eq_getElem (by rw [HKL.out]; exact hlt), HK.out]; rfl
      rw [show (ks.take j).flatMap qf ++ qf x.e.q = (ks.take (j + 1)).flatMap qf by rw [ht, List.flatMap_append]; simp] at hown2
      have HF := Lib.hid (And.intro hown2 hb6)
      clear hown2 hgrow hnil hb6 ht q0 q1 q2
      go_wp2_with fail
      go_roundw
      case rel => exact ⟨j + 1, hlt, by go_num, HF.out.1, HF.out.2⟩
      case measure => simp [intOf]; omega
    · obtain rfl : j = al.length := by omega
      have d1 : decide ((al.length : Int) < (al.length : Nat)) = false := by simp
      rw [← HKL.out, List.take_length] at hown
      have HF := Lib.hid (And.intro (Sl.owned qf_len hown) hbel)
      clear hown hbel
      go_wp2_with fail
      go_ret
      rw [← HKL.out]
      exact ⟨Av, cv, rfl, HF.out.1.1, (fun b off hb => Nat.le_trans HB.out.size (HF.out.1.2 b off hb)), HB.out.trans (HF.out.2.mono HB.out.size)⟩

set_option maxHeartbeats 1000000 in
theorem len_any_s {w : World} {h : Nat} {K : Ly} {M : Ms Ev} {f : Qu → Option Nat} {N : Nat} {l : List W.Ti} (v : Sv w h K M f N l) :
    Calls Try.prog 16 #[.pointer (some ⟨h, 0, none⟩)] w fun e w' => e = .returned (.int .i64 (cnt M.c : Nat)) ∧ Below w.heap.size w w' := by
  have HC := Lib.hid (keys_any v)
  rw [keys_len, cnt_pc] at HC
  clear v
  generalize cnt M.c = n at *
  go_enter Try.func16, Try.ntmps16
  go_wp2_with (go_at_call 14; (with_reducible (refine HC.out.mono ?_)); rintro e w1 ⟨A, cap, rfl, _, _, hb⟩; have HB := Lib.hid hb; clear hb)
  go_ret
  exact ⟨rfl, HB.out⟩
set_option maxHeartbeats 1000000 in
theorem len_nil_s (w : World) : Calls Try.prog 16 #[.pointer none] w fun e w' => e = .returned (.int .i64 0) ∧ w' = w := by
  have HC := Lib.hid (keys_nil w)
  go_enter Try.func16, Try.ntmps16
  go_wp2_with (go_at_call 14; (with_reducible (refine HC.out.mono ?_)); rintro e w1 ⟨rfl, rfl⟩)
  go_ret
  exact ⟨rfl, rfl⟩
end Go.Proofs.Ytjjanogfcfapcaa
