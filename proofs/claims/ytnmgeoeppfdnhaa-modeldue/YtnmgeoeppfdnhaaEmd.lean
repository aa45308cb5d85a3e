/- The document's model: derrickref13.Lookup and Drop. -/
import Derived.Test.YtnmgeoeppfdnhaaEmc
namespace Go.Proofs.Ytnmgeoeppfdnhaa.D
open Go.RowKit
set_option linter.unusedVariables false

/-- What is looked for, as it lies in memory. -/
def lookV (l : List Ev) (q : Qu) (now : Nat) : Ev × Bool :=
  match findL (pm l) q with
  | some k => if now < (l.getD k default).e.ex then (l.getD k default, true) else (default, false)
  | none => (default, false)
theorem lookV_pure (l : List Ev) (q : Qu) (now : Nat) : ((lookV l q now).1.e, (lookV l q now).2) = lookL (pm l) q now := by
  unfold lookV lookL
  rw [findL_ent]
  cases hf : findL (pm l) q with
  | none => rfl
  | some k =>
    have hk := (findL_some hf).1
    rw [pm_len] at hk
    simp only [Option.map_some]
    rw [pm_getD l k hk, show l.getD k default = l[k] by simp [hk]]
    split <;> rfl
theorem find_lt {l : List Ev} {q : Qu} {k : Nat} (h : findL (pm l) q = some k) : k < l.length ∧ (l.getD k default).e.q = q := by
  obtain ⟨h1, h2⟩ := findL_some h
  rw [pm_len] at h1
  rw [pm_getD l k h1] at h2
  exact ⟨h1, by rw [show l.getD k default = l[k] by simp [h1]]; exact h2⟩

set_option maxRecDepth 100000 in
set_option maxHeartbeats 1000000 in
theorem rlook_any (A : Option Addr) (cap : Nat) (l : List Ev) (hl : l.length ≤ 1000) (q : Qu) (now : Nat) (w : World) (hI : Sl evL w A cap l) :
    Calls Try.prog 24 #[.slice A l.length cap, .agg #[.string q.n, .int .u16 (q.k : Nat), .int .u16 (q.c : Nat)], .int .u64 (now : Nat)] w fun e w' => e = .returned (.tuple #[evV (lookV l q now).1, .bool (lookV l q now).2]) ∧ Below w.heap.size w w' := by
  have hF := fi_of w q
  have HC := Lib.hid (find_any A cap l hl q _ (hI.below' hF.b))
  have HI := Lib.hid (hI.below' hF.b)
  have HF := Lib.hid hF
  unfold zE qf at HC HF HI
  unfold lookV
  clear hF hI
  cases hk : findL (pm l) q with
  | none =>
    rw [hk] at HC
    simp only [atI] at HC
    clear hk
    go_enter Try.func24, Try.ntmps24
    go_upto_region 1 with (fail)
    generalize (w.alloc (Obj.cells #[.string q.n, .int .u16 (q.k : Nat), .int .u16 (q.c : Nat)] 25)).alloc (Obj.cells #[.string ⟨#[]⟩, .int .u16 0, .int .u16 0, .slice none 0 0, .int .i64 0, .int .i64 0, .int .u64 0] 35) = w1 at *
    obtain ⟨b0, b1, b2⟩ := q_cells (q := q) HF.out.bq
    go_upto_region 2 with (go_at_call 15; (with_reducible (refine (HC.out).mono ?_)); rintro e w2 ⟨rfl, hb2⟩; have HB2 := Lib.hid hb2; clear hb2)
    clear b0 b1 b2
    have HF3 := Lib.hid (And.intro (HF.out.br.eq (HB2.out.block _ HF.out.br.lt)) (HF.out.b.trans (HB2.out.mono HF.out.b.size)))
    unfold zE at HF3
    clear HF HB2 HC HI
    go_wp2_with (refine wpList_store_row rfl 35 _ _ rfl (w.heap.size + 1) _ rfl rfl 35 _ HF3.out.1 infoE rfl (evL_one default) ?_)
    exact ret_e2 (evL default).toArray rfl rfl rfl rfl rfl (setRow_heap _ _ _ _ _ _ HF3.out.1) ⟨rfl, setRow_below HF3.out.2 (by omega) _⟩
  | some k =>
    obtain ⟨hkl, _⟩ := find_lt hk
    rw [hk] at HC
    simp only [atI] at HC
    simp only
    clear hk
    have s0 : (0 : Int) ≤ (k : Nat) := by omega
    have s1 : (k : Int) < (l.length : Nat) := by omega
    have s2 : ((k : Int) < 0) = False := by simp
    have hg : l.getD k default = l[k] := by simp [hkl]
    rw [hg]
    obtain ⟨b, off, rfl, hbs, hr⟩ := sl_ev HI.out k hkl
    have HR := Lib.hid (fun (Wx : World) (hW : Below ((w.alloc (Obj.cells #[.string q.n, .int .u16 (q.k : Nat), .int .u16 (q.c : Nat)] 25)).alloc (Obj.cells #[.string ⟨#[]⟩, .int .u16 0, .int .u16 0, .slice none 0 0, .int .i64 0, .int .i64 0, .int .u64 0] 35)).heap.size ((w.alloc (Obj.cells #[.string q.n, .int .u16 (q.k : Nat), .int .u16 (q.c : Nat)] 25)).alloc (Obj.cells #[.string ⟨#[]⟩, .int .u16 0, .int .u16 0, .slice none 0 0, .int .i64 0, .int .i64 0, .int .u64 0] 35)) Wx) => show Wx.rangeAt b (off + k * 7) (evL l[k]) from fun i u hi => (hW.cell (p := ⟨b, off + k * 7 + i, none⟩) hbs).trans (hr i u hi))
    clear hr HI hbs hg
    generalize l[k] = x at *
    obtain ⟨V, HV⟩ : ∃ V : Ev × Bool, Hid ((if now < x.e.ex then (x, true) else (default, false)) = V) := ⟨_, Lib.hid rfl⟩
    rw [HV.out]
    go_enter Try.func24, Try.ntmps24
    go_upto_region 1 with (fail)
    generalize (w.alloc (Obj.cells #[.string q.n, .int .u16 (q.k : Nat), .int .u16 (q.c : Nat)] 25)).alloc (Obj.cells #[.string ⟨#[]⟩, .int .u16 0, .int .u16 0, .slice none 0 0, .int .i64 0, .int .i64 0, .int .u64 0] 35) = w1 at *
    obtain ⟨b0, b1, b2⟩ := q_cells (q := q) HF.out.bq
    go_upto_region 2 with (go_at_call 15; (with_reducible (refine (HC.out).mono ?_)); rintro e w2 ⟨rfl, hb2⟩; have HB2 := Lib.hid hb2; clear hb2)
    clear b0 b1 b2
    have HF3 := Lib.hid (And.intro (HF.out.br.eq (HB2.out.block _ HF.out.br.lt)) (HF.out.b.trans (HB2.out.mono HF.out.b.size)))
    have HR3 := Lib.hid (HR.out _ HB2.out)
    unfold zE at HF3
    clear HF HB2 HC HR
    have c6 : w2.cell? ⟨b, off + k * 7 + 6, none⟩ = some (.int .u64 (x.e.ex : Nat)) := HR3.out 6 _ rfl
    by_cases hn : now < x.e.ex
    · have HV2 := Lib.hid (HV.out.symm.trans (if_pos hn))
      clear HV
      have hn2 : ¬ x.e.ex ≤ now := by omega
      go_wp2_with (first | (refine wpList_store_row rfl 35 _ _ rfl (w.heap.size + 1) _ rfl rfl 35 _ HF3.out.1 (infoEa _) rfl (evL_one x) ?_) | (refine wpList_load_mid rfl 35 _ rfl b (off + k * 7) rfl _ _ HR3.out Try.underlying35 rfl (infoEv _) ?_))
      exact ret_e2 (evL x).toArray rfl rfl rfl rfl rfl (setRow_heap _ _ _ _ _ _ HF3.out.1) ⟨by rw [HV2.out]; rfl, setRow_below HF3.out.2 (by omega) _⟩
    · have HV2 := Lib.hid (HV.out.symm.trans (if_neg hn))
      clear HV
      have hn2 : x.e.ex ≤ now := by omega
      go_wp2_with (refine wpList_store_row rfl 35 _ _ rfl (w.heap.size + 1) _ rfl rfl 35 _ HF3.out.1 infoE rfl (evL_one default) ?_)
      exact ret_e2 (evL default).toArray rfl rfl rfl rfl rfl (setRow_heap _ _ _ _ _ _ HF3.out.1) ⟨by rw [HV2.out]; rfl, setRow_below HF3.out.2 (by omega) _⟩
end Go.Proofs.Ytnmgeoeppfdnhaa.D
