/- The contract of derrickref12.with: its region of three slices, one lemma for each state (written by tools/gen_vdc.py). -/
import Derived.Test.YtjjanogfcfapcaaVdb
namespace Go.Proofs.Ytjjanogfcfapcaa.D
open Go.RowKit
set_option linter.unusedVariables false

/-- The operations of the region. -/
noncomputable def wOps : Array Oper := match Try.f47.body with | some (.seq _ (.seq (.region _ ops _) _)) => ops | _ => #[]
theorem w0 : ∃ o, wOps[0]? = some o ∧ o.guard = none ∧ o.dst = some 12 ∧ o.op = .buildSlice 26 0 #[] := ⟨_, rfl, rfl, rfl, rfl⟩
theorem w4 : ∃ o, wOps[4]? = some o ∧ o.guard = none ∧ o.dst = some 16 ∧ o.op = .buildSlice 27 0 #[] := ⟨_, rfl, rfl, rfl, rfl⟩
theorem w8 : ∃ o, wOps[8]? = some o ∧ o.guard = none ∧ o.dst = some 20 ∧ o.op = .buildSlice 27 0 #[] := ⟨_, rfl, rfl, rfl, rfl⟩
theorem w3 : ∃ o, wOps[3]? = some o ∧ o.guard = none ∧ o.dst = some 15 ∧ o.op = .call { callee := .builtin .append, args := #[.tmp 12, .tmp 14], argTypes := #[26, 26] } := ⟨_, rfl, rfl, rfl, rfl⟩
theorem w7 : ∃ o, wOps[7]? = some o ∧ o.guard = none ∧ o.dst = some 19 ∧ o.op = .call { callee := .builtin .append, args := #[.tmp 16, .tmp 18], argTypes := #[27, 27] } := ⟨_, rfl, rfl, rfl, rfl⟩
theorem w11 : ∃ o, wOps[11]? = some o ∧ o.guard = none ∧ o.dst = some 23 ∧ o.op = .call { callee := .builtin .append, args := #[.tmp 20, .tmp 22], argTypes := #[27, 27] } := ⟨_, rfl, rfl, rfl, rfl⟩
theorem w15 : ∃ o, wOps[15]? = some o ∧ o.guard = none ∧ o.dst = some 11 ∧ o.op = .alloc 29 := ⟨_, rfl, rfl, rfl, rfl⟩
theorem w16 : ∃ o, wOps[16]? = some o ∧ o.guard = none ∧ o.dst = none ∧ o.op = .store 29 (.tmp 11) (.tmp 26) := ⟨_, rfl, rfl, rfl, rfl⟩
theorem w14 : ∃ o, wOps[14]? = some o ∧ o.guard = none ∧ o.dst = some 26 ∧ o.op = .build 29 #[(0, .tmp 15), (1, .tmp 19), (2, .tmp 23), (3, .tmp 25)] := ⟨_, rfl, rfl, rfl, rfl⟩
theorem sB {ops : Array Oper} {o : Oper} {a : Act} {wk : World} {K : Act → World → Prop} {Q : Exit → Act → World → Prop} {E : Prop} {gx kx gu ku gt kt n hh : Nat} (hg : o.guard = none) (ho : o.op = .build 29 #[(0, .tmp 15), (1, .tmp 19), (2, .tmp 23), (3, .tmp 25)]) (h1 : a.eval (.tmp 15) = .slice (some ⟨gx, 0, none⟩) n kx) (h2 : a.eval (.tmp 19) = .slice (some ⟨gu, 0, none⟩) n ku) (h3 : a.eval (.tmp 23) = .slice (some ⟨gt, 0, none⟩) n kt) (h4 : a.eval (.tmp 25) = .int .i64 (hh : Nat))
    (hK : K (a.put o.dst (.agg #[.slice (some ⟨gx, 0, none⟩) n kx, .slice (some ⟨gu, 0, none⟩) n ku, .slice (some ⟨gt, 0, none⟩) n kt, .int .i64 (hh : Nat)])) wk) : if Region.wanted o (yielded ops a.tmps) = true then Oper.wp Try.prog o a wk K Q else E := by
  rw [if_pos (wanted_of hg)]
  have e : Try.prog.built 29 ((#[(0, .tmp 15), (1, .tmp 19), (2, .tmp 23), (3, .tmp 25)] : Array (Nat × Operand)).map fun (i, x) => (i, a.eval x)).toList = some #[.slice (some ⟨gx, 0, none⟩) n kx, .slice (some ⟨gu, 0, none⟩) n ku, .slice (some ⟨gt, 0, none⟩) n kt, .int .i64 (hh : Nat)] := by
    simp only [List.map_toArray, List.map_cons, List.map_nil, h1, h2, h3, h4]
    kernel_rfl
  refine wp_build 29 _ ho (by rw [e]; rfl) ?_
  rw [e]
  exact hK
/-- The frame: what is put into it while the region runs. -/
def fr (d : Dv) (n hh q0 i : Nat) (x : Ev) (u t : Bool) (s11 s12 s15 s16 s19 s20 s23 s26 : Value) : Act :=
  ⟨#[.agg #[.slice (some ⟨d.gx, 0, none⟩) n d.cx, .slice (some ⟨d.gu, 0, none⟩) n d.cu, .slice (some ⟨d.gt, 0, none⟩) n d.ct, .int .i64 (hh : Nat)], .int .i64 (i : Nat), evV x, .bool u, .bool t, .pointer (some ⟨q0, 0, none⟩), undef, .pointer (some ⟨q0 + 1, 0, none⟩), undef, undef, .pointer (some ⟨q0 + 2, 0, none⟩), s11, s12, .pointer (some ⟨q0, 0, none⟩), .slice (some ⟨d.gx, 0, none⟩) n d.cx, s15, s16, .pointer (some ⟨q0, 1, none⟩), .slice (some ⟨d.gu, 0, none⟩) n d.cu, s19, s20, .pointer (some ⟨q0, 2, none⟩), .slice (some ⟨d.gt, 0, none⟩) n d.ct, s23, .pointer (some ⟨q0, 3, none⟩), .int .i64 (hh : Nat), s26, undef, undef, undef, undef, undef, undef, undef, undef, undef, undef, undef, undef, undef, undef, undef, undef], []⟩
structure Cx (Q : Exit → Act → World → Prop) (w1 : World) (B : Nat) (d : Dv) (n : Nat) (c : List (Ce Ev)) (hh r q0 i : Nat) (x : Ev) (u t : Bool) : Prop where
  D : Dw B w1 d c
  hc : c.length = n
  h1 : 1 ≤ n
  h64 : n ≤ 64
  hr : Blk w1 r 29 zD
  hQ : ∀ (p : Nat) (s12 s15 s16 s19 s20 s23 s26 : Value) (wx : World), WithR w1 r n hh c (.pointer (some ⟨p, 0, none⟩)) wx → Q .normal (fr d n hh q0 i x u t (.pointer (some ⟨p, 0, none⟩)) s12 s15 s16 s19 s20 s23 s26) wx
section
variable {Q : Exit → Act → World → Prop} {w1 : World} {B : Nat} {d : Dv} {n : Nat} {c : List (Ce Ev)} {hh r q0 i : Nat} {x : Ev} {u t : Bool}
set_option maxRecDepth 100000
theorem m22211 (C : Cx Q w1 B d n c hh r q0 i x u t) (gX : Nat) (kX : Nat) (gU : Nat) (kU : Nat) (gT : Nat) (kT : Nat) (p : Nat) (v12 : Value) (v16 : Value) (v20 : Value) (wk : World) (h : St w1 wk n c (some (gX, kX)) (some (gU, kU)) (some (gT, kT)) (some p)) : wpAnyH Try.prog .any wOps Q (fun wq => Below w1.heap.size w1 wq) 1 #[true, true, true, true, true, true, true, true, true, true, true, true, true, true, true, true, false] (fr d n hh q0 i x u t (.pointer (some ⟨p, 0, none⟩)) v12 (.slice (some ⟨gX, 0, none⟩) n kX) v16 (.slice (some ⟨gU, 0, none⟩) n kU) v20 (.slice (some ⟨gT, 0, none⟩) n kT) (.agg #[(.slice (some ⟨gX, 0, none⟩) n kX), (.slice (some ⟨gU, 0, none⟩) n kU), (.slice (some ⟨gT, 0, none⟩) n kT), .int .i64 (hh : Nat)])) wk := by
  refine wpAnyH_ready (rs := [16]) (by kernel_rfl) (by simp) ?_
  obtain ⟨o, h16, hg, hd, ho⟩ := w16
  refine AllReadyH.cons h16 (fun K hK => ?_) AllReadyH.nil
  refine sS C.hr h hg ho (hh := hh) rfl rfl fun wB hx hb => hK.out _ _ hb fun _ => ?_
  rw [hd]
  refine wpAnyH_done (by kernel_rfl) ?_ _
  exact C.hQ p _ _ _ _ _ _ _ wB hx
theorem m22201 (C : Cx Q w1 B d n c hh r q0 i x u t) (gX : Nat) (kX : Nat) (gU : Nat) (kU : Nat) (gT : Nat) (kT : Nat) (v12 : Value) (v16 : Value) (v20 : Value) (wk : World) (h : St w1 wk n c (some (gX, kX)) (some (gU, kU)) (some (gT, kT)) none) : wpAnyH Try.prog .any wOps Q (fun wq => Below w1.heap.size w1 wq) 2 #[true, true, true, true, true, true, true, true, true, true, true, true, true, true, true, false, false] (fr d n hh q0 i x u t undef v12 (.slice (some ⟨gX, 0, none⟩) n kX) v16 (.slice (some ⟨gU, 0, none⟩) n kU) v20 (.slice (some ⟨gT, 0, none⟩) n kT) (.agg #[(.slice (some ⟨gX, 0, none⟩) n kX), (.slice (some ⟨gU, 0, none⟩) n kU), (.slice (some ⟨gT, 0, none⟩) n kT), .int .i64 (hh : Nat)])) wk := by
  refine wpAnyH_ready (rs := [15]) (by kernel_rfl) (by simp) ?_
  obtain ⟨o15, e15, g15, d15, p15⟩ := w15
  refine AllReadyH.cons e15 (fun K hK => ?_) (AllReadyH.nil)
  · refine sA h g15 p15 fun wB hB => hK.out _ _ hB.b fun _ => ?_
    rw [d15]
    exact m22211 C gX kX gU kU gT kT _ v12 v16 v20 wB hB
theorem m22210 (C : Cx Q w1 B d n c hh r q0 i x u t) (gX : Nat) (kX : Nat) (gU : Nat) (kU : Nat) (gT : Nat) (kT : Nat) (p : Nat) (v12 : Value) (v16 : Value) (v20 : Value) (wk : World) (h : St w1 wk n c (some (gX, kX)) (some (gU, kU)) (some (gT, kT)) (some p)) : wpAnyH Try.prog .any wOps Q (fun wq => Below w1.heap.size w1 wq) 2 #[true, true, true, true, true, true, true, true, true, true, true, true, true, true, false, true, false] (fr d n hh q0 i x u t (.pointer (some ⟨p, 0, none⟩)) v12 (.slice (some ⟨gX, 0, none⟩) n kX) v16 (.slice (some ⟨gU, 0, none⟩) n kU) v20 (.slice (some ⟨gT, 0, none⟩) n kT) undef) wk := by
  refine wpAnyH_ready (rs := [14]) (by kernel_rfl) (by simp) ?_
  obtain ⟨o14, e14, g14, d14, p14⟩ := w14
  refine AllReadyH.cons e14 (fun K hK => ?_) (AllReadyH.nil)
  · refine sB g14 p14 rfl rfl rfl rfl (hK.out _ _ h.b fun _ => ?_)
    rw [d14]
    exact m22211 C gX kX gU kU gT kT p v12 v16 v20 wk h
theorem m22110 (C : Cx Q w1 B d n c hh r q0 i x u t) (gX : Nat) (kX : Nat) (gU : Nat) (kU : Nat) (bT : Nat) (p : Nat) (v12 : Value) (v16 : Value) (wk : World) (h : St w1 wk n c (some (gX, kX)) (some (gU, kU)) none (some p)) : wpAnyH Try.prog .any wOps Q (fun wq => Below w1.heap.size w1 wq) 3 #[true, true, true, true, true, true, true, true, true, true, true, false, true, true, false, true, false] (fr d n hh q0 i x u t (.pointer (some ⟨p, 0, none⟩)) v12 (.slice (some ⟨gX, 0, none⟩) n kX) v16 (.slice (some ⟨gU, 0, none⟩) n kU) (.slice (some ⟨bT, 0, none⟩) 0 0) undef undef) wk := by
  refine wpAnyH_ready (rs := [11]) (by kernel_rfl) (by simp) ?_
  obtain ⟨o11, e11, g11, d11, p11⟩ := w11
  refine AllReadyH.cons e11 (fun K hK => ?_) (AllReadyH.nil)
  · refine gT C.D C.hc C.h1 C.h64 h g11 p11 rfl rfl fun gT kT wB hB => hK.out _ _ hB.b fun _ => ?_
    rw [d11]
    exact m22210 C gX kX gU kU gT kT p v12 v16 _ wB hB
theorem m22200 (C : Cx Q w1 B d n c hh r q0 i x u t) (gX : Nat) (kX : Nat) (gU : Nat) (kU : Nat) (gT : Nat) (kT : Nat) (v12 : Value) (v16 : Value) (v20 : Value) (wk : World) (h : St w1 wk n c (some (gX, kX)) (some (gU, kU)) (some (gT, kT)) none) : wpAnyH Try.prog .any wOps Q (fun wq => Below w1.heap.size w1 wq) 3 #[true, true, true, true, true, true, true, true, true, true, true, true, true, true, false, false, false] (fr d n hh q0 i x u t undef v12 (.slice (some ⟨gX, 0, none⟩) n kX) v16 (.slice (some ⟨gU, 0, none⟩) n kU) v20 (.slice (some ⟨gT, 0, none⟩) n kT) undef) wk := by
  refine wpAnyH_ready (rs := [14, 15]) (by kernel_rfl) (by simp) ?_
  obtain ⟨o14, e14, g14, d14, p14⟩ := w14
  obtain ⟨o15, e15, g15, d15, p15⟩ := w15
  refine AllReadyH.cons e14 (fun K hK => ?_) (AllReadyH.cons e15 (fun K hK => ?_) (AllReadyH.nil))
  · refine sB g14 p14 rfl rfl rfl rfl (hK.out _ _ h.b fun _ => ?_)
    rw [d14]
    exact m22201 C gX kX gU kU gT kT v12 v16 v20 wk h
  · refine sA h g15 p15 fun wB hB => hK.out _ _ hB.b fun _ => ?_
    rw [d15]
    exact m22210 C gX kX gU kU gT kT _ v12 v16 v20 wB hB
theorem m21110 (C : Cx Q w1 B d n c hh r q0 i x u t) (gX : Nat) (kX : Nat) (bU : Nat) (bT : Nat) (p : Nat) (v12 : Value) (wk : World) (h : St w1 wk n c (some (gX, kX)) none none (some p)) : wpAnyH Try.prog .any wOps Q (fun wq => Below w1.heap.size w1 wq) 4 #[true, true, true, true, true, true, true, false, true, true, true, false, true, true, false, true, false] (fr d n hh q0 i x u t (.pointer (some ⟨p, 0, none⟩)) v12 (.slice (some ⟨gX, 0, none⟩) n kX) (.slice (some ⟨bU, 0, none⟩) 0 0) undef (.slice (some ⟨bT, 0, none⟩) 0 0) undef undef) wk := by
  refine wpAnyH_ready (rs := [7]) (by kernel_rfl) (by simp) ?_
  obtain ⟨o7, e7, g7, d7, p7⟩ := w7
  refine AllReadyH.cons e7 (fun K hK => ?_) (AllReadyH.nil)
  · refine gU C.D C.hc C.h1 C.h64 h g7 p7 rfl rfl fun gU kU wB hB => hK.out _ _ hB.b fun _ => ?_
    rw [d7]
    exact m22110 C gX kX gU kU bT p v12 _ wB hB
theorem m22010 (C : Cx Q w1 B d n c hh r q0 i x u t) (gX : Nat) (kX : Nat) (gU : Nat) (kU : Nat) (p : Nat) (v12 : Value) (v16 : Value) (wk : World) (h : St w1 wk n c (some (gX, kX)) (some (gU, kU)) none (some p)) : wpAnyH Try.prog .any wOps Q (fun wq => Below w1.heap.size w1 wq) 4 #[true, true, true, true, true, true, true, true, false, true, true, false, true, true, false, true, false] (fr d n hh q0 i x u t (.pointer (some ⟨p, 0, none⟩)) v12 (.slice (some ⟨gX, 0, none⟩) n kX) v16 (.slice (some ⟨gU, 0, none⟩) n kU) undef undef undef) wk := by
  refine wpAnyH_ready (rs := [8]) (by kernel_rfl) (by simp) ?_
  obtain ⟨o8, e8, g8, d8, p8⟩ := w8
  refine AllReadyH.cons e8 (fun K hK => ?_) (AllReadyH.nil)
  · refine sU h g8 p8 fun wB hB => hK.out _ _ hB.b fun _ => ?_
    rw [d8]
    exact m22110 C gX kX gU kU _ p v12 v16 wB hB
theorem m22100 (C : Cx Q w1 B d n c hh r q0 i x u t) (gX : Nat) (kX : Nat) (gU : Nat) (kU : Nat) (bT : Nat) (v12 : Value) (v16 : Value) (wk : World) (h : St w1 wk n c (some (gX, kX)) (some (gU, kU)) none none) : wpAnyH Try.prog .any wOps Q (fun wq => Below w1.heap.size w1 wq) 4 #[true, true, true, true, true, true, true, true, true, true, true, false, true, true, false, false, false] (fr d n hh q0 i x u t undef v12 (.slice (some ⟨gX, 0, none⟩) n kX) v16 (.slice (some ⟨gU, 0, none⟩) n kU) (.slice (some ⟨bT, 0, none⟩) 0 0) undef undef) wk := by
  refine wpAnyH_ready (rs := [11, 15]) (by kernel_rfl) (by simp) ?_
  obtain ⟨o11, e11, g11, d11, p11⟩ := w11
  obtain ⟨o15, e15, g15, d15, p15⟩ := w15
  refine AllReadyH.cons e11 (fun K hK => ?_) (AllReadyH.cons e15 (fun K hK => ?_) (AllReadyH.nil))
  · refine gT C.D C.hc C.h1 C.h64 h g11 p11 rfl rfl fun gT kT wB hB => hK.out _ _ hB.b fun _ => ?_
    rw [d11]
    exact m22200 C gX kX gU kU gT kT v12 v16 _ wB hB
  · refine sA h g15 p15 fun wB hB => hK.out _ _ hB.b fun _ => ?_
    rw [d15]
    exact m22110 C gX kX gU kU bT _ v12 v16 wB hB
theorem m11110 (C : Cx Q w1 B d n c hh r q0 i x u t) (bX : Nat) (bU : Nat) (bT : Nat) (p : Nat) (wk : World) (h : St w1 wk n c none none none (some p)) : wpAnyH Try.prog .any wOps Q (fun wq => Below w1.heap.size w1 wq) 5 #[true, true, true, false, true, true, true, false, true, true, true, false, true, true, false, true, false] (fr d n hh q0 i x u t (.pointer (some ⟨p, 0, none⟩)) (.slice (some ⟨bX, 0, none⟩) 0 0) undef (.slice (some ⟨bU, 0, none⟩) 0 0) undef (.slice (some ⟨bT, 0, none⟩) 0 0) undef undef) wk := by
  refine wpAnyH_ready (rs := [3]) (by kernel_rfl) (by simp) ?_
  obtain ⟨o3, e3, g3, d3, p3⟩ := w3
  refine AllReadyH.cons e3 (fun K hK => ?_) (AllReadyH.nil)
  · refine gX C.D C.hc C.h1 C.h64 h g3 p3 rfl rfl fun gX kX wB hB => hK.out _ _ hB.b fun _ => ?_
    rw [d3]
    exact m21110 C gX kX bU bT p _ wB hB
theorem m20110 (C : Cx Q w1 B d n c hh r q0 i x u t) (gX : Nat) (kX : Nat) (bT : Nat) (p : Nat) (v12 : Value) (wk : World) (h : St w1 wk n c (some (gX, kX)) none none (some p)) : wpAnyH Try.prog .any wOps Q (fun wq => Below w1.heap.size w1 wq) 5 #[true, true, true, true, false, true, true, false, true, true, true, false, true, true, false, true, false] (fr d n hh q0 i x u t (.pointer (some ⟨p, 0, none⟩)) v12 (.slice (some ⟨gX, 0, none⟩) n kX) undef undef (.slice (some ⟨bT, 0, none⟩) 0 0) undef undef) wk := by
  refine wpAnyH_ready (rs := [4]) (by kernel_rfl) (by simp) ?_
  obtain ⟨o4, e4, g4, d4, p4⟩ := w4
  refine AllReadyH.cons e4 (fun K hK => ?_) (AllReadyH.nil)
  · refine sU h g4 p4 fun wB hB => hK.out _ _ hB.b fun _ => ?_
    rw [d4]
    exact m21110 C gX kX _ bT p v12 wB hB
theorem m21010 (C : Cx Q w1 B d n c hh r q0 i x u t) (gX : Nat) (kX : Nat) (bU : Nat) (p : Nat) (v12 : Value) (wk : World) (h : St w1 wk n c (some (gX, kX)) none none (some p)) : wpAnyH Try.prog .any wOps Q (fun wq => Below w1.heap.size w1 wq) 5 #[true, true, true, true, true, true, true, false, false, true, true, false, true, true, false, true, false] (fr d n hh q0 i x u t (.pointer (some ⟨p, 0, none⟩)) v12 (.slice (some ⟨gX, 0, none⟩) n kX) (.slice (some ⟨bU, 0, none⟩) 0 0) undef undef undef undef) wk := by
  refine wpAnyH_ready (rs := [7, 8]) (by kernel_rfl) (by simp) ?_
  obtain ⟨o7, e7, g7, d7, p7⟩ := w7
  obtain ⟨o8, e8, g8, d8, p8⟩ := w8
  refine AllReadyH.cons e7 (fun K hK => ?_) (AllReadyH.cons e8 (fun K hK => ?_) (AllReadyH.nil))
  · refine gU C.D C.hc C.h1 C.h64 h g7 p7 rfl rfl fun gU kU wB hB => hK.out _ _ hB.b fun _ => ?_
    rw [d7]
    exact m22010 C gX kX gU kU p v12 _ wB hB
  · refine sU h g8 p8 fun wB hB => hK.out _ _ hB.b fun _ => ?_
    rw [d8]
    exact m21110 C gX kX bU _ p v12 wB hB
theorem m21100 (C : Cx Q w1 B d n c hh r q0 i x u t) (gX : Nat) (kX : Nat) (bU : Nat) (bT : Nat) (v12 : Value) (wk : World) (h : St w1 wk n c (some (gX, kX)) none none none) : wpAnyH Try.prog .any wOps Q (fun wq => Below w1.heap.size w1 wq) 5 #[true, true, true, true, true, true, true, false, true, true, true, false, true, true, false, false, false] (fr d n hh q0 i x u t undef v12 (.slice (some ⟨gX, 0, none⟩) n kX) (.slice (some ⟨bU, 0, none⟩) 0 0) undef (.slice (some ⟨bT, 0, none⟩) 0 0) undef undef) wk := by
  refine wpAnyH_ready (rs := [7, 15]) (by kernel_rfl) (by simp) ?_
  obtain ⟨o7, e7, g7, d7, p7⟩ := w7
  obtain ⟨o15, e15, g15, d15, p15⟩ := w15
  refine AllReadyH.cons e7 (fun K hK => ?_) (AllReadyH.cons e15 (fun K hK => ?_) (AllReadyH.nil))
  · refine gU C.D C.hc C.h1 C.h64 h g7 p7 rfl rfl fun gU kU wB hB => hK.out _ _ hB.b fun _ => ?_
    rw [d7]
    exact m22100 C gX kX gU kU bT v12 _ wB hB
  · refine sA h g15 p15 fun wB hB => hK.out _ _ hB.b fun _ => ?_
    rw [d15]
    exact m21110 C gX kX bU bT _ v12 wB hB
theorem m22000 (C : Cx Q w1 B d n c hh r q0 i x u t) (gX : Nat) (kX : Nat) (gU : Nat) (kU : Nat) (v12 : Value) (v16 : Value) (wk : World) (h : St w1 wk n c (some (gX, kX)) (some (gU, kU)) none none) : wpAnyH Try.prog .any wOps Q (fun wq => Below w1.heap.size w1 wq) 5 #[true, true, true, true, true, true, true, true, false, true, true, false, true, true, false, false, false] (fr d n hh q0 i x u t undef v12 (.slice (some ⟨gX, 0, none⟩) n kX) v16 (.slice (some ⟨gU, 0, none⟩) n kU) undef undef undef) wk := by
  refine wpAnyH_ready (rs := [8, 15]) (by kernel_rfl) (by simp) ?_
  obtain ⟨o8, e8, g8, d8, p8⟩ := w8
  obtain ⟨o15, e15, g15, d15, p15⟩ := w15
  refine AllReadyH.cons e8 (fun K hK => ?_) (AllReadyH.cons e15 (fun K hK => ?_) (AllReadyH.nil))
  · refine sU h g8 p8 fun wB hB => hK.out _ _ hB.b fun _ => ?_
    rw [d8]
    exact m22100 C gX kX gU kU _ v12 v16 wB hB
  · refine sA h g15 p15 fun wB hB => hK.out _ _ hB.b fun _ => ?_
    rw [d15]
    exact m22010 C gX kX gU kU _ v12 v16 wB hB
theorem m01110 (C : Cx Q w1 B d n c hh r q0 i x u t) (bU : Nat) (bT : Nat) (p : Nat) (wk : World) (h : St w1 wk n c none none none (some p)) : wpAnyH Try.prog .any wOps Q (fun wq => Below w1.heap.size w1 wq) 6 #[false, true, true, false, true, true, true, false, true, true, true, false, true, true, false, true, false] (fr d n hh q0 i x u t (.pointer (some ⟨p, 0, none⟩)) undef undef (.slice (some ⟨bU, 0, none⟩) 0 0) undef (.slice (some ⟨bT, 0, none⟩) 0 0) undef undef) wk := by
  refine wpAnyH_ready (rs := [0]) (by kernel_rfl) (by simp) ?_
  obtain ⟨o0, e0, g0, d0, p0⟩ := w0
  refine AllReadyH.cons e0 (fun K hK => ?_) (AllReadyH.nil)
  · refine sX h g0 p0 fun wB hB => hK.out _ _ hB.b fun _ => ?_
    rw [d0]
    exact m11110 C _ bU bT p wB hB
theorem m10110 (C : Cx Q w1 B d n c hh r q0 i x u t) (bX : Nat) (bT : Nat) (p : Nat) (wk : World) (h : St w1 wk n c none none none (some p)) : wpAnyH Try.prog .any wOps Q (fun wq => Below w1.heap.size w1 wq) 6 #[true, true, true, false, false, true, true, false, true, true, true, false, true, true, false, true, false] (fr d n hh q0 i x u t (.pointer (some ⟨p, 0, none⟩)) (.slice (some ⟨bX, 0, none⟩) 0 0) undef undef undef (.slice (some ⟨bT, 0, none⟩) 0 0) undef undef) wk := by
  refine wpAnyH_ready (rs := [3, 4]) (by kernel_rfl) (by simp) ?_
  obtain ⟨o3, e3, g3, d3, p3⟩ := w3
  obtain ⟨o4, e4, g4, d4, p4⟩ := w4
  refine AllReadyH.cons e3 (fun K hK => ?_) (AllReadyH.cons e4 (fun K hK => ?_) (AllReadyH.nil))
  · refine gX C.D C.hc C.h1 C.h64 h g3 p3 rfl rfl fun gX kX wB hB => hK.out _ _ hB.b fun _ => ?_
    rw [d3]
    exact m20110 C gX kX bT p _ wB hB
  · refine sU h g4 p4 fun wB hB => hK.out _ _ hB.b fun _ => ?_
    rw [d4]
    exact m11110 C bX _ bT p wB hB
theorem m11010 (C : Cx Q w1 B d n c hh r q0 i x u t) (bX : Nat) (bU : Nat) (p : Nat) (wk : World) (h : St w1 wk n c none none none (some p)) : wpAnyH Try.prog .any wOps Q (fun wq => Below w1.heap.size w1 wq) 6 #[true, true, true, false, true, true, true, false, false, true, true, false, true, true, false, true, false] (fr d n hh q0 i x u t (.pointer (some ⟨p, 0, none⟩)) (.slice (some ⟨bX, 0, none⟩) 0 0) undef (.slice (some ⟨bU, 0, none⟩) 0 0) undef undef undef undef) wk := by
  refine wpAnyH_ready (rs := [3, 8]) (by kernel_rfl) (by simp) ?_
  obtain ⟨o3, e3, g3, d3, p3⟩ := w3
  obtain ⟨o8, e8, g8, d8, p8⟩ := w8
  refine AllReadyH.cons e3 (fun K hK => ?_) (AllReadyH.cons e8 (fun K hK => ?_) (AllReadyH.nil))
  · refine gX C.D C.hc C.h1 C.h64 h g3 p3 rfl rfl fun gX kX wB hB => hK.out _ _ hB.b fun _ => ?_
    rw [d3]
    exact m21010 C gX kX bU p _ wB hB
  · refine sU h g8 p8 fun wB hB => hK.out _ _ hB.b fun _ => ?_
    rw [d8]
    exact m11110 C bX bU _ p wB hB
theorem m11100 (C : Cx Q w1 B d n c hh r q0 i x u t) (bX : Nat) (bU : Nat) (bT : Nat) (wk : World) (h : St w1 wk n c none none none none) : wpAnyH Try.prog .any wOps Q (fun wq => Below w1.heap.size w1 wq) 6 #[true, true, true, false, true, true, true, false, true, true, true, false, true, true, false, false, false] (fr d n hh q0 i x u t undef (.slice (some ⟨bX, 0, none⟩) 0 0) undef (.slice (some ⟨bU, 0, none⟩) 0 0) undef (.slice (some ⟨bT, 0, none⟩) 0 0) undef undef) wk := by
  refine wpAnyH_ready (rs := [3, 15]) (by kernel_rfl) (by simp) ?_
  obtain ⟨o3, e3, g3, d3, p3⟩ := w3
  obtain ⟨o15, e15, g15, d15, p15⟩ := w15
  refine AllReadyH.cons e3 (fun K hK => ?_) (AllReadyH.cons e15 (fun K hK => ?_) (AllReadyH.nil))
  · refine gX C.D C.hc C.h1 C.h64 h g3 p3 rfl rfl fun gX kX wB hB => hK.out _ _ hB.b fun _ => ?_
    rw [d3]
    exact m21100 C gX kX bU bT _ wB hB
  · refine sA h g15 p15 fun wB hB => hK.out _ _ hB.b fun _ => ?_
    rw [d15]
    exact m11110 C bX bU bT _ wB hB
theorem m20010 (C : Cx Q w1 B d n c hh r q0 i x u t) (gX : Nat) (kX : Nat) (p : Nat) (v12 : Value) (wk : World) (h : St w1 wk n c (some (gX, kX)) none none (some p)) : wpAnyH Try.prog .any wOps Q (fun wq => Below w1.heap.size w1 wq) 6 #[true, true, true, true, false, true, true, false, false, true, true, false, true, true, false, true, false] (fr d n hh q0 i x u t (.pointer (some ⟨p, 0, none⟩)) v12 (.slice (some ⟨gX, 0, none⟩) n kX) undef undef undef undef undef) wk := by
  refine wpAnyH_ready (rs := [4, 8]) (by kernel_rfl) (by simp) ?_
  obtain ⟨o4, e4, g4, d4, p4⟩ := w4
  obtain ⟨o8, e8, g8, d8, p8⟩ := w8
  refine AllReadyH.cons e4 (fun K hK => ?_) (AllReadyH.cons e8 (fun K hK => ?_) (AllReadyH.nil))
  · refine sU h g4 p4 fun wB hB => hK.out _ _ hB.b fun _ => ?_
    rw [d4]
    exact m21010 C gX kX _ p v12 wB hB
  · refine sU h g8 p8 fun wB hB => hK.out _ _ hB.b fun _ => ?_
    rw [d8]
    exact m20110 C gX kX _ p v12 wB hB
theorem m20100 (C : Cx Q w1 B d n c hh r q0 i x u t) (gX : Nat) (kX : Nat) (bT : Nat) (v12 : Value) (wk : World) (h : St w1 wk n c (some (gX, kX)) none none none) : wpAnyH Try.prog .any wOps Q (fun wq => Below w1.heap.size w1 wq) 6 #[true, true, true, true, false, true, true, false, true, true, true, false, true, true, false, false, false] (fr d n hh q0 i x u t undef v12 (.slice (some ⟨gX, 0, none⟩) n kX) undef undef (.slice (some ⟨bT, 0, none⟩) 0 0) undef undef) wk := by
  refine wpAnyH_ready (rs := [4, 15]) (by kernel_rfl) (by simp) ?_
  obtain ⟨o4, e4, g4, d4, p4⟩ := w4
  obtain ⟨o15, e15, g15, d15, p15⟩ := w15
  refine AllReadyH.cons e4 (fun K hK => ?_) (AllReadyH.cons e15 (fun K hK => ?_) (AllReadyH.nil))
  · refine sU h g4 p4 fun wB hB => hK.out _ _ hB.b fun _ => ?_
    rw [d4]
    exact m21100 C gX kX _ bT v12 wB hB
  · refine sA h g15 p15 fun wB hB => hK.out _ _ hB.b fun _ => ?_
    rw [d15]
    exact m20110 C gX kX bT _ v12 wB hB
theorem m21000 (C : Cx Q w1 B d n c hh r q0 i x u t) (gX : Nat) (kX : Nat) (bU : Nat) (v12 : Value) (wk : World) (h : St w1 wk n c (some (gX, kX)) none none none) : wpAnyH Try.prog .any wOps Q (fun wq => Below w1.heap.size w1 wq) 6 #[true, true, true, true, true, true, true, false, false, true, true, false, true, true, false, false, false] (fr d n hh q0 i x u t undef v12 (.slice (some ⟨gX, 0, none⟩) n kX) (.slice (some ⟨bU, 0, none⟩) 0 0) undef undef undef undef) wk := by
  refine wpAnyH_ready (rs := [7, 8, 15]) (by kernel_rfl) (by simp) ?_
  obtain ⟨o7, e7, g7, d7, p7⟩ := w7
  obtain ⟨o8, e8, g8, d8, p8⟩ := w8
  obtain ⟨o15, e15, g15, d15, p15⟩ := w15
  refine AllReadyH.cons e7 (fun K hK => ?_) (AllReadyH.cons e8 (fun K hK => ?_) (AllReadyH.cons e15 (fun K hK => ?_) (AllReadyH.nil)))
  · refine gU C.D C.hc C.h1 C.h64 h g7 p7 rfl rfl fun gU kU wB hB => hK.out _ _ hB.b fun _ => ?_
    rw [d7]
    exact m22000 C gX kX gU kU v12 _ wB hB
  · refine sU h g8 p8 fun wB hB => hK.out _ _ hB.b fun _ => ?_
    rw [d8]
    exact m21100 C gX kX bU _ v12 wB hB
  · refine sA h g15 p15 fun wB hB => hK.out _ _ hB.b fun _ => ?_
    rw [d15]
    exact m21010 C gX kX bU _ v12 wB hB
theorem m00110 (C : Cx Q w1 B d n c hh r q0 i x u t) (bT : Nat) (p : Nat) (wk : World) (h : St w1 wk n c none none none (some p)) : wpAnyH Try.prog .any wOps Q (fun wq => Below w1.heap.size w1 wq) 7 #[false, true, true, false, false, true, true, false, true, true, true, false, true, true, false, true, false] (fr d n hh q0 i x u t (.pointer (some ⟨p, 0, none⟩)) undef undef undef undef (.slice (some ⟨bT, 0, none⟩) 0 0) undef undef) wk := by
  refine wpAnyH_ready (rs := [0, 4]) (by kernel_rfl) (by simp) ?_
  obtain ⟨o0, e0, g0, d0, p0⟩ := w0
  obtain ⟨o4, e4, g4, d4, p4⟩ := w4
  refine AllReadyH.cons e0 (fun K hK => ?_) (AllReadyH.cons e4 (fun K hK => ?_) (AllReadyH.nil))
  · refine sX h g0 p0 fun wB hB => hK.out _ _ hB.b fun _ => ?_
    rw [d0]
    exact m10110 C _ bT p wB hB
  · refine sU h g4 p4 fun wB hB => hK.out _ _ hB.b fun _ => ?_
    rw [d4]
    exact m01110 C _ bT p wB hB
theorem m01010 (C : Cx Q w1 B d n c hh r q0 i x u t) (bU : Nat) (p : Nat) (wk : World) (h : St w1 wk n c none none none (some p)) : wpAnyH Try.prog .any wOps Q (fun wq => Below w1.heap.size w1 wq) 7 #[false, true, true, false, true, true, true, false, false, true, true, false, true, true, false, true, false] (fr d n hh q0 i x u t (.pointer (some ⟨p, 0, none⟩)) undef undef (.slice (some ⟨bU, 0, none⟩) 0 0) undef undef undef undef) wk := by
  refine wpAnyH_ready (rs := [0, 8]) (by kernel_rfl) (by simp) ?_
  obtain ⟨o0, e0, g0, d0, p0⟩ := w0
  obtain ⟨o8, e8, g8, d8, p8⟩ := w8
  refine AllReadyH.cons e0 (fun K hK => ?_) (AllReadyH.cons e8 (fun K hK => ?_) (AllReadyH.nil))
  · refine sX h g0 p0 fun wB hB => hK.out _ _ hB.b fun _ => ?_
    rw [d0]
    exact m11010 C _ bU p wB hB
  · refine sU h g8 p8 fun wB hB => hK.out _ _ hB.b fun _ => ?_
    rw [d8]
    exact m01110 C bU _ p wB hB
theorem m01100 (C : Cx Q w1 B d n c hh r q0 i x u t) (bU : Nat) (bT : Nat) (wk : World) (h : St w1 wk n c none none none none) : wpAnyH Try.prog .any wOps Q (fun wq => Below w1.heap.size w1 wq) 7 #[false, true, true, false, true, true, true, false, true, true, true, false, true, true, false, false, false] (fr d n hh q0 i x u t undef undef undef (.slice (some ⟨bU, 0, none⟩) 0 0) undef (.slice (some ⟨bT, 0, none⟩) 0 0) undef undef) wk := by
  refine wpAnyH_ready (rs := [0, 15]) (by kernel_rfl) (by simp) ?_
  obtain ⟨o0, e0, g0, d0, p0⟩ := w0
  obtain ⟨o15, e15, g15, d15, p15⟩ := w15
  refine AllReadyH.cons e0 (fun K hK => ?_) (AllReadyH.cons e15 (fun K hK => ?_) (AllReadyH.nil))
  · refine sX h g0 p0 fun wB hB => hK.out _ _ hB.b fun _ => ?_
    rw [d0]
    exact m11100 C _ bU bT wB hB
  · refine sA h g15 p15 fun wB hB => hK.out _ _ hB.b fun _ => ?_
    rw [d15]
    exact m01110 C bU bT _ wB hB
theorem m10010 (C : Cx Q w1 B d n c hh r q0 i x u t) (bX : Nat) (p : Nat) (wk : World) (h : St w1 wk n c none none none (some p)) : wpAnyH Try.prog .any wOps Q (fun wq => Below w1.heap.size w1 wq) 7 #[true, true, true, false, false, true, true, false, false, true, true, false, true, true, false, true, false] (fr d n hh q0 i x u t (.pointer (some ⟨p, 0, none⟩)) (.slice (some ⟨bX, 0, none⟩) 0 0) undef undef undef undef undef undef) wk := by
  refine wpAnyH_ready (rs := [3, 4, 8]) (by kernel_rfl) (by simp) ?_
  obtain ⟨o3, e3, g3, d3, p3⟩ := w3
  obtain ⟨o4, e4, g4, d4, p4⟩ := w4
  obtain ⟨o8, e8, g8, d8, p8⟩ := w8
  refine AllReadyH.cons e3 (fun K hK => ?_) (AllReadyH.cons e4 (fun K hK => ?_) (AllReadyH.cons e8 (fun K hK => ?_) (AllReadyH.nil)))
  · refine gX C.D C.hc C.h1 C.h64 h g3 p3 rfl rfl fun gX kX wB hB => hK.out _ _ hB.b fun _ => ?_
    rw [d3]
    exact m20010 C gX kX p _ wB hB
  · refine sU h g4 p4 fun wB hB => hK.out _ _ hB.b fun _ => ?_
    rw [d4]
    exact m11010 C bX _ p wB hB
  · refine sU h g8 p8 fun wB hB => hK.out _ _ hB.b fun _ => ?_
    rw [d8]
    exact m10110 C bX _ p wB hB
theorem m10100 (C : Cx Q w1 B d n c hh r q0 i x u t) (bX : Nat) (bT : Nat) (wk : World) (h : St w1 wk n c none none none none) : wpAnyH Try.prog .any wOps Q (fun wq => Below w1.heap.size w1 wq) 7 #[true, true, true, false, false, true, true, false, true, true, true, false, true, true, false, false, false] (fr d n hh q0 i x u t undef (.slice (some ⟨bX, 0, none⟩) 0 0) undef undef undef (.slice (some ⟨bT, 0, none⟩) 0 0) undef undef) wk := by
  refine wpAnyH_ready (rs := [3, 4, 15]) (by kernel_rfl) (by simp) ?_
  obtain ⟨o3, e3, g3, d3, p3⟩ := w3
  obtain ⟨o4, e4, g4, d4, p4⟩ := w4
  obtain ⟨o15, e15, g15, d15, p15⟩ := w15
  refine AllReadyH.cons e3 (fun K hK => ?_) (AllReadyH.cons e4 (fun K hK => ?_) (AllReadyH.cons e15 (fun K hK => ?_) (AllReadyH.nil)))
  · refine gX C.D C.hc C.h1 C.h64 h g3 p3 rfl rfl fun gX kX wB hB => hK.out _ _ hB.b fun _ => ?_
    rw [d3]
    exact m20100 C gX kX bT _ wB hB
  · refine sU h g4 p4 fun wB hB => hK.out _ _ hB.b fun _ => ?_
    rw [d4]
    exact m11100 C bX _ bT wB hB
  · refine sA h g15 p15 fun wB hB => hK.out _ _ hB.b fun _ => ?_
    rw [d15]
    exact m10110 C bX bT _ wB hB
theorem m11000 (C : Cx Q w1 B d n c hh r q0 i x u t) (bX : Nat) (bU : Nat) (wk : World) (h : St w1 wk n c none none none none) : wpAnyH Try.prog .any wOps Q (fun wq => Below w1.heap.size w1 wq) 7 #[true, true, true, false, true, true, true, false, false, true, true, false, true, true, false, false, false] (fr d n hh q0 i x u t undef (.slice (some ⟨bX, 0, none⟩) 0 0) undef (.slice (some ⟨bU, 0, none⟩) 0 0) undef undef undef undef) wk := by
  refine wpAnyH_ready (rs := [3, 8, 15]) (by kernel_rfl) (by simp) ?_
  obtain ⟨o3, e3, g3, d3, p3⟩ := w3
  obtain ⟨o8, e8, g8, d8, p8⟩ := w8
  obtain ⟨o15, e15, g15, d15, p15⟩ := w15
  refine AllReadyH.cons e3 (fun K hK => ?_) (AllReadyH.cons e8 (fun K hK => ?_) (AllReadyH.cons e15 (fun K hK => ?_) (AllReadyH.nil)))
  · refine gX C.D C.hc C.h1 C.h64 h g3 p3 rfl rfl fun gX kX wB hB => hK.out _ _ hB.b fun _ => ?_
    rw [d3]
    exact m21000 C gX kX bU _ wB hB
  · refine sU h g8 p8 fun wB hB => hK.out _ _ hB.b fun _ => ?_
    rw [d8]
    exact m11100 C bX bU _ wB hB
  · refine sA h g15 p15 fun wB hB => hK.out _ _ hB.b fun _ => ?_
    rw [d15]
    exact m11010 C bX bU _ wB hB
theorem m20000 (C : Cx Q w1 B d n c hh r q0 i x u t) (gX : Nat) (kX : Nat) (v12 : Value) (wk : World) (h : St w1 wk n c (some (gX, kX)) none none none) : wpAnyH Try.prog .any wOps Q (fun wq => Below w1.heap.size w1 wq) 7 #[true, true, true, true, false, true, true, false, false, true, true, false, true, true, false, false, false] (fr d n hh q0 i x u t undef v12 (.slice (some ⟨gX, 0, none⟩) n kX) undef undef undef undef undef) wk := by
  refine wpAnyH_ready (rs := [4, 8, 15]) (by kernel_rfl) (by simp) ?_
  obtain ⟨o4, e4, g4, d4, p4⟩ := w4
  obtain ⟨o8, e8, g8, d8, p8⟩ := w8
  obtain ⟨o15, e15, g15, d15, p15⟩ := w15
  refine AllReadyH.cons e4 (fun K hK => ?_) (AllReadyH.cons e8 (fun K hK => ?_) (AllReadyH.cons e15 (fun K hK => ?_) (AllReadyH.nil)))
  · refine sU h g4 p4 fun wB hB => hK.out _ _ hB.b fun _ => ?_
    rw [d4]
    exact m21000 C gX kX _ v12 wB hB
  · refine sU h g8 p8 fun wB hB => hK.out _ _ hB.b fun _ => ?_
    rw [d8]
    exact m20100 C gX kX _ v12 wB hB
  · refine sA h g15 p15 fun wB hB => hK.out _ _ hB.b fun _ => ?_
    rw [d15]
    exact m20010 C gX kX _ v12 wB hB
theorem m00010 (C : Cx Q w1 B d n c hh r q0 i x u t) (p : Nat) (wk : World) (h : St w1 wk n c none none none (some p)) : wpAnyH Try.prog .any wOps Q (fun wq => Below w1.heap.size w1 wq) 8 #[false, true, true, false, false, true, true, false, false, true, true, false, true, true, false, true, false] (fr d n hh q0 i x u t (.pointer (some ⟨p, 0, none⟩)) undef undef undef undef undef undef undef) wk := by
  refine wpAnyH_ready (rs := [0, 4, 8]) (by kernel_rfl) (by simp) ?_
  obtain ⟨o0, e0, g0, d0, p0⟩ := w0
  obtain ⟨o4, e4, g4, d4, p4⟩ := w4
  obtain ⟨o8, e8, g8, d8, p8⟩ := w8
  refine AllReadyH.cons e0 (fun K hK => ?_) (AllReadyH.cons e4 (fun K hK => ?_) (AllReadyH.cons e8 (fun K hK => ?_) (AllReadyH.nil)))
  · refine sX h g0 p0 fun wB hB => hK.out _ _ hB.b fun _ => ?_
    rw [d0]
    exact m10010 C _ p wB hB
  · refine sU h g4 p4 fun wB hB => hK.out _ _ hB.b fun _ => ?_
    rw [d4]
    exact m01010 C _ p wB hB
  · refine sU h g8 p8 fun wB hB => hK.out _ _ hB.b fun _ => ?_
    rw [d8]
    exact m00110 C _ p wB hB
theorem m00100 (C : Cx Q w1 B d n c hh r q0 i x u t) (bT : Nat) (wk : World) (h : St w1 wk n c none none none none) : wpAnyH Try.prog .any wOps Q (fun wq => Below w1.heap.size w1 wq) 8 #[false, true, true, false, false, true, true, false, true, true, true, false, true, true, false, false, false] (fr d n hh q0 i x u t undef undef undef undef undef (.slice (some ⟨bT, 0, none⟩) 0 0) undef undef) wk := by
  refine wpAnyH_ready (rs := [0, 4, 15]) (by kernel_rfl) (by simp) ?_
  obtain ⟨o0, e0, g0, d0, p0⟩ := w0
  obtain ⟨o4, e4, g4, d4, p4⟩ := w4
  obtain ⟨o15, e15, g15, d15, p15⟩ := w15
  refine AllReadyH.cons e0 (fun K hK => ?_) (AllReadyH.cons e4 (fun K hK => ?_) (AllReadyH.cons e15 (fun K hK => ?_) (AllReadyH.nil)))
  · refine sX h g0 p0 fun wB hB => hK.out _ _ hB.b fun _ => ?_
    rw [d0]
    exact m10100 C _ bT wB hB
  · refine sU h g4 p4 fun wB hB => hK.out _ _ hB.b fun _ => ?_
    rw [d4]
    exact m01100 C _ bT wB hB
  · refine sA h g15 p15 fun wB hB => hK.out _ _ hB.b fun _ => ?_
    rw [d15]
    exact m00110 C bT _ wB hB
theorem m01000 (C : Cx Q w1 B d n c hh r q0 i x u t) (bU : Nat) (wk : World) (h : St w1 wk n c none none none none) : wpAnyH Try.prog .any wOps Q (fun wq => Below w1.heap.size w1 wq) 8 #[false, true, true, false, true, true, true, false, false, true, true, false, true, true, false, false, false] (fr d n hh q0 i x u t undef undef undef (.slice (some ⟨bU, 0, none⟩) 0 0) undef undef undef undef) wk := by
  refine wpAnyH_ready (rs := [0, 8, 15]) (by kernel_rfl) (by simp) ?_
  obtain ⟨o0, e0, g0, d0, p0⟩ := w0
  obtain ⟨o8, e8, g8, d8, p8⟩ := w8
  obtain ⟨o15, e15, g15, d15, p15⟩ := w15
  refine AllReadyH.cons e0 (fun K hK => ?_) (AllReadyH.cons e8 (fun K hK => ?_) (AllReadyH.cons e15 (fun K hK => ?_) (AllReadyH.nil)))
  · refine sX h g0 p0 fun wB hB => hK.out _ _ hB.b fun _ => ?_
    rw [d0]
    exact m11000 C _ bU wB hB
  · refine sU h g8 p8 fun wB hB => hK.out _ _ hB.b fun _ => ?_
    rw [d8]
    exact m01100 C bU _ wB hB
  · refine sA h g15 p15 fun wB hB => hK.out _ _ hB.b fun _ => ?_
    rw [d15]
    exact m01010 C bU _ wB hB
theorem m10000 (C : Cx Q w1 B d n c hh r q0 i x u t) (bX : Nat) (wk : World) (h : St w1 wk n c none none none none) : wpAnyH Try.prog .any wOps Q (fun wq => Below w1.heap.size w1 wq) 8 #[true, true, true, false, false, true, true, false, false, true, true, false, true, true, false, false, false] (fr d n hh q0 i x u t undef (.slice (some ⟨bX, 0, none⟩) 0 0) undef undef undef undef undef undef) wk := by
  refine wpAnyH_ready (rs := [3, 4, 8, 15]) (by kernel_rfl) (by simp) ?_
  obtain ⟨o3, e3, g3, d3, p3⟩ := w3
  obtain ⟨o4, e4, g4, d4, p4⟩ := w4
  obtain ⟨o8, e8, g8, d8, p8⟩ := w8
  obtain ⟨o15, e15, g15, d15, p15⟩ := w15
  refine AllReadyH.cons e3 (fun K hK => ?_) (AllReadyH.cons e4 (fun K hK => ?_) (AllReadyH.cons e8 (fun K hK => ?_) (AllReadyH.cons e15 (fun K hK => ?_) (AllReadyH.nil))))
  · refine gX C.D C.hc C.h1 C.h64 h g3 p3 rfl rfl fun gX kX wB hB => hK.out _ _ hB.b fun _ => ?_
    rw [d3]
    exact m20000 C gX kX _ wB hB
  · refine sU h g4 p4 fun wB hB => hK.out _ _ hB.b fun _ => ?_
    rw [d4]
    exact m11000 C bX _ wB hB
  · refine sU h g8 p8 fun wB hB => hK.out _ _ hB.b fun _ => ?_
    rw [d8]
    exact m10100 C bX _ wB hB
  · refine sA h g15 p15 fun wB hB => hK.out _ _ hB.b fun _ => ?_
    rw [d15]
    exact m10010 C bX _ wB hB
theorem m00000 (C : Cx Q w1 B d n c hh r q0 i x u t) (wk : World) (h : St w1 wk n c none none none none) : wpAnyH Try.prog .any wOps Q (fun wq => Below w1.heap.size w1 wq) 9 #[false, true, true, false, false, true, true, false, false, true, true, false, true, true, false, false, false] (fr d n hh q0 i x u t undef undef undef undef undef undef undef undef) wk := by
  refine wpAnyH_ready (rs := [0, 4, 8, 15]) (by kernel_rfl) (by simp) ?_
  obtain ⟨o0, e0, g0, d0, p0⟩ := w0
  obtain ⟨o4, e4, g4, d4, p4⟩ := w4
  obtain ⟨o8, e8, g8, d8, p8⟩ := w8
  obtain ⟨o15, e15, g15, d15, p15⟩ := w15
  refine AllReadyH.cons e0 (fun K hK => ?_) (AllReadyH.cons e4 (fun K hK => ?_) (AllReadyH.cons e8 (fun K hK => ?_) (AllReadyH.cons e15 (fun K hK => ?_) (AllReadyH.nil))))
  · refine sX h g0 p0 fun wB hB => hK.out _ _ hB.b fun _ => ?_
    rw [d0]
    exact m10000 C _ wB hB
  · refine sU h g4 p4 fun wB hB => hK.out _ _ hB.b fun _ => ?_
    rw [d4]
    exact m01000 C _ wB hB
  · refine sU h g8 p8 fun wB hB => hK.out _ _ hB.b fun _ => ?_
    rw [d8]
    exact m00100 C _ wB hB
  · refine sA h g15 p15 fun wB hB => hK.out _ _ hB.b fun _ => ?_
    rw [d15]
    exact m00010 C _ wB hB
end

theorem three_of {B : Nat} {w : World} {d : Dv} {M : Ms Ev} (h : Dw B w d M.c) (x : Ev) :
    Blk (((w.alloc (Obj.cells #[.slice (some ⟨d.gx, 0, none⟩) M.c.length d.cx, .slice (some ⟨d.gu, 0, none⟩) M.c.length d.cu, .slice (some ⟨d.gt, 0, none⟩) M.c.length d.ct, .int .i64 (M.h : Nat)] 29)).alloc (Obj.cells (evL x).toArray 39)).alloc (Obj.cells zD 29)) w.heap.size 29 #[.slice (some ⟨d.gx, 0, none⟩) M.c.length d.cx, .slice (some ⟨d.gu, 0, none⟩) M.c.length d.cu, .slice (some ⟨d.gt, 0, none⟩) M.c.length d.ct, .int .i64 (M.h : Nat)] ∧
    Blk (((w.alloc (Obj.cells #[.slice (some ⟨d.gx, 0, none⟩) M.c.length d.cx, .slice (some ⟨d.gu, 0, none⟩) M.c.length d.cu, .slice (some ⟨d.gt, 0, none⟩) M.c.length d.ct, .int .i64 (M.h : Nat)] 29)).alloc (Obj.cells (evL x).toArray 39)).alloc (Obj.cells zD 29)) (w.heap.size + 1) 39 (evL x).toArray ∧
    Blk (((w.alloc (Obj.cells #[.slice (some ⟨d.gx, 0, none⟩) M.c.length d.cx, .slice (some ⟨d.gu, 0, none⟩) M.c.length d.cu, .slice (some ⟨d.gt, 0, none⟩) M.c.length d.ct, .int .i64 (M.h : Nat)] 29)).alloc (Obj.cells (evL x).toArray 39)).alloc (Obj.cells zD 29)) (w.heap.size + 2) 29 zD ∧
    Below w.heap.size w (((w.alloc (Obj.cells #[.slice (some ⟨d.gx, 0, none⟩) M.c.length d.cx, .slice (some ⟨d.gu, 0, none⟩) M.c.length d.cu, .slice (some ⟨d.gt, 0, none⟩) M.c.length d.ct, .int .i64 (M.h : Nat)] 29)).alloc (Obj.cells (evL x).toArray 39)).alloc (Obj.cells zD 29)) ∧
    Dw B (((w.alloc (Obj.cells #[.slice (some ⟨d.gx, 0, none⟩) M.c.length d.cx, .slice (some ⟨d.gu, 0, none⟩) M.c.length d.cu, .slice (some ⟨d.gt, 0, none⟩) M.c.length d.ct, .int .i64 (M.h : Nat)] 29)).alloc (Obj.cells (evL x).toArray 39)).alloc (Obj.cells zD 29)) d M.c := by
  have b0 := Blk.new w 29 #[.slice (some ⟨d.gx, 0, none⟩) M.c.length d.cx, .slice (some ⟨d.gu, 0, none⟩) M.c.length d.cu, .slice (some ⟨d.gt, 0, none⟩) M.c.length d.ct, .int .i64 (M.h : Nat)]
  have l0 := (Below.refl w.heap.size w).alloc (Nat.le_refl _) (Obj.cells #[.slice (some ⟨d.gx, 0, none⟩) M.c.length d.cx, .slice (some ⟨d.gu, 0, none⟩) M.c.length d.cu, .slice (some ⟨d.gt, 0, none⟩) M.c.length d.ct, .int .i64 (M.h : Nat)] 29)
  have e0 : (w.alloc (Obj.cells #[.slice (some ⟨d.gx, 0, none⟩) M.c.length d.cx, .slice (some ⟨d.gu, 0, none⟩) M.c.length d.cu, .slice (some ⟨d.gt, 0, none⟩) M.c.length d.ct, .int .i64 (M.h : Nat)] 29)).heap.size = w.heap.size + 1 := by simp
  generalize w.alloc (Obj.cells #[.slice (some ⟨d.gx, 0, none⟩) M.c.length d.cx, .slice (some ⟨d.gu, 0, none⟩) M.c.length d.cu, .slice (some ⟨d.gt, 0, none⟩) M.c.length d.ct, .int .i64 (M.h : Nat)] 29) = a1 at *
  have b1 := Blk.new a1 39 (evL x).toArray
  have l1 := (Below.refl a1.heap.size a1).alloc (Nat.le_refl _) (Obj.cells (evL x).toArray 39)
  have e1 : (a1.alloc (Obj.cells (evL x).toArray 39)).heap.size = a1.heap.size + 1 := by simp
  generalize a1.alloc (Obj.cells (evL x).toArray 39) = a2 at *
  have b2 := Blk.new a2 29 zD
  have l2 := (Below.refl a2.heap.size a2).alloc (Nat.le_refl _) (Obj.cells zD 29)
  generalize a2.alloc (Obj.cells zD 29) = a3 at *
  have l02 := l0.trans (l1.mono (by omega))
  have l03 := l02.trans (l2.mono (by omega))
  have b01 := b0.eq (l1.block _ (by omega))
  rw [e0] at b1
  rw [e1, e0] at b2
  exact ⟨b01.eq (l2.block _ (by omega)), b1.eq (l2.block _ (by omega)), b2, l03, h.below l03⟩

set_option maxRecDepth 100000 in
set_option maxHeartbeats 8000000 in
theorem with_new (B i : Nat) (x : Ev) (u t : Bool) (d : Dv) (M : Ms Ev) (hok : M.Ok) (hi : i < M.c.length) (w : World) (h : Dw B w d M.c) (hB : B ≤ w.heap.size) : Calls Try.prog 47 #[dV d M, .int .i64 (i : Nat), evV x, .bool u, .bool t] w fun e w' => ∃ d', e = .returned (dV d' ⟨M.c.set i ⟨x, u, t⟩, M.h⟩) ∧ Dw w.heap.size w' d' (M.c.set i ⟨x, u, t⟩) ∧ Below w.heap.size w w' := by
  obtain ⟨i1, hi1, hz1, hs1, hy1⟩ := el_of elT
  obtain ⟨i2, hi2, hz2, hs2, hy2⟩ := el_of elB
  have h64 := hok.n64
  have h01 := hok.n1
  obtain ⟨T3, hT3⟩ : ∃ T3 : World, ((w.alloc (Obj.cells #[.slice (some ⟨d.gx, 0, none⟩) M.c.length d.cx, .slice (some ⟨d.gu, 0, none⟩) M.c.length d.cu, .slice (some ⟨d.gt, 0, none⟩) M.c.length d.ct, .int .i64 (M.h : Nat)] 29)).alloc (Obj.cells (evL x).toArray 39)).alloc (Obj.cells zD 29) = T3 := ⟨_, rfl⟩
  have h3 := three_of h x
  rw [hT3] at h3
  obtain ⟨hx2, hxe, hr, hb2, hd2⟩ := h3
  have HX := Lib.hid hx2
  have HXE := Lib.hid hxe
  have HR := Lib.hid hr
  have HB := Lib.hid hb2
  have HD := Lib.hid hd2
  have HBB := Lib.hid hB
  have HV := Lib.hid (fun d' => dV_eq d' ⟨M.c.set i ⟨x, u, t⟩, M.h⟩)
  have HLs := Lib.hid (show (M.c.set i ⟨x, u, t⟩).length = M.c.length from List.length_set)
  rw [dV_eq]
  unfold evV
  clear hb2 hr hx2 hxe hd2 h hB hok
  generalize M.h = hh at *
  generalize hn : M.c.length = n at *
  have HN0 := Lib.hid hn
  clear hn
  unfold zD at HR hT3
  go_enter Try.func47, Try.ntmps47
  go_upto_region 1 with (fail)
  try rw [hT3]
  generalize T3 = w1 at *
  clear hT3
  have HCl0 := Lib.hid (fun W (hW : Below w1.heap.size w1 W) => (HX.out.eq (hW.block _ HX.out.lt)).cell 0)
  have HCl1 := Lib.hid (fun W (hW : Below w1.heap.size w1 W) => (HX.out.eq (hW.block _ HX.out.lt)).cell 1)
  have HCl2 := Lib.hid (fun W (hW : Below w1.heap.size w1 W) => (HX.out.eq (hW.block _ HX.out.lt)).cell 2)
  have HCl3 := Lib.hid (fun W (hW : Below w1.heap.size w1 W) => (HX.out.eq (hW.block _ HX.out.lt)).cell 3)
  clear HX
  go_cut [11] (fun tv wx => WithR w1 (w.heap.size + 2) n hh M.c tv wx)
  case first =>
    clear HBB HV HLs HB
    have h0 := St.begin w1 n M.c
    refine wp_region_held_drew (S := fun wq => Below w1.heap.size w1 wq) (by kernel_rfl) h0.b (fun _ => ?_)
    generalize w1.drew = wk at *
    refine wpAnyH_take (i := 1) (v := ?_) rfl (by kernel_rfl) (by kernel_rfl) (by kernel_rfl) (fun _ _ _ h => h) (Or.inl ⟨by rfl, ?_⟩) (by assumption) ?_
    rotate_left
    · (intro wq hSw; go_simp; try (with_reducible rfl))
    simp only [Act.put, List.getElem_toArray, List.getElem_cons_zero, List.getElem_cons_succ, List.setIfInBounds_toArray, List.set_cons_zero, List.set_cons_succ]
    refine wpAnyH_take (i := 2) (v := .slice (some ⟨d.gx, 0, none⟩) n d.cx) rfl (by kernel_rfl) (by kernel_rfl) (by kernel_rfl) (fun _ _ _ h => h) (Or.inl ⟨by rfl, ?_⟩) (by assumption) ?_
    · (intro wq hSw; have e0 : wq.cell? ⟨w.heap.size, 0, none⟩ = some (.slice (some ⟨d.gx, 0, none⟩) n d.cx) := HCl0.out wq hSw; go_simp; try rfl)
    simp only [Act.put, List.getElem_toArray, List.getElem_cons_zero, List.getElem_cons_succ, List.setIfInBounds_toArray, List.set_cons_zero, List.set_cons_succ]
    refine wpAnyH_take (i := 5) (v := ?_) rfl (by kernel_rfl) (by kernel_rfl) (by kernel_rfl) (fun _ _ _ h => h) (Or.inl ⟨by rfl, ?_⟩) (by assumption) ?_
    rotate_left
    · (intro wq hSw; go_simp; try (with_reducible rfl))
    simp only [Act.put, List.getElem_toArray, List.getElem_cons_zero, List.getElem_cons_succ, List.setIfInBounds_toArray, List.set_cons_zero, List.set_cons_succ]
    refine wpAnyH_take (i := 6) (v := .slice (some ⟨d.gu, 0, none⟩) n d.cu) rfl (by kernel_rfl) (by kernel_rfl) (by kernel_rfl) (fun _ _ _ h => h) (Or.inl ⟨by rfl, ?_⟩) (by assumption) ?_
    · (intro wq hSw; have e0 : wq.cell? ⟨w.heap.size, 1, none⟩ = some (.slice (some ⟨d.gu, 0, none⟩) n d.cu) := HCl1.out wq hSw; go_simp; try rfl)
    simp only [Act.put, List.getElem_toArray, List.getElem_cons_zero, List.getElem_cons_succ, List.setIfInBounds_toArray, List.set_cons_zero, List.set_cons_succ]
    refine wpAnyH_take (i := 9) (v := ?_) rfl (by kernel_rfl) (by kernel_rfl) (by kernel_rfl) (fun _ _ _ h => h) (Or.inl ⟨by rfl, ?_⟩) (by assumption) ?_
    rotate_left
    · (intro wq hSw; go_simp; try (with_reducible rfl))
    simp only [Act.put, List.getElem_toArray, List.getElem_cons_zero, List.getElem_cons_succ, List.setIfInBounds_toArray, List.set_cons_zero, List.set_cons_succ]
    refine wpAnyH_take (i := 10) (v := .slice (some ⟨d.gt, 0, none⟩) n d.ct) rfl (by kernel_rfl) (by kernel_rfl) (by kernel_rfl) (fun _ _ _ h => h) (Or.inl ⟨by rfl, ?_⟩) (by assumption) ?_
    · (intro wq hSw; have e0 : wq.cell? ⟨w.heap.size, 2, none⟩ = some (.slice (some ⟨d.gt, 0, none⟩) n d.ct) := HCl2.out wq hSw; go_simp; try rfl)
    simp only [Act.put, List.getElem_toArray, List.getElem_cons_zero, List.getElem_cons_succ, List.setIfInBounds_toArray, List.set_cons_zero, List.set_cons_succ]
    refine wpAnyH_take (i := 12) (v := ?_) rfl (by kernel_rfl) (by kernel_rfl) (by kernel_rfl) (fun _ _ _ h => h) (Or.inl ⟨by rfl, ?_⟩) (by assumption) ?_
    rotate_left
    · (intro wq hSw; go_simp; try (with_reducible rfl))
    simp only [Act.put, List.getElem_toArray, List.getElem_cons_zero, List.getElem_cons_succ, List.setIfInBounds_toArray, List.set_cons_zero, List.set_cons_succ]
    refine wpAnyH_take (i := 13) (v := .int .i64 (hh : Nat)) rfl (by kernel_rfl) (by kernel_rfl) (by kernel_rfl) (fun _ _ _ h => h) (Or.inl ⟨by rfl, ?_⟩) (by assumption) ?_
    · (intro wq hSw; have e0 : wq.cell? ⟨w.heap.size, 3, none⟩ = some (.int .i64 (hh : Nat)) := HCl3.out wq hSw; go_simp; try rfl)
    simp only [Act.put, List.getElem_toArray, List.getElem_cons_zero, List.getElem_cons_succ, List.setIfInBounds_toArray, List.set_cons_zero, List.set_cons_succ]
    exact m00000 ⟨HD.out, HN0.out, h01, h64, HR.out, fun p s12 s15 s16 s19 s20 s23 s26 wx hx => by unfold fr; go_wp2_with fail; go_meet; case rel => exact hx⟩ wk h0
  case rest =>
    clear HCl0 HCl1 HCl2 HCl3 HD
    obtain ⟨p, gx, cx, gu, cu, gt, ct, rfl, hT, hb, hpb⟩ := hcut
    have s0 : (0 : Int) ≤ (i : Nat) := by omega
    have s1 : (i : Int) < (n : Nat) := by omega
    have hin : i < M.c.length := by rw [HN0.out]; exact hi
    have c0 := hT.bp.cell 0
    have hX7 := HXE.out.eq (hb.block _ HXE.out.lt)
    have hth : wc.there gx (i * 7) (evL x).toArray.size := fun j hj => ⟨by
      have hj7 : j < 7 := hj
      rw [hT.ox.cellAt _ (by omega), xsV_at _ _ _ hin hj7]
      rw [List.getElem?_eq_getElem (by rw [evL_len]; exact hj7)]
      rfl, hT.ox.frozenAt _⟩
    have hT2 := hT.putX (i * 7) (evL x)
    rw [putL_row _ _ hin ⟨x, u, t⟩] at hT2
    have hb2 := setCells_below (evL x) (i * 7) hb (own_base hT.ox).1
    have HT := Lib.hid (And.intro hT2 hb2)
    have HTH := Lib.hid hth
    have HX7 := Lib.hid hX7
    simp only [List.getElem?_toArray, List.getElem?_cons_zero] at c0
    clear hT hb hT2 hb2 hth hX7
    go_upto_region 3 with (first | (refine wpList_load_row rfl 39 _ rfl (w.heap.size + 1) rfl 39 _ _ _ HX7.out Try.underlying39 rfl (infoEa _) ?_) | (refine wpList_store_mid rfl 39 _ _ rfl gx (i * 7) _ (by go_num) rfl HTH.out (infoEa _) (evL_one _) ?_))
    try simp only
    obtain ⟨hT, hb⟩ := HT.out
    generalize wc.setCells gx (i * 7) (evL x) = wc1 at *
    clear HT c0 HTH HX7
    have c1 := hT.bp.cell 1
    have e1 := (hT.ou.cellAt i (by omega)).trans (usV_at M.c i hin)
    have f1 := hT.ou.frozenAt i
    have hT2 := hT.putU i (.bool u)
    have hb2 := hb.setCell (p := ⟨gu, i, none⟩) (own_base hT.ou).1 (.bool u)
    have HT := Lib.hid (And.intro hT2 hb2)
    simp only [List.getElem?_toArray, List.getElem?_cons_zero, List.getElem?_cons_succ] at c1
    clear hT hb hT2 hb2
    generalize us M.c i = y1 at *
    go_upto_region 4 with (fail)
    obtain ⟨hT, hb⟩ := HT.out
    generalize wc1.setCell ⟨gu, i, none⟩ (.bool u) = wc2 at *
    clear HT c1 e1 f1
    have c2 := hT.bp.cell 2
    have e2 := (hT.ot.cellAt i (by omega)).trans (tsV_at M.c i hin)
    have f2 := hT.ot.frozenAt i
    have hT2 := hT.putT i (.bool t)
    have hb2 := hb.setCell (p := ⟨gt, i, none⟩) (own_base hT.ot).1 (.bool t)
    have HT := Lib.hid (And.intro hT2 hb2)
    simp only [List.getElem?_toArray, List.getElem?_cons_zero, List.getElem?_cons_succ] at c2
    clear hT hb hT2 hb2
    generalize ts M.c i = y2 at *
    go_upto_region 5 with (fail)
    obtain ⟨hT, hb⟩ := HT.out
    generalize wc2.setCell ⟨gt, i, none⟩ (.bool t) = wc3 at *
    clear HT c2 e2 f2
    have hlen := HLs.out
    have x2 : (usV M.c).set i (.bool u) = usV (M.c.set i ⟨x, u, t⟩) := by unfold usV; rw [List.map_set]
    have x3 : (tsV M.c).set i (.bool t) = tsV (M.c.set i ⟨x, u, t⟩) := by unfold tsV; rw [List.map_set]
    rw [x2, x3] at hT
    have hT2 : Tri w1.heap.size p (w.heap.size + 2) #[.slice none 0 0, .slice none 0 0, .slice none 0 0, .int .i64 0] wc3 hh (.slice (some ⟨gx, 0, none⟩) (M.c.set i ⟨x, u, t⟩).length cx) (.slice (some ⟨gu, 0, none⟩) (M.c.set i ⟨x, u, t⟩).length cu) (.slice (some ⟨gt, 0, none⟩) (M.c.set i ⟨x, u, t⟩).length ct) (M.c.set i ⟨x, u, t⟩).length (M.c.set i ⟨x, u, t⟩).length (M.c.set i ⟨x, u, t⟩).length (xsV (M.c.set i ⟨x, u, t⟩)) (usV (M.c.set i ⟨x, u, t⟩)) (tsV (M.c.set i ⟨x, u, t⟩)) := by rw [hlen]; exact hT
    have hD := (hT2.dw.setRow hT.br (cs := #[.slice (some ⟨gx, 0, none⟩) n cx, .slice (some ⟨gu, 0, none⟩) n cu, .slice (some ⟨gt, 0, none⟩) n ct, .int .i64 (hh : Nat)])).mono HB.out.size
    have hbz := setRow_below (HB.out.trans (hb.mono HB.out.size)) (g := w.heap.size + 2) (by omega) #[.slice (some ⟨gx, 0, none⟩) n cx, .slice (some ⟨gu, 0, none⟩) n cu, .slice (some ⟨gt, 0, none⟩) n ct, .int .i64 (hh : Nat)]
    have hv : Value.agg #[.slice (some ⟨gx, 0, none⟩) n cx, .slice (some ⟨gu, 0, none⟩) n cu, .slice (some ⟨gt, 0, none⟩) n ct, .int .i64 (hh : Nat)] = dV ⟨gx, cx, gu, cu, gt, ct⟩ ⟨M.c.set i ⟨x, u, t⟩, hh⟩ := by rw [dV_eq]; simp only; rw [hlen]
    have HF := Lib.hid (And.intro hD (And.intro hbz hv))
    have HP := Lib.hid hT.bp
    have HR2 := Lib.hid hT.br
    clear hT hT2 hD hbz hv hb x2 x3 hlen
    go_wp2_with (first | (refine wpList_load_row rfl 29 _ rfl p rfl 29 _ _ _ HP.out Try.underlying29 rfl infoD ?_) | (refine wpList_store_row rfl 29 _ _ rfl (w.heap.size + 2) _ rfl rfl 29 _ HR2.out infoD rfl (all4 _ _ _ _ _ _ _ _) ?_))
    refine ret_d rfl rfl rfl (setRow_heap _ _ _ _ _ _ HR2.out) ⟨⟨gx, cx, gu, cu, gt, ct⟩, ?_, HF.out.1, HF.out.2.1⟩
    rw [← HF.out.2.2]
set_option maxHeartbeats 400000 in
theorem with_any (B i : Nat) (x : Ev) (u t : Bool) (d : Dv) (M : Ms Ev) (hok : M.Ok) (hi : i < M.c.length) (w : World) (h : Dw B w d M.c) (hB : B ≤ w.heap.size) : Calls Try.prog 47 #[dV d M, .int .i64 (i : Nat), evV x, .bool u, .bool t] w fun e w' => ∃ d', e = .returned (dV d' ⟨M.c.set i ⟨x, u, t⟩, M.h⟩) ∧ Dw B w' d' (M.c.set i ⟨x, u, t⟩) ∧ Below w.heap.size w w' := by
  refine (with_new B i x u t d M hok hi w h hB).mono ?_
  rintro e w' ⟨d', h1, h2, h3⟩
  exact ⟨d', h1, h2.mono hB, h3⟩
end Go.Proofs.Ytjjanogfcfapcaa.D
