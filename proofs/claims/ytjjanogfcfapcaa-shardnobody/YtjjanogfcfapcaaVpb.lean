/- The contracts of what a shard calls, told of the whole shard. -/
import Derived.Test.YtjjanogfcfapcaaVpa
namespace Go.Proofs.Ytjjanogfcfapcaa
open Go.RowKit
set_option linter.unusedVariables false
section
variable {w : World} {h : Nat} {K : Ly} {M : Ms Ev} {f : Qu → Option Nat} {N : Nat} {l : List W.Ti}
theorem wf_nat {k : Nat} (hk : k < 1000) : (Lit.int .i64 (k : Nat)).wf = true := by
  simp [Lit.wf, IntKind.min, IntKind.max, IntKind.signed, IntKind.bits]
  omega
theorem free_sv (v : Sv w h K M f N l) {k : Nat} (hk : k < M.c.length) (hu : us M.c k = true) :
    Calls Try.prog 55 #[.pointer (some ⟨K.g, 0, none⟩), .int .i64 (k : Nat)] w fun e w' => e = .returned (.bool true) ∧ Sv w' h K ⟨M.c.set k Z0, M.h⟩ f N l ∧ Ch K.X w w' :=
  (free_k v.sp hk hu).mono fun _ _ ⟨he, hs, hf⟩ => ⟨he, v.slots hs hf (v.re_set hk (Ch.mono hf (fun i e => by rcases e with e | e; exact .inl e; exact .inr (.inl e))) (Re.zero _ _))⟩
theorem touch_sv (v : Sv w h K M f N l) {k : Nat} (hk : k < M.c.length) (hu : us M.c k = true) :
    Calls Try.prog 43 #[.pointer (some ⟨K.g, 0, none⟩), .int .i64 (k : Nat)] w fun e w' => e = .returned (.bool true) ∧ Sv w' h K ⟨M.c.set k ⟨(M.c.getD k Z0).x, true, true⟩, M.h⟩ f N l ∧ Ch K.X w w' :=
  (touch_k v.sp hk hu).mono fun _ _ ⟨he, hs, hf⟩ =>
    have hc : Ch K.X _ _ := Ch.mono hf (fun i e => by rcases e with e | e; exact .inl e; exact .inr (.inl e))
    ⟨he, v.slots hs hf (v.re_set hk hc ((v.re k).ch hc))⟩
theorem set_sv (v : Sv w h K M f N l) {k : Nat} (hk : k < M.c.length) (hu : us M.c k = true) {x : Ev} (hx : Re K.X w x) :
    Calls Try.prog 51 #[.pointer (some ⟨K.g, 0, none⟩), .int .i64 (k : Nat), evV x] w fun e w' => e = .returned (.bool true) ∧ Sv w' h K ⟨M.c.set k ⟨x, true, ts M.c k⟩, M.h⟩ f N l ∧ Ch K.X w w' :=
  (set_k x v.sp hk hu).mono fun _ _ ⟨he, hs, hf⟩ =>
    have hc : Ch K.X _ _ := Ch.mono hf (fun i e => by rcases e with e | e; exact .inl e; exact .inr (.inl e))
    ⟨he, v.slots hs hf (v.re_set hk hc (hx.ch hc))⟩
theorem put_sv (v : Sv w h K M f N l) {k : Nat} (hk : firstC M.c = some k) {x : Ev} (hx : Re K.X w x) :
    Calls Try.prog 54 #[.pointer (some ⟨K.g, 0, none⟩), evV x] w fun e w' => e = .returned (.tuple #[.int .i64 (k : Nat), .int .i64 0]) ∧ Sv w' h K ⟨M.c.set k ⟨x, true, false⟩, M.h⟩ f N l ∧ Ch K.X w w' :=
  (put_k x v.sp hk).mono fun _ _ ⟨he, hs, hf⟩ =>
    have hc : Ch K.X _ _ := Ch.mono hf (fun i e => by rcases e with e | e; exact .inl e; exact .inr (.inl e))
    ⟨he, v.slots hs hf (v.re_set (first_of hk).1 hc (hx.ch hc))⟩
theorem vic_sv (v : Sv w h K M f N l) :
    Calls Try.prog 53 #[.pointer (some ⟨K.g, 0, none⟩)] w fun e w' => e = .returned (.tuple #[.int .i64 (vicI M), .bool (vicB M)]) ∧ Sv w' h K (vicM M).1 f N l ∧ Ch K.X w w' :=
  (vic_any v.sp).mono fun _ _ ⟨he, hs, hf⟩ =>
    have hc : Ch K.X _ _ := Ch.mono hf (fun i e => by rcases e with e | e; exact .inl e; exact .inr (.inl e))
    ⟨he, v.slots hs hf (fun j => by rw [vicM_xs v.sp.ok]; exact (v.re j).ch hc)⟩
theorem wdel_sv (v : Sv w h K M f N l) {k : Nat} (hk : k < 1000) :
    Calls Try.prog 56 #[.pointer (some ⟨K.wg, 0, none⟩), .int .i64 (k : Nat)] w fun e w' => e = .returned (.bool (W.look l k).isSome) ∧ Sv w' h K M f N (W.delL l k) ∧ Ch K.X w w' :=
  (W.del_any k (wf_nat hk) v.wl).mono fun _ _ ⟨he, hg, hl⟩ => ⟨he, v.wheel hl ((W.Fw.refl K.bm K.s w).grown hg (fun r e => by cases e; exact .inr ⟨_, W.spk_lt v.wl.pos k, rfl⟩))⟩
theorem wset_sv (v : Sv w h K M f N l) {k : Nat} (hk : k < 1000) {t : Nat} (ht : t < 18446744073709551616) (hl : l.length < 100000) :
    Calls Try.prog 52 #[.pointer (some ⟨K.wg, 0, none⟩), .int .i64 (k : Nat), .int .u64 (t : Nat)] w fun e w' => e = .returned (.int .i64 0) ∧ Sv w' h K M f N (W.setL l k t) ∧ Ch K.X w w' :=
  (W.set_any k (wf_nat hk) t ht v.wl hl).mono fun _ _ ⟨he, hg, hl⟩ => ⟨he, v.wheel hl ((W.Fw.refl K.bm K.s w).grown hg (fun r e => by cases e; exact .inr ⟨_, W.spk_lt v.wl.pos k, rfl⟩))⟩
theorem wdue_sv (v : Sv w h K M f N l) (now : Nat) (hl : l.length ≤ 200) :
    Calls Try.prog 44 #[.pointer (some ⟨K.wg, 0, none⟩), .int .u64 (now : Nat)] w fun e w' => ∃ A c, e = .returned (.slice A (W.dueL l now).length c) ∧ W.NsI w' A ((W.dueL l now).map (·.id)) ∧ Sv w' h K M f N (W.restL l now) ∧ Ch K.X w w' :=
  (W.due_any 200 W.sort200 (by omega) now v.wl (Nat.le_trans (List.takeWhile_sublist _).length_le hl) (by omega)).mono fun _ _ ⟨A, c, he, hn, hw, hf⟩ => ⟨A, c, he, hn, v.wheel hw hf⟩
end
theorem elQ3 : (Try.prog.info? 35).map (·.size) = some 3 := by kernel_rfl
theorem load_q (w : World) (g : Nat) (cs : Array Value) (hs : cs.size = 3) (hg : w.heap[g]? = some (.cells cs 35 (0, 0))) : (loadVar 35 ⟨g, 0, none⟩).run Try.prog w = .ok (.agg cs) w :=
  run_loadVar_row w g 35 35 cs (0, 0) _ hg Try.underlying35 rfl (by rw [hs]; exact elQ3)
theorem ret_q {w : World} {fn : Func} {p : Tmp} {R : Ending → World → Prop} {a : Act} {g : Nat} (cs : Array Value) (hs : cs.size = 3) (h : fn.results = #[.cell p 35]) (hp : a.tmps.getD p undef = .pointer (some ⟨g, 0, none⟩)) (hd : a.defers = [])
    (hg : w.heap[g]? = some (.cells cs 35 (0, 0))) (hR : R (.returned (.agg cs)) w) : bodyPost Try.prog fn R .ret a w :=
  bodyPost_ret (results_cell_row h _ w g 35 cs (0, 0) _ hp hg Try.underlying35 rfl (by rw [hs]; exact elQ3)) hd hR
theorem qf_one1 (q : Qu) : (qf q).toArray.all (·.oneCell') = true := by simp [qf, Value.oneCell']
def zQ : Array Value := #[.string ⟨#[]⟩, .int .u16 0, .int .u16 0]
theorem blk_new_eq (w : World) (t : TypeId) (cs : Array Value) : Blk (w.alloc (.cells cs t)) w.heap.size t cs := Blk.new w t cs
end Go.Proofs.Ytjjanogfcfapcaa
