/- The contracts of Len and Next of a wheel that is told by a list; of a wheel that is nil, too. -/
import Derived.Test.YtjjanogfcfapcaaWxa
import Derived.Test.YtjjanogfcfapcaaWhc
namespace Go.Proofs.Ytjjanogfcfapcaa.W
open Go.RowKit Go.Shelf
open Go.Maps (Keyed)
set_option linter.unusedVariables false
attribute [local go_sem] Oper.semAt_some

set_option maxHeartbeats 1000000 in
theorem all_gives (nd : Nat) (p : Option Addr) (w : World) : CallsIn Fence.wide nd Try.prog 57 #[.pointer p] w fun e w' => e = .returned (.func (.func 64) #[] #[.pointer (some ⟨w.heap.size, 0, none⟩)]) ∧ w' = w.alloc (.cells #[.pointer p] 67) := by
  refine callsIn_of_wp Try.func57 rfl trivial ?_ rfl
  simp only [Try.ntmps57, List.size_toArray, List.length_cons, List.length_nil, Nat.reduceAdd, Nat.reduceSub, Array.replicate_succ, Array.replicate_zero, List.push_toArray, List.append_toArray, List.nil_append, List.cons_append]
  gi_wp2
  go_ret
  exact ⟨rfl, rfl⟩
theorem all_stops (nd : Nat) (hn : 1 ≤ nd) (Bn n₀ : Nat) {g sb s n : Nat} {bm : Nat → Nat} {l : List Ti} (w : World) (hB : Bn < w.heap.size) (hn0 : n₀ ≤ w.heap.size) (hc : w.cell? ⟨Bn, 0, none⟩ = some (.pointer (some ⟨g, 0, none⟩))) (h : Wl w g sb s n bm l) (hL : Low n₀ g sb s bm) :
    SeqStopsK Fence.wide nd Try.prog 64 #[.pointer (some ⟨Bn, 0, none⟩)] encT (Kpw n₀) (AllT l) (fun _ => True) l.length w := fun lp J Jx W hW hJ hJx hY h0 =>
  all1_in nd hn lp Bn n₀ J Jx hY W hJ ((hW.cell (p := ⟨Bn, 0, none⟩) hB).trans hc) (h.low hL (hW.mono hn0)) hL (Nat.le_trans hn0 hW.size) h0
set_option maxRecDepth 100000 in
set_option maxHeartbeats 1000000 in
theorem nil_stops (nd : Nat) (hn : 1 ≤ nd) (Bn n₀ : Nat) (w : World) (hB : Bn < w.heap.size) (hc : w.cell? ⟨Bn, 0, none⟩ = some (.pointer none)) :
    SeqStopsK Fence.wide nd Try.prog 64 #[.pointer (some ⟨Bn, 0, none⟩)] encT (Kpw n₀) (AllT []) (fun _ => True) 0 w := fun lp J Jx W hW hJ hJx hY h0 => by
  have hcW := (hW.cell (p := ⟨Bn, 0, none⟩) hB).trans hc
  refine callsIn_of_wp Try.func64 rfl trivial ?_ rfl
  simp only [Try.ntmps64, List.size_toArray, List.length_cons, List.length_nil, Nat.reduceAdd, Nat.reduceSub, Array.replicate_succ, Array.replicate_zero, List.push_toArray, List.append_toArray, List.nil_append, List.cons_append]
  gi_wp2
  refine bodyPost_ret (results_none rfl _ _ _) rfl ?_
  exact ⟨⟨_, rfl⟩, .inl ⟨[], ⟨List.nodup_nil, fun x => Iff.rfl, fun x h => (by cases h)⟩, h0⟩⟩
/-- The wheel, or none: what comes of it. -/
def WlN (w : World) (p : Option Addr) (l : List Ti) : Prop := (p = none ∧ l = []) ∨ ∃ g sb s n bm, p = some ⟨g, 0, none⟩ ∧ Wl w g sb s n bm l
theorem WlN.stops {w0 : World} {p : Option Addr} {l : List Ti} (h : WlN w0 p l) (nd : Nat) (hn : 1 ≤ nd) (Bn : Nat) (w : World) (hb : Below w0.heap.size w0 w) (hB : Bn < w.heap.size) (hc : w.cell? ⟨Bn, 0, none⟩ = some (.pointer p)) :
    SeqStopsK Fence.wide nd Try.prog 64 #[.pointer (some ⟨Bn, 0, none⟩)] encT (Kpw w0.heap.size) (AllT l) (fun _ => True) l.length w := by
  rcases h with ⟨rfl, rfl⟩ | ⟨g, sb, s, n, bm, rfl, h⟩
  · exact nil_stops nd hn Bn _ w hB hc
  · exact all_stops nd hn Bn _ w hB hb.size hc (h.low h.isLow hb) h.isLow
theorem AllT.len {l ys : List Ti} (h : AllT l ys) (hl : l.Nodup) : ys.length = l.length := ((List.perm_ext_iff_of_nodup h.nd hl).2 h.mem).length_eq
theorem WlN.ord {w : World} {p : Option Addr} {l : List Ti} (h : WlN w p l) : Ord l := by
  rcases h with ⟨rfl, rfl⟩ | ⟨g, sb, s, n, bm, rfl, h⟩
  · exact ⟨List.Pairwise.nil, List.nodup_nil⟩
  · exact h.ord
theorem ownFrom_ex {β γ : Type} {B : Nat} {I : γ → β → World → Prop} (h : ∀ c, OwnFrom B (I c)) : OwnFrom B (fun s W => ∃ c, I c s W) := fun s W W' row ⟨c, hc⟩ hg hr => ⟨c, h c s W W' row hc hg hr⟩
theorem kpw_set {n₀ : Nat} {W : World} {b : Nat} (h : n₀ ≤ b) (v : Value) : Kpw n₀ W (W.setCell ⟨b, 0, none⟩ v) := ⟨(Below.refl n₀ W).setCell (p := ⟨b, 0, none⟩) h _, KeepsWalks.setCell _ _ _⟩
theorem kpw_refl (n₀ : Nat) (W : World) : Kpw n₀ W W := ⟨Below.refl _ _, KeepsWalks.refl _⟩

theorem Lst.more_l {o : Option Nat} {pre : List Ti} (h : Lst o fun x => x ∈ pre) (x : Ti) (hm : o = none ∨ ∃ m, o = some m ∧ x.t < m) : Lst (some x.t) fun y => y ∈ pre ++ [x] := (h.more x hm).congr fun y => by simp
theorem Lst.stay_l {o : Option Nat} {pre : List Ti} (h : Lst o fun x => x ∈ pre) (x : Ti) {m : Nat} (e : o = some m) (hm : m ≤ x.t) : Lst o fun y => y ∈ pre ++ [x] := (h.stay x e hm).congr fun y => by simp
end Go.Proofs.Ytjjanogfcfapcaa.W
