/- The second entry gets the first one's question (for ShardNever). -/
import Derived.Test.YtjjanogfcfapcaaVef
namespace Go.Proofs.Ytjjanogfcfapcaa.D
open Go.RowKit
set_option linter.unusedVariables false

def withQ (y : Ev) (q : Qu) : Ev := ⟨⟨q, y.e.l, y.e.rc, y.e.rk, y.e.ex⟩, y.A, y.cap⟩
theorem infoQ3 : (Try.prog.info? 35).map (·.size) = some 3 := by kernel_rfl
theorem quest_blk {w : World} {g : Nat} {t : TypeId} {y : Ev} (h : Blk w g t (evL y).toArray) (q : Qu) : Blk (w.setCells g 0 (qf q)) g t (evL (withQ y q)).toArray := ((h.set_ 0 (.string q.n)).set_ 1 (.int .u16 (q.k : Nat))).set_ 2 (.int .u16 (q.c : Nat))
theorem Nv.quest {w0 wr : World} {h : Nat} {K : Ly} {S : Sd} {q : Nat} {x y : Ev} (n : Nv w0 wr h K S q x y) : wr.there (q + 1) 0 3 ∧ Nv w0 (wr.setCells (q + 1) 0 (qf x.e.q)) h K S q x (withQ y x.e.q) := by
  have hc : Ch (fun i => i = q + 1) wr (wr.setCells (q + 1) 0 (qf x.e.q)) := setCells_ch (X := fun i => i = q + 1) rfl _ _ _
  have hy := re_box n.ry n.by_ hc
  refine ⟨n.by_.there 0 3 (by show 0 + 3 ≤ 7; omega), sh_box n.sh n.by_ n.kx hc, n.bx.eq (hc.block _ n.bx.lt (by omega)), quest_blk n.by_ _, re_box n.rx n.by_ hc, ⟨hy.sl, hy.away, n.rx.q, hy.ex, hy.sm⟩, setCells_below _ _ n.lo (by have := n.q0; omega), n.kx, n.q0⟩
end Go.Proofs.Ytjjanogfcfapcaa.D
