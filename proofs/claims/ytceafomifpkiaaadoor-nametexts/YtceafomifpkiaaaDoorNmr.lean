/- The contract of name.read. -/
import Derived.Test.YtceafomifpkiaaaDoorNmq
import Derived.Deep.RegionWith
namespace Go.Proofs.YtceafomifpkiaaaDoor
open Go.RowKit
set_option linter.unusedVariables false

/-- Does a text begin with a byte as it is written? -/
def rdOk (l : List UInt8) : Bool := l.take (unesc l).2 == esc (unesc l).1
def rdC (l : List UInt8) : UInt8 := if rdOk l = true then (unesc l).1 else 0
def rdN (l : List UInt8) : Nat := if rdOk l = true then (unesc l).2 else 0
theorem unesc_le (l : List UInt8) (h : 1 ≤ l.length) : (unesc l).2 ≤ l.length := by
  unfold unesc
  split
  · exact h
  · split
    · rename_i h2; exact h2.1
    · split
      · exact Nat.zero_le _
      · rename_i h3
        split
        · show 4 ≤ _; omega
        · exact Nat.zero_le _
theorem slice_to (s : ByteArray) (n : Nat) (h : n ≤ s.size) (w : World) :
    (Instr.slice 9 (.string s) none (some (.int .i64 (n : Int))) none).run Tryd.prog w = .ok (.string (s.extract 0 n)) w := by
  have := run_slice_string_h (P := Tryd.prog) (w := w) (t := 9) (s := s) Tryd.underlying9 .i64 (n : Int) (by omega) (by omega)
  simpa using this

set_option maxRecDepth 100000 in
set_option maxHeartbeats 1000000 in
theorem read_any (s : ByteArray) (hs : s.size ≤ 140737488355328) (h0 : 0 < s.size) (w : World) (hg : Glob w) :
    Calls Tryd.prog 49 #[.string s] w fun e w' => e = .returned (.tuple #[.int .u8 ((rdC s.data.toList).toNat : Nat), .int .i64 (rdN s.data.toList : Nat), .bool (rdOk s.data.toList)]) ∧ Below w.heap.size w w' := by
  have hle : (unesc s.data.toList).2 ≤ s.size := by rw [← ba_len]; exact unesc_le _ (by rw [ba_len]; exact h0)
  have hun := fun w hg => unescape_any s hs h0 w hg
  have hok : rdOk s.data.toList = ((s.extract 0 (unesc s.data.toList).2).toList == esc (unesc s.data.toList).1) := by
    unfold rdOk
    rw [ByteArray.toList_eq, extract_list, List.drop_zero]
  have hC : rdC s.data.toList = if rdOk s.data.toList = true then (unesc s.data.toList).1 else 0 := rfl
  have hN : rdN s.data.toList = if rdOk s.data.toList = true then (unesc s.data.toList).2 else 0 := rfl
  generalize rdOk s.data.toList = ok at *
  generalize rdC s.data.toList = rc at *
  generalize rdN s.data.toList = rn at *
  generalize unesc s.data.toList = cn at *
  obtain ⟨c, n⟩ := cn
  dsimp only at *
  have hsl := slice_to s n hle
  cases ok with
  | true =>
    have e1 : (!((s.extract 0 n).toList == esc c)) = false := by rw [← hok]; rfl
    rw [if_pos rfl] at hC hN
    subst hC hN
    clear hok
    go_enter Tryd.func49, Tryd.ntmps49
    go_wp2_with fail
    refine (hun _ hg).mono ?_
    rintro e w1 ⟨rfl, hb1⟩
    have hg1 := hg.below hb1
    have ht1 : Tab w1.drew := hg1.tab
    clear hun
    go_wp2_with fail
    go_region_with (go_at_call 42; refine (written_any rc _ ht1).mono ?_; rintro e w2 ⟨rfl, hb2⟩)
    all_goals go_wp2_with fail
    all_goals go_ret3
    all_goals exact ⟨rfl, bthen hb1.drew hb2⟩
  | false =>
    have e1 : (!((s.extract 0 n).toList == esc c)) = true := by rw [← hok]; rfl
    rw [if_neg (by decide)] at hC hN
    subst hC hN
    clear hok
    go_enter Tryd.func49, Tryd.ntmps49
    go_wp2_with fail
    refine (hun _ hg).mono ?_
    rintro e w1 ⟨rfl, hb1⟩
    have hg1 := hg.below hb1
    have ht1 : Tab w1.drew := hg1.tab
    clear hun
    go_wp2_with fail
    go_region_with (go_at_call 42; refine (written_any c _ ht1).mono ?_; rintro e w2 ⟨rfl, hb2⟩)
    all_goals go_wp2_with fail
    all_goals go_ret3
    all_goals exact ⟨rfl, bthen hb1.drew hb2⟩
end Go.Proofs.YtceafomifpkiaaaDoor
