/- The walk of derricklaw09.HashTells, all cases. -/
import Derived.Test.YtdgbmcjlnpfndaaHtt
namespace Go.Proofs.Ytdgbmcjlnpfndaa
open Go.RowKit
set_option linter.unusedVariables false

set_option maxRecDepth 100000 in
set_option maxHeartbeats 1000000 in
theorem tells_s (s : ByteArray) (r : Rc) (A : Option Addr) (cap : Nat) (l : List Rc) (a : Int) (hl : l.length ≤ 9223372036854775807) (hs : 2000 < s.size) (w : World) (hI : Sl qf w A cap l) :
    Calls Try.prog 3 #[.string s, qV r, .slice A l.length cap, .int .i64 a] w fun e w' => e = .returned (.bool true) ∧ Below w.heap.size w w' := by
  have HS := Lib.hid (fun w => shown_any w)
  have HW := Lib.hid (fun W (h : Below w.heap.size w W) => few_any A cap l hl W (hI.below' h))
  obtain ⟨n, k, c, t, d⟩ := r
  unfold qV at *
  simp only at *
  have HX := Lib.hid (Kb.start w n k c)
  obtain ⟨W, hW⟩ : ∃ W, W = w.alloc (Obj.cells #[.string n, .int .u16 (k : Nat), .int .u16 (c : Nat)] 24) := ⟨_, rfl⟩
  rw [← hW] at HX
  have HH := Lib.hid hW
  have c0 := HX.out.all
  have d0 : decide ((s.size : Int) > 2000) = true := by simp; omega
  clear hW hI
  go_enter Try.func3, Try.ntmps3
  go_upto_region 1 with (fail)
  rw [← HH.out]
  clear HH
  go_wp2_with (go_at_call 8; with_reducible (refine (HS.out _).mono ?_); rintro e w1 ⟨rfl, rfl⟩)
  go_ret
  exact ⟨rfl, HX.out.bel⟩

set_option maxRecDepth 100000 in
set_option maxHeartbeats 1000000 in
theorem tells_n (s : ByteArray) (r : Rc) (A : Option Addr) (cap : Nat) (l : List Rc) (a : Int) (hl : l.length ≤ 9223372036854775807) (hs : ¬ 2000 < s.size) (hn : 300 < r.n.size) (w : World) (hI : Sl qf w A cap l) :
    Calls Try.prog 3 #[.string s, qV r, .slice A l.length cap, .int .i64 a] w fun e w' => e = .returned (.bool true) ∧ Below w.heap.size w w' := by
  have HS := Lib.hid (fun w => shown_any w)
  have HW := Lib.hid (fun W (h : Below w.heap.size w W) => few_any A cap l hl W (hI.below' h))
  obtain ⟨n, k, c, t, d⟩ := r
  unfold qV at *
  simp only at *
  have HX := Lib.hid (Kb.start w n k c)
  obtain ⟨W, hW⟩ : ∃ W, W = w.alloc (Obj.cells #[.string n, .int .u16 (k : Nat), .int .u16 (c : Nat)] 24) := ⟨_, rfl⟩
  rw [← hW] at HX
  have HH := Lib.hid hW
  have c0 := HX.out.all
  have d0 : decide ((s.size : Int) > 2000) = false := by simp; omega
  have d1 : decide ((n.size : Int) > 300) = true := by simp; omega
  clear hW hI
  go_enter Try.func3, Try.ntmps3
  go_upto_region 1 with (fail)
  rw [← HH.out]
  clear HH
  go_wp2_with (go_at_call 8; with_reducible (refine (HS.out _).mono ?_); rintro e w1 ⟨rfl, rfl⟩)
  go_ret
  exact ⟨rfl, HX.out.bel⟩

set_option maxRecDepth 100000 in
set_option maxHeartbeats 1000000 in
theorem tells_l (s : ByteArray) (r : Rc) (A : Option Addr) (cap : Nat) (l : List Rc) (a : Int) (hl : l.length ≤ 9223372036854775807) (hs : ¬ 2000 < s.size) (hn : ¬ 300 < r.n.size) (hf : fewQ l = false) (w : World) (hI : Sl qf w A cap l) :
    Calls Try.prog 3 #[.string s, qV r, .slice A l.length cap, .int .i64 a] w fun e w' => e = .returned (.bool true) ∧ Below w.heap.size w w' := by
  have HS := Lib.hid (fun w => shown_any w)
  have HW := Lib.hid (fun W (h : Below w.heap.size w W) => few_any A cap l hl W (hI.below' h))
  rw [hf] at HW
  obtain ⟨n, k, c, t, d⟩ := r
  unfold qV at *
  simp only at *
  have HX := Lib.hid (Kb.start w n k c)
  obtain ⟨W, hW⟩ : ∃ W, W = w.alloc (Obj.cells #[.string n, .int .u16 (k : Nat), .int .u16 (c : Nat)] 24) := ⟨_, rfl⟩
  rw [← hW] at HX
  have HH := Lib.hid hW
  have c0 := HX.out.all
  have d0 : decide ((s.size : Int) > 2000) = false := by simp; omega
  have d1 : decide ((n.size : Int) > 300) = false := by simp; omega
  clear hW hI
  go_enter Try.func3, Try.ntmps3
  go_upto_region 1 with (fail)
  rw [← HH.out]
  clear HH
  go_wp2_with (first
    | (go_at_call 8; with_reducible (refine (HS.out _).mono ?_); rintro e w1 ⟨rfl, rfl⟩)
    | (go_at_call 9; with_reducible (refine (HW.out _ HX.out.bel).mono ?_); rintro e w1 ⟨rfl, rfl⟩))
  go_ret
  exact ⟨rfl, HX.out.bel⟩

theorem tells_walk (s : ByteArray) (r : Rc) (A : Option Addr) (cap : Nat) (l : List Rc) (a : Int) (hz : s.size ≤ 140737488355328) (hr : r.Ok) (ho : ∀ r ∈ l, r.Ok) (hl : l.length ≤ 9223372036854775807) (ha : (Lit.int .i64 a).wf = true) (W : World) (hI : Sl qf W A cap l) :
    Calls Try.prog 3 #[.string s, qV r, .slice A l.length cap, .int .i64 a] W fun e w' => e = .returned (.bool true) ∧ Below W.heap.size W w' := by
  by_cases hs : 2000 < s.size
  · exact tells_s s r A cap l a hl hs W hI
  by_cases hn : 300 < r.n.size
  · exact tells_n s r A cap l a hl hs hn W hI
  cases hf : fewQ l with
  | false => exact tells_l s r A cap l a hl hs hn hf W hI
  | true => exact tells_core s r A cap l a (by omega) hr (by omega) ho hf W hI
end Go.Proofs.Ytdgbmcjlnpfndaa
