/- The walk of derricklaw09.HashTells. -/
import Derived.Test.YtdgbmcjlnpfndaaHsd
namespace Go.Proofs.Ytdgbmcjlnpfndaa
open Go.RowKit
set_option linter.unusedVariables false

theorem cntI_le (l : List Rc) (a : Int) : (cntI l a).length ≤ 1000 := by
  unfold cntI
  split
  · rename_i h
    obtain ⟨m, rfl, h1, h2⟩ := mayM_nat h
    rw [cnts_len]
    omega
  · exact Nat.zero_le _

set_option maxRecDepth 100000 in
set_option maxHeartbeats 4000000 in
theorem tells_core (s : ByteArray) (r : Rc) (A : Option Addr) (cap : Nat) (l : List Rc) (a : Int) (hs : s.size ≤ 2000) (hr : r.Ok) (hn : r.n.size ≤ 300) (ho : ∀ r ∈ l, r.Ok) (hf : fewQ l = true) (w : World) (hI : Sl qf w A cap l) :
    Calls Try.prog 3 #[.string s, qV r, .slice A l.length cap, .int .i64 a] w fun e w' => e = .returned (.bool true) ∧ Below w.heap.size w w' := by
  obtain ⟨hl, hnn⟩ := fewQ_out hf
  have ho' : ∀ r ∈ l, r.Ok ∧ r.n.size ≤ 100000 := fun r h => ⟨ho r h, Nat.le_trans (hnn r h) (by omega)⟩
  have HS := Lib.hid (fun w => shown_any w)
  have H1 := Lib.hid (fun w => of_any s (by omega) w)
  have H2 := Lib.hid (fun w => rof_any s (by omega) w)
  have H3 := Lib.hid (fun w => key_any r hr (by omega) w)
  have H4 := Lib.hid (fun w => rkey_any r hr (by omega) w)
  have H5 := Lib.hid (fun w => shardI r hr (by omega) a w)
  have H6 := Lib.hid (fun w => rshardI r hr (by omega) a w)
  have H7 := Lib.hid (fun W (h : Below w.heap.size w W) => spreadI A cap l (by omega) ho' a W (hI.below' h))
  have H8 := Lib.hid (fun W (h : Below w.heap.size w W) => rspreadI A cap l (by omega) ho' a W (hI.below' h))
  have HLn := Lib.hid (cntI_le l a)
  have HW := Lib.hid (fun W (h : Below w.heap.size w W) => few_any A cap l (by omega) W (hI.below' h))
  rw [hf] at HW
  generalize cntI l a = L at *
  generalize shI r a = x at *
  generalize keyB r = K at *
  generalize fnv s = f at *
  obtain ⟨n, k, c, t, d⟩ := r
  unfold qV at *
  simp only at *
  have HX := Lib.hid (Kb.start w n k c)
  obtain ⟨W, hW⟩ : ∃ W, W = w.alloc (Obj.cells #[.string n, .int .u16 (k : Nat), .int .u16 (c : Nat)] 24) := ⟨_, rfl⟩
  rw [← hW] at HX
  have HH := Lib.hid hW
  have c0 := HX.out.all
  have d0 : decide ((s.size : Int) > 2000) = false := by simp; omega
  have d1 : decide ((n.size : Int) > 300) = false := by simp; omega
  clear hW hs hr hn ho hf hI hl hnn ho'
  go_enter Try.func3, Try.ntmps3
  go_upto_region 1 with (fail)
  rw [← HH.out]
  clear HH
  go_upto_region 4 with (first
    | (go_at_call 8; with_reducible (refine (HS.out _).mono ?_); rintro e w1 ⟨rfl, rfl⟩)
    | (go_at_call 9; with_reducible (refine (HW.out _ HX.out.bel).mono ?_); rintro e w1 ⟨rfl, rfl⟩))
  first | (go_region_held3 (fun w' => w'.cell? ⟨w.heap.size, 0, none⟩ = some (.string n) ∧ w'.cell? ⟨w.heap.size, 1, none⟩ = some (.int .u16 (k : Nat)) ∧ w'.cell? ⟨w.heap.size, 2, none⟩ = some (.int .u16 (c : Nat))) (first | exact HX.out.all | exact HX3.out.all | exact HX4.out.all | exact HX5.out.all | exact HX6.out.all | exact HX7.out.all | exact HX8.out.all | exact HX9.out.all) (first
    | (go_at_call 10; with_reducible (refine (H1.out _).mono ?_); rintro e w1 ⟨rfl, rfl⟩)
    | (go_at_call 11; with_reducible (refine (H2.out _).mono ?_); rintro e w1 ⟨rfl, rfl⟩)
    | (go_at_call 12; with_reducible (refine (H3.out _).mono ?_); rintro e w3 ⟨rfl, hb⟩; have HX3 := Lib.hid (HX.out.drew.call hb); clear hb)
    | (go_at_call 13; with_reducible (refine (H4.out _).mono ?_); rintro e w4 ⟨rfl, hb⟩; have HX4 := Lib.hid (HX3.out.call hb); clear hb)
    | (go_at_call 14; with_reducible (refine (H5.out _).mono ?_); rintro e w5 ⟨rfl, hb⟩; have HX5 := Lib.hid (HX4.out.call hb); clear hb)
    | (go_at_call 15; with_reducible (refine (H6.out _).mono ?_); rintro e w6 ⟨rfl, hb⟩; have HX6 := Lib.hid (HX5.out.call hb); clear hb)
    | (go_at_call 17; with_reducible (refine (H7.out _ HX6.out.bel).mono ?_); rintro e w7 ⟨A7, c7, rfl, hN, hb⟩; have HX7 := Lib.hid (HX6.out.call hb); have HN7 := Lib.hid hN; clear hb hN)
    | (go_at_call 18; with_reducible (refine (H8.out _ HX7.out.bel).mono ?_); rintro e w8 ⟨A8, c8, rfl, hN, hb⟩; have HX8 := Lib.hid (HX7.out.call hb); have HN8 := Lib.hid hN; have HM8 := Lib.hid (HN7.out.below hb); clear hb hN)
    | (go_at_call 16; with_reducible (refine (ints_yes A7 c7 A8 c8 L HLn.out _ HM8.out HN8.out).mono ?_); rintro e w9 ⟨rfl, hb⟩; have HX9 := Lib.hid (HX8.out.call hb); clear hb))) | fail
  go_wp2_with fail
  go_ret
  exact ⟨rfl, HX9.out.bel⟩
end Go.Proofs.Ytdgbmcjlnpfndaa
