/- The walk of derricklaw05.RecordVery: what is taken may be, and stands ahead of the place that is told; cut off ahead of that it can't be taken. -/
import Derived.Test.YtlphbeaaeeohjaaDoorRqs
import Derived.Deep.DeepCutAuto
namespace Go.Proofs.YtlphbeaaeeohjaaDoor
open Go.RowKit
set_option linter.unusedVariables false

theorem mayR_size {r : Rc} (h : mayR r = true) : r.n.size ≤ 255 ∧ r.d.size ≤ 65535 := by
  unfold mayR at h
  rw [Bool.and_eq_true] at h
  refine ⟨(may_name h.1).size, ?_⟩
  have := h.2
  unfold mayD at this
  rw [Bool.and_eq_true, decide_eq_true_iff] at this
  exact this.1
theorem cut_pre (s : ByteArray) (m : Nat) : s.data.toList = (s.extract 0 m).data.toList ++ s.data.toList.drop m := by rw [ext_list, List.take_append_drop]

set_option maxRecDepth 100000 in
set_option maxHeartbeats 2000000 in
theorem very_walk (s : ByteArray) (a c : Nat) (hs : s.size ≤ 140737488355328) (ha : a < 256) (hc : c < 65536) (w : World) (hL : Lay w) :
    Calls Tryd.prog 6 #[.string s, .int .u8 (a : Nat), .int .u16 (c : Nat)] w fun e w' => e = .returned (.bool true) ∧ Below w.heap.size w w' := by
  have HL := Lib.hid hL
  have H0 := Lib.hid (lay_lt hL)
  clear hL
  go_enter Tryd.func6, Tryd.ntmps6
  go_wp2_with fail
  refine (rshown_any _ HL.out).mono ?_
  rintro e w1 ⟨rfl, hb1⟩
  have HB1 := Lib.hid hb1
  have HL1 := Lib.hid (HL.out.below H0.out hb1)
  clear hb1
  by_cases hbig : 1000 < s.size
  · have hb : decide ((1000 : Int) < (s.size : Int)) = true := by simp; omega
    go_wp2_with fail
    go_ret
    exact ⟨rfl, HB1.out⟩
  have hnb : decide ((1000 : Int) < (s.size : Int)) = false := by simp; omega
  have hT := fun w' hL' => taker_any s (a : Nat) (by omega) (by unfold maxLen; omega) w' hL'
  rcases r_cases s (a : Nat) with ⟨h1, h2, h3, h4⟩ | ⟨r, h1, h2, h3, h4⟩
  · rw [h2, h3, h4] at hT
    have HT := Lib.hid (show ∀ w', Lay w' → Calls Tryd.prog 11 #[.string s, .int .i64 (a : Nat)] w' fun en w'' => en = .returned (.tuple #[.agg #[.string ⟨#[]⟩, .int .u16 0, .int .u16 0, .int .u32 0, .string ⟨#[]⟩], .int .i64 0, .int .i64 2]) ∧ Below w'.heap.size w' w'' from hT)
    clear hT h1 h2 h3 h4
    go_wp2_with fail
    refine (HT.out _ HL1.out).mono ?_
    rintro e w2 ⟨rfl, hb2⟩
    have HB2 := Lib.hid (HB1.out.trans (hb2.mono HB1.out.size))
    clear hb2
    go_wp2_with fail
    go_ret
    exact ⟨rfl, HB2.out.alloc HB2.out.size _⟩
  · obtain ⟨g1, g2, g3, g4⟩ := tkR_is h1
    obtain ⟨z1, z2⟩ := mayR_size g2
    rw [h2, h3, h4] at hT
    obtain ⟨⟨n, k, d, t, x⟩, X⟩ := r
    simp only at g1 g2 g3 g4 z1 z2 hT
    obtain ⟨m, hm⟩ : ∃ m, c % X = m := ⟨_, rfl⟩
    have hmX : m < X := by rw [← hm]; exact Nat.mod_lt _ (by omega)
    have hcut := r_none (tkR_cut (s' := s.extract 0 m) (cut_pre s m) h1 (by rw [ByteArray.size_extract]; simp only; omega))
    have hT2 := fun w' hL' => taker_any (s.extract 0 m) (a : Nat) (by rw [ByteArray.size_extract]; omega) (by unfold maxLen; omega) w' hL'
    rw [hcut.1, hcut.2.1, hcut.2.2] at hT2
    have HT := Lib.hid hT
    have HU := Lib.hid (show ∀ w', Lay w' → Calls Tryd.prog 11 #[.string (s.extract 0 m), .int .i64 (a : Nat)] w' fun en w'' => en = .returned (.tuple #[.agg #[.string ⟨#[]⟩, .int .u16 0, .int .u16 0, .int .u32 0, .string ⟨#[]⟩], .int .i64 0, .int .i64 2]) ∧ Below w'.heap.size w' w'' from hT2)
    have HM := Lib.hid (fun w' hL' => mayr_any ⟨n, k, d, t, x⟩ (by simp only; omega) (by simp only; omega) g1 w' hL')
    rw [g2] at HM
    have hrem : ((c : Nat) : Int).tmod ((X : Nat) : Int) = ((m : Nat) : Int) := by rw [← hm]; rfl
    have hX0 : ¬ ((X : Nat) : Int) = 0 := by omega
    have b1 : decide (((X : Nat) : Int) ≤ ((a : Nat) : Int)) = false := by simp; omega
    have b2 : decide (((s.size : Nat) : Int) < ((X : Nat) : Int)) = false := by simp; omega
    have hms : m ≤ s.size := by omega
    clear hT hT2 h1 h2 h3 h4 hcut hm g1 g2 z1 z2
    go_wp2_with fail
    refine (HT.out _ HL1.out).mono ?_
    rintro e w2 ⟨rfl, hb2⟩
    have HB2 := Lib.hid (HB1.out.trans (hb2.mono HB1.out.size))
    clear hb2
    have HB3 := Lib.hid (HB2.out.alloc HB2.out.size (Obj.cells #[.string n, .int .u16 (k : Nat), .int .u16 (d : Nat), .int .u32 (t : Nat), .string x] 25))
    have HX3 := Lib.hid (World.alloc_heap_new w2 (Obj.cells #[.string n, .int .u16 (k : Nat), .int .u16 (d : Nat), .int .u32 (t : Nat), .string x] 25))
    have HL3 := Lib.hid (HL.out.below H0.out HB3.out)
    go_wp2_with fail
    refine (HU.out _ HL3.out).mono ?_
    rintro e w4 ⟨rfl, hb4⟩
    obtain ⟨w5, hw5⟩ : ∃ w5, w5 = w4.alloc (Obj.cells #[.string ⟨#[]⟩, .int .u16 0, .int .u16 0, .int .u32 0, .string ⟨#[]⟩] 25) := ⟨_, rfl⟩
    have HB5 := Lib.hid (((HB3.out.trans (hb4.mono HB3.out.size)).alloc (HB3.out.trans (hb4.mono HB3.out.size)).size (Obj.cells #[.string ⟨#[]⟩, .int .u16 0, .int .u16 0, .int .u32 0, .string ⟨#[]⟩] 25)))
    have hx5 := (heap_alloc_old w4 (Obj.cells #[.string ⟨#[]⟩, .int .u16 0, .int .u16 0, .int .u32 0, .string ⟨#[]⟩] 25) (Nat.lt_of_lt_of_le (heap_lt HX3.out) hb4.size)).trans ((hb4.block w2.heap.size (heap_lt HX3.out)).trans HX3.out)
    rw [← hw5] at hx5 HB5
    have HW5 := Lib.hid hw5
    have HL5 := Lib.hid (HL.out.below H0.out HB5.out)
    have c0 : w5.cell? ⟨w2.heap.size, 0, none⟩ = some (.string n) := blk_cell hx5 0
    have c1 : w5.cell? ⟨w2.heap.size, 1, none⟩ = some (.int .u16 (k : Nat)) := blk_cell hx5 1
    have c2 : w5.cell? ⟨w2.heap.size, 2, none⟩ = some (.int .u16 (d : Nat)) := blk_cell hx5 2
    have c3 : w5.cell? ⟨w2.heap.size, 3, none⟩ = some (.int .u32 (t : Nat)) := blk_cell hx5 3
    have c4 : w5.cell? ⟨w2.heap.size, 4, none⟩ = some (.string x) := blk_cell hx5 4
    clear hb4 hx5 hw5 HB2 HB3 HX3 HL3 HU HT
    go_upto_region 10 with (fail)
    rw [← HW5.out]
    go_wp2_with fail
    refine (HM.out _ HL5.out).mono ?_
    rintro e w6 ⟨rfl, hb6⟩
    have HB6 := Lib.hid (HB5.out.trans (hb6.mono HB5.out.size))
    clear hb6 c0 c1 c2 c3 c4
    go_wp2_with fail
    go_ret
    exact ⟨rfl, HB6.out⟩
end Go.Proofs.YtlphbeaaeeohjaaDoor
