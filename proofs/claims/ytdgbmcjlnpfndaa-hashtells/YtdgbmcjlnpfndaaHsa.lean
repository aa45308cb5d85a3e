/- Hashes: their mathematics, and the contracts of hash.Of, of the document's Of, of both Keys. -/
import Derived.Test.YtdgbmcjlnpfndaaQsl
import Derived.Laws.Bits64
import Derived.Deep.RegionHeld3
namespace Go.Proofs.Ytdgbmcjlnpfndaa
open Go.RowKit
set_option linter.unusedVariables false

/-- One step, and the hash of bytes. -/
def fnv1 (h : Nat) (b : UInt8) : Nat := (h ^^^ b.toNat) * 16777619 % 4294967296
def fnvL (l : List UInt8) : Nat := l.foldl fnv1 2166136261
def fnv (s : ByteArray) : Nat := fnvL s.data.toList
theorem mod32_lt (x : Nat) : x % 4294967296 < 4294967296 := by omega
theorem fnv1_lt (h : Nat) (b : UInt8) : fnv1 h b < 4294967296 := mod32_lt _
theorem fnvL_snoc (l : List UInt8) (b : UInt8) : fnvL (l ++ [b]) = fnv1 (fnvL l) b := by unfold fnvL; rw [List.foldl_append, List.foldl_cons, List.foldl_nil]
theorem fnvL_lt (l : List UInt8) : fnvL l < 4294967296 := by
  rcases List.eq_nil_or_concat l with rfl | ⟨m, b, rfl⟩
  · exact (by omega : (2166136261 : Nat) < 4294967296)
  · rw [List.concat_eq_append, fnvL_snoc]; exact fnv1_lt _ _
theorem fnv_lt (s : ByteArray) : fnv s < 4294967296 := fnvL_lt _
theorem fnv_take (s : ByteArray) (j : Nat) (hj : j < s.size) : fnvL (s.data.toList.take (j + 1)) = fnv1 (fnvL (s.data.toList.take j)) s[j] := by
  have hl : j < s.data.toList.length := by simpa using hj
  rw [List.take_add_one, List.getElem?_eq_getElem hl]
  exact fnvL_snoc _ _
theorem fnv_all (s : ByteArray) : fnvL (s.data.toList.take s.size) = fnv s := by
  unfold fnv
  rw [List.take_of_length_le (by simp)]
theorem bits_xor_u32 (a b : Nat) (ha : a < 4294967296) (hb : b < 4294967296) : bits .xor .u32 (a : Int) (b : Int) = ((a ^^^ b : Nat) : Int) := by
  have hx : a ^^^ b < 2 ^ 32 := Nat.xor_lt_two_pow (by omega) (by omega)
  have h1 : (BitVec.ofInt 32 (a : Int)).toNat = a := by
    rw [BitVec.ofInt_natCast, BitVec.toNat_ofNat]; exact Nat.mod_eq_of_lt (by omega)
  have h2 : (BitVec.ofInt 32 (b : Int)).toNat = b := by
    rw [BitVec.ofInt_natCast, BitVec.toNat_ofNat]; exact Nat.mod_eq_of_lt (by omega)
  show IntKind.u32.wrap ((BitVec.ofInt 32 (a : Int) ^^^ BitVec.ofInt 32 (b : Int)).toNat : Int) = _
  rw [BitVec.toNat_xor, h1, h2]
  exact IntWalk.u32_in _ (by omega)
theorem wrap_u32 (n : Int) : IntKind.u32.wrap n = n % 4294967296 := by simp [IntKind.wrap, IntKind.bits, IntKind.signed]
theorem mod32_in {h : Nat} (hh : h < 4294967296) : (h : Int) % 4294967296 = h := by omega
theorem byte32 (b : UInt8) : (b.toNat : Int) % 4294967296 = b.toNat := by have := b.toNat_lt; omega
theorem step32 (h : Nat) (b : UInt8) (hh : h < 4294967296) : bits .xor .u32 (h : Int) ((b.toNat : Int) % 4294967296) * 16777619 % 4294967296 = (fnv1 h b : Nat) := by
  rw [byte32, bits_xor_u32 h b.toNat hh (by have := b.toNat_lt; omega)]
  unfold fnv1
  generalize h ^^^ b.toNat = x
  omega
theorem step64 (h : Nat) (b : UInt8) (hh : h < 4294967296) : (IntKind.u64.wrap (bits .xor .u64 (h : Int) (IntKind.u64.wrap (b.toNat : Int)) * 16777619)).tmod 4294967296 = (fnv1 h b : Nat) := by
  have hb := b.toNat_lt
  have eb : IntKind.u64.wrap (b.toNat : Int) = b.toNat := by rw [IntKind.wrap_u64]; omega
  rw [eb, bits_xor_u64_nat h b.toNat (by omega) (by omega), IntKind.wrap_u64]
  unfold fnv1
  generalize h ^^^ b.toNat = x
  rw [Int.tmod_eq_emod_of_nonneg (by omega)]
  omega

set_option maxRecDepth 100000 in
set_option maxHeartbeats 1000000 in
theorem of_any (s : ByteArray) (hs : s.size ≤ 1000000) (w : World) : Calls Try.prog 10 #[.string s] w fun e w' => e = .returned (.int .u32 (fnv s : Nat)) ∧ w' = w := by
  go_enter Try.func10, Try.ntmps10
  go_wp2_with fail
  go_loopw [3, 4, 7] (fun h _ i wr => ∃ j : Nat, j ≤ s.size ∧ i = .int .i64 j ∧ h = .int .u32 (fnvL (s.data.toList.take j) : Nat) ∧ wr = w) (fun _ _ i _ => s.size - (intOf i).toNat)
  case atStart => exact ⟨0, Nat.zero_le _, rfl, rfl, rfl⟩
  case round =>
    obtain ⟨j, hj, rfl, rfl, rfl⟩ := hrel
    by_cases hlt : j < s.size
    · have HT := Lib.hid (fnv_take s j hlt)
      have HL := Lib.hid (fnvL_lt (s.data.toList.take j))
      generalize fnvL (s.data.toList.take j) = h at *
      go_wp2_with fail
      go_roundw
      case rel => exact ⟨j + 1, hlt, by go_num, by rw [HT.out]; exact congrArg _ (step32 h _ HL.out), by first | rfl | trivial⟩
      case measure => simp [intOf]; omega
    · obtain rfl : j = s.size := by omega
      rw [fnv_all]
      go_wp2_with fail
      go_ret
      exact ⟨rfl, rfl⟩

set_option maxRecDepth 100000 in
set_option maxHeartbeats 1000000 in
theorem rof_any (s : ByteArray) (hs : s.size ≤ 1000000) (w : World) : Calls Try.prog 11 #[.string s] w fun e w' => e = .returned (.int .u32 (fnv s : Nat)) ∧ w' = w := by
  go_enter Try.func11, Try.ntmps11
  go_wp2_with fail
  go_loopw [3, 4] (fun h i wr => ∃ j : Nat, j ≤ s.size ∧ i = .int .i64 j ∧ h = .int .u64 (fnvL (s.data.toList.take j) : Nat) ∧ wr = w) (fun _ i _ => s.size - (intOf i).toNat)
  case atStart => exact ⟨0, Nat.zero_le _, rfl, rfl, rfl⟩
  case round =>
    obtain ⟨j, hj, rfl, rfl, rfl⟩ := hrel
    by_cases hlt : j < s.size
    · have HT := Lib.hid (fnv_take s j hlt)
      have HL := Lib.hid (fnvL_lt (s.data.toList.take j))
      generalize fnvL (s.data.toList.take j) = h at *
      go_wp2_with fail
      go_roundw
      case rel => exact ⟨j + 1, hlt, by go_num, by rw [HT.out]; exact congrArg _ (step64 h _ HL.out), by first | rfl | trivial⟩
      case measure => simp [intOf]; omega
    · obtain rfl : j = s.size := by omega
      rw [fnv_all]
      go_wp2_with fail
      go_ret
      exact ⟨congrArg Ending.returned (congrArg (Value.int .u32) (mod32_in (fnv_lt s))), rfl⟩

/-- A question as a string. -/
def keyB (r : Rc) : ByteArray := r.n ++ Oc.bstr r.k 2 ++ Oc.bstr r.c 2
theorem keyB_size (r : Rc) : (keyB r).size = r.n.size + 4 := by unfold keyB; rw [ByteArray.size_append, ByteArray.size_append, Oc.bstr_size, Oc.bstr_size]

/-- The box in which a call holds its question. -/
structure Kb (w : World) (n : ByteArray) (k c : Nat) (W : World) : Prop where
  bel : Below w.heap.size w W
  one : W.heap[w.heap.size]? = some (.cells #[.string n, .int .u16 (k : Nat), .int .u16 (c : Nat)] 24 (0, 0))
section
variable {w W W' : World} {n : ByteArray} {k c : Nat}
theorem Kb.call (h : Kb w n k c W) (hb : Below W.heap.size W W') : Kb w n k c W' := ⟨h.bel.trans (hb.mono h.bel.size), (hb.block _ (heap_lt h.one)).trans h.one⟩
theorem Kb.drew (h : Kb w n k c W) : Kb w n k c W.drew := ⟨h.bel.drew, h.one⟩
theorem Kb.start (w : World) (n : ByteArray) (k c : Nat) : Kb w n k c (w.alloc (Obj.cells #[.string n, .int .u16 (k : Nat), .int .u16 (c : Nat)] 24)) := ⟨(Below.refl _ _).alloc (Nat.le_refl _) _, heap_alloc_new w _⟩
theorem Kb.all (h : Kb w n k c W) : W.cell? ⟨w.heap.size, 0, none⟩ = some (.string n) ∧ W.cell? ⟨w.heap.size, 1, none⟩ = some (.int .u16 (k : Nat)) ∧ W.cell? ⟨w.heap.size, 2, none⟩ = some (.int .u16 (c : Nat)) := ⟨blk_cell h.one 0, blk_cell h.one 1, blk_cell h.one 2⟩
end


set_option maxRecDepth 100000 in
set_option maxHeartbeats 1000000 in
theorem key_any (r : Rc) (hr : r.Ok) (hs : r.n.size ≤ 100000) (w : World) : Calls Try.prog 12 #[qV r] w fun e w' => e = .returned (.string (keyB r)) ∧ Below w.heap.size w w' := by
  obtain ⟨n, k, c, t, d⟩ := r
  obtain ⟨h1, h2, h3⟩ := hr
  unfold qV keyB
  simp only at *
  have HC1 := Lib.hid (fun w => Oc.Put16b (k : Nat) w (by omega) (by omega))
  have HC2 := Lib.hid (fun w => Oc.Put16b (c : Nat) w (by omega) (by omega))
  have z1 : (Oc.bstr (k : Nat) 2).size = 2 := Oc.bstr_size _ _
  have z2 : (Oc.bstr (c : Nat) 2).size = 2 := Oc.bstr_size _ _
  generalize Oc.bstr (k : Nat) 2 = X at *
  generalize Oc.bstr (c : Nat) 2 = Y at *
  have g0 : (n ++ X).size = n.size + X.size := ByteArray.size_append
  have g1 : ¬ (n.size + X.size > 9223372036854775807) := by omega
  have g2 : ¬ ((n ++ X).size + Y.size > 9223372036854775807) := by omega
  have q1 : ∀ w, (Op.stringOp .add n X).run Try.prog w = .ok (.string (n ++ X)) w := fun w => run_string_add_sum w _ _ (by omega)
  have q2 : ∀ w, (Op.stringOp .add (n ++ X) Y).run Try.prog w = .ok (.string (n ++ X ++ Y)) w := fun w => run_string_add_sum w _ _ (by omega)
  have HS := Lib.hid (Kb.start w n k c)
  obtain ⟨W, hW⟩ : ∃ W, W = w.alloc (Obj.cells #[.string n, .int .u16 (k : Nat), .int .u16 (c : Nat)] 24) := ⟨_, rfl⟩
  rw [← hW] at HS
  have HH := Lib.hid hW
  clear hW h1 h2 h3 hs z1 z2 g0 g1 g2
  go_enter Try.func12, Try.ntmps12
  go_wp2_with fail
  rw [← HH.out]
  clear HH
  go_region_held3 (fun w' => w'.cell? ⟨w.heap.size, 0, none⟩ = some (.string n) ∧ w'.cell? ⟨w.heap.size, 1, none⟩ = some (.int .u16 (k : Nat)) ∧ w'.cell? ⟨w.heap.size, 2, none⟩ = some (.int .u16 (c : Nat))) (first | exact HS.out.all | exact HS2.out.all | exact HS3.out.all) (first
    | (go_at_call 19; with_reducible (refine (HC1.out _).mono ?_); rintro e w2 ⟨rfl, hb2⟩; have HS2 := Lib.hid (HS.out.drew.call hb2); clear hb2)
    | (go_at_call 19; with_reducible (refine (HC2.out _).mono ?_); rintro e w3 ⟨rfl, hb3⟩; have HS3 := Lib.hid (HS2.out.call hb3); clear hb3))
  go_wp2_with fail
  go_ret
  exact ⟨rfl, HS3.out.bel⟩

set_option maxRecDepth 100000 in
set_option maxHeartbeats 1000000 in
theorem rkey_any (r : Rc) (hr : r.Ok) (hs : r.n.size ≤ 100000) (w : World) : Calls Try.prog 13 #[qV r] w fun e w' => e = .returned (.string (keyB r)) ∧ Below w.heap.size w w' := by
  obtain ⟨n, k, c, t, d⟩ := r
  obtain ⟨h1, h2, h3⟩ := hr
  unfold qV keyB
  simp only at *
  have HC1 := Lib.hid (fun w => Oc.rput16 (k : Nat) w (by omega) (by omega))
  have HC2 := Lib.hid (fun w => Oc.rput16 (c : Nat) w (by omega) (by omega))
  have z1 : (Oc.bstr (k : Nat) 2).size = 2 := Oc.bstr_size _ _
  have z2 : (Oc.bstr (c : Nat) 2).size = 2 := Oc.bstr_size _ _
  generalize Oc.bstr (k : Nat) 2 = X at *
  generalize Oc.bstr (c : Nat) 2 = Y at *
  have g0 : (n ++ X).size = n.size + X.size := ByteArray.size_append
  have g1 : ¬ (n.size + X.size > 9223372036854775807) := by omega
  have g2 : ¬ ((n ++ X).size + Y.size > 9223372036854775807) := by omega
  have q1 : ∀ w, (Op.stringOp .add n X).run Try.prog w = .ok (.string (n ++ X)) w := fun w => run_string_add_sum w _ _ (by omega)
  have q2 : ∀ w, (Op.stringOp .add (n ++ X) Y).run Try.prog w = .ok (.string (n ++ X ++ Y)) w := fun w => run_string_add_sum w _ _ (by omega)
  have HS := Lib.hid (Kb.start w n k c)
  obtain ⟨W, hW⟩ : ∃ W, W = w.alloc (Obj.cells #[.string n, .int .u16 (k : Nat), .int .u16 (c : Nat)] 24) := ⟨_, rfl⟩
  rw [← hW] at HS
  have HH := Lib.hid hW
  clear hW h1 h2 h3 hs z1 z2 g0 g1 g2
  go_enter Try.func13, Try.ntmps13
  go_wp2_with fail
  rw [← HH.out]
  clear HH
  go_region_held3 (fun w' => w'.cell? ⟨w.heap.size, 0, none⟩ = some (.string n) ∧ w'.cell? ⟨w.heap.size, 1, none⟩ = some (.int .u16 (k : Nat)) ∧ w'.cell? ⟨w.heap.size, 2, none⟩ = some (.int .u16 (c : Nat))) (first | exact HS.out.all | exact HS2.out.all | exact HS3.out.all) (first
    | (go_at_call 20; with_reducible (refine (HC1.out _).mono ?_); rintro e w2 ⟨rfl, hb2⟩; have HS2 := Lib.hid (HS.out.drew.call hb2); clear hb2)
    | (go_at_call 20; with_reducible (refine (HC2.out _).mono ?_); rintro e w3 ⟨rfl, hb3⟩; have HS3 := Lib.hid (HS2.out.call hb3); clear hb3))
  go_wp2_with fail
  go_ret
  exact ⟨rfl, HS3.out.bel⟩
end Go.Proofs.Ytdgbmcjlnpfndaa
