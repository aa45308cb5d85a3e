/- The contract of name.written: how a byte of a label stands in a text form. -/
import Derived.Test.YtceafomifpkiaaaDoorNmj
namespace Go.Proofs.YtceafomifpkiaaaDoor
open Go.RowKit
set_option linter.unusedVariables false

/-- How a byte stands in a text form. -/
def esc (c : UInt8) : List UInt8 :=
  if c.toNat = 46 ∨ c.toNat = 92 then [92, c] else if 33 ≤ c.toNat ∧ c.toNat ≤ 126 then [c] else [92, UInt8.ofNat (48 + c.toNat / 100), UInt8.ofNat (48 + c.toNat / 10 % 10), UInt8.ofNat (48 + c.toNat % 10)]

theorem enc_ascii : ∀ c : Fin 128, Utf8.encode ((c.val : Nat) : Int) = ⟨#[UInt8.ofNat c.val]⟩ := by decide +kernel
theorem enc_u8 (c : UInt8) (h : c.toNat < 128) : Utf8.encode (c.toNat : Nat) = ⟨#[c]⟩ := by
  have := enc_ascii ⟨c.toNat, h⟩
  simpa using this
theorem ret_str {a b : ByteArray} (h : a = b) : Ending.returned (.string a) = .returned (.string b) := by rw [h]

/-- The table of powers of ten is as it was laid. -/
def Tab (w : World) : Prop := Lib.TabIs Tryd.prog w "internal/strconv.uint64pow10" .u64 Lib.pow10Tab
theorem var_below {w w' : World} {n : String} {cs : Array Value} (h : w.var? Tryd.prog n = some cs) (hb : Below w.heap.size w w') : w'.var? Tryd.prog n = some cs := by
  unfold World.var? at h ⊢
  cases hg : Tryd.prog.globalNamed n with
  | none => rw [hg] at h; simp at h
  | some g =>
    rw [hg] at h
    simp only [Option.bind_some] at h ⊢
    have hlt : g < w.heap.size := by
      rcases Nat.lt_or_ge g w.heap.size with h1 | h1
      · exact h1
      · rw [Array.getElem?_eq_none h1] at h; cases h
    rw [hb.block g hlt]
    exact h
theorem Tab.below {w w' : World} (h : Tab w) (hb : Below w.heap.size w w') : Tab w' := var_below h hb

set_option maxHeartbeats 1000000 in
theorem written_dot (c : UInt8) (w : World) (h : c.toNat = 46 ∨ c.toNat = 92) :
    Calls Tryd.prog 42 #[.int .u8 (c.toNat : Nat)] w fun e w' => e = .returned (.string ⟨(esc c).toArray⟩) ∧ w = w' := by
  have he : esc c = [92, c] := by unfold esc; rw [if_pos h]
  have hu := enc_u8 c (by omega)
  have hz : ¬ 9223372036854775807 < 1 + (Utf8.encode (c.toNat : Nat)).size := by
    rw [hu]; show ¬ 9223372036854775807 < 1 + 1; omega
  have HE := Lib.hid he
  have HU := Lib.hid hu
  clear he hu
  have h8 : c.toNat ≤ 92 := by omega
  rcases h with h | h
  · have b1 : ((c.toNat : Int) == 46) = true := by simp; omega
    clear h
    go_enter Tryd.func42, Tryd.ntmps42
    go_wp2
    go_ret
    exact ⟨ret_str (by rw [HE.out, HU.out]; rfl), rfl⟩
  · have b1 : ((c.toNat : Int) == 46) = false := by simp; omega
    have b2 : ((c.toNat : Int) == 92) = true := by simp; omega
    clear h
    go_enter Tryd.func42, Tryd.ntmps42
    go_wp2
    go_ret
    exact ⟨ret_str (by rw [HE.out, HU.out]; rfl), rfl⟩

set_option maxRecDepth 100000 in
set_option maxHeartbeats 1000000 in
theorem written_plain (c : UInt8) (w : World) (h1 : c.toNat ≠ 46) (h2 : c.toNat ≠ 92) (h3 : 33 ≤ c.toNat) (h4 : c.toNat ≤ 126) :
    Calls Tryd.prog 42 #[.int .u8 (c.toNat : Nat)] w fun e w' => e = .returned (.string ⟨(esc c).toArray⟩) ∧ w = w' := by
  have he : esc c = [c] := by unfold esc; rw [if_neg (by omega), if_pos (by omega)]
  have hu := enc_u8 c (by omega)
  have HE := Lib.hid he
  have HU := Lib.hid hu
  clear he hu
  have b1 : ((c.toNat : Int) == 46) = false := by simp; omega
  have b2 : ((c.toNat : Int) == 92) = false := by simp; omega
  have b3 : decide ((33 : Int) ≤ (c.toNat : Int)) = true := by simp; omega
  have b4 : decide ((c.toNat : Int) ≤ 126) = true := by simp; omega
  have h8 : c.toNat < 127 := by omega
  clear h1 h2 h3 h4
  go_enter Tryd.func42, Tryd.ntmps42
  go_wp2
  go_ret
  exact ⟨ret_str (by rw [HE.out, HU.out]), rfl⟩

theorem itoa_any (n : Nat) (h : n < 256) (w : World) (ht : Tab w) :
    Calls Tryd.prog 46 #[.int .i64 (n : Nat)] w fun e w' => e = .returned (.string ⟨(Lib.decDigits n).toArray⟩) ∧ Below w.heap.size w w' := by
  refine (Tryd.strconv_Itoa n (by omega) (by omega) w ht).mono ?_
  rintro e w' ⟨rfl, k, os, rfl⟩
  refine ⟨?_, ?_⟩
  · have : Lib.itoa (n : Int) = Lib.decDigits n := by simp [Lib.itoa]
    rw [this]
  · exact ⟨rfl, rfl, rfl, by show w.heap.size ≤ (w.heap ++ os).size; rw [Array.size_append]; omega, fun j hj => by
      show (w.heap ++ os)[j]? = w.heap[j]?
      exact Array.getElem?_append_left hj⟩

def digs (c : UInt8) : List UInt8 := Lib.decDigits c.toNat
theorem digs_len (c : UInt8) : 1 ≤ (digs c).length ∧ (digs c).length ≤ 3 ∧ [92] ++ List.replicate (3 - (digs c).length) 48 ++ digs c = [92, UInt8.ofNat (48 + c.toNat / 100), UInt8.ofNat (48 + c.toNat / 10 % 10), UInt8.ofNat (48 + c.toNat % 10)] := by
  have h := c.toNat_lt
  unfold digs
  by_cases h1 : c.toNat < 10
  · rw [Lib.decDigits, dif_pos h1]
    refine ⟨by simp, by simp, ?_⟩
    have e1 : c.toNat / 100 = 0 := by omega
    have e2 : c.toNat / 10 % 10 = 0 := by omega
    have e3 : c.toNat % 10 = c.toNat := by omega
    rw [e1, e2, e3]; rfl
  · by_cases h2 : c.toNat < 100
    · rw [Lib.decDigits, dif_neg h1, Lib.decDigits, dif_pos (by omega)]
      refine ⟨by simp, by simp, ?_⟩
      have e1 : c.toNat / 100 = 0 := by omega
      have e2 : c.toNat / 10 % 10 = c.toNat / 10 := by omega
      rw [e1, e2]; rfl
    · rw [Lib.decDigits, dif_neg h1, Lib.decDigits, dif_neg (by omega), Lib.decDigits, dif_pos (by omega)]
      refine ⟨by simp, by simp, ?_⟩
      have e1 : c.toNat / 10 / 10 = c.toNat / 100 := by omega
      rw [e1]; rfl

set_option maxHeartbeats 1000000 in
theorem written_num (c : UInt8) (w : World) (ht : Tab w) (h1 : c.toNat ≠ 46) (h2 : c.toNat ≠ 92) (h3 : c.toNat < 33 ∨ 126 < c.toNat) :
    Calls Tryd.prog 42 #[.int .u8 (c.toNat : Nat)] w fun e w' => e = .returned (.string ⟨(esc c).toArray⟩) ∧ Below w.heap.size w w' := by
  obtain ⟨d1, d2, d3⟩ := digs_len c
  have he : esc c = [92] ++ List.replicate (3 - (digs c).length) 48 ++ digs c := by rw [d3]; unfold esc; rw [if_neg (by omega), if_neg (by omega)]
  have HE := Lib.hid he
  have h8 : c.toNat < 256 := c.toNat_lt
  have b1 : ((c.toNat : Int) == 46) = false := by simp; omega
  have b2 : ((c.toNat : Int) == 92) = false := by simp; omega
  clear h1 h2 he d3
  have hit : ∀ w, Tab w → Calls Tryd.prog 46 #[.int .i64 (c.toNat : Nat)] w fun e w' => e = .returned (.string ⟨(digs c).toArray⟩) ∧ Below w.heap.size w w' := fun w h => itoa_any c.toNat h8 w h
  have hsz : (ByteArray.mk (digs c).toArray).size = (digs c).length := by simp [ByteArray.size]
  have hrp : ∀ w, Calls Tryd.prog 47 #[.string ⟨#[48]⟩, .int .i64 (3 - ((digs c).length : Int))] w fun e w' => e = .returned (.string ⟨(List.replicate (3 - (digs c).length) 48).toArray⟩) ∧ Below w.heap.size w w' := fun w => by
    have h := Tryd.strings_Repeat ⟨#[48]⟩ (3 - (digs c).length) w (by omega) (by show 1 * (3 - (digs c).length) ≤ _; omega)
    rw [show ((3 - (digs c).length : Nat) : Int) = 3 - ((digs c).length : Int) by omega] at h
    have hr : Lib.repeatL (ByteArray.mk #[48]).data.toList (3 - (digs c).length) = List.replicate (3 - (digs c).length) 48 := by
      generalize 3 - (digs c).length = m
      induction m with
      | zero => rfl
      | succ m ih => rw [Lib.repeatL, ih]; rfl
    rw [hr] at h
    exact h
  by_cases h4 : 33 ≤ c.toNat
  · have h5 : 126 < c.toNat := by omega
    clear h3
    go_enter Tryd.func42, Tryd.ntmps42
    go_wp2_with fail
    refine (hit _ ht).mono ?_
    rintro e w1 ⟨rfl, hb1⟩
    rw [hsz] at *
    go_wp2_with fail
    refine (hrp _).mono ?_
    rintro e w2 ⟨rfl, hb2⟩
    go_wp2_with fail
    go_ret
    exact ⟨ret_str (by rw [HE.out]; apply ba_ext; simp), bthen hb1 hb2⟩
  · clear h3
    go_enter Tryd.func42, Tryd.ntmps42
    go_wp2_with fail
    refine (hit _ ht).mono ?_
    rintro e w1 ⟨rfl, hb1⟩
    rw [hsz] at *
    go_wp2_with fail
    refine (hrp _).mono ?_
    rintro e w2 ⟨rfl, hb2⟩
    go_wp2_with fail
    go_ret
    exact ⟨ret_str (by rw [HE.out]; apply ba_ext; simp), bthen hb1 hb2⟩
end Go.Proofs.YtceafomifpkiaaaDoor
