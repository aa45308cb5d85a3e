/- The contract of name.Fold: a string with its uppercase letters as lowercase letters. -/
import Derived.Test.YtlphbeaaeeohjaaDoorNmw
import Derived.Laws.IdiomStrings
import Derived.Deep.Draws
import Derived.Deep.QuietTactic
import Derived.BigQuiet
import Derived.WalkSpells
import Derived.WalkLawsBesides
namespace Go.Proofs.YtlphbeaaeeohjaaDoor
open Go.RowKit
set_option linter.unusedVariables false

def low (c : UInt8) : UInt8 := if 65 ≤ c.toNat ∧ c.toNat ≤ 90 then c + 32 else c
/-- A string with lowercase letters for uppercase ones. -/
def foldB (s : ByteArray) : ByteArray := ⟨(s.data.toList.map low).toArray⟩
theorem foldB_list (s : ByteArray) : (foldB s).data.toList = s.data.toList.map low := by simp [foldB]
theorem foldB_size (s : ByteArray) : (foldB s).size = s.size := by
  show (s.data.toList.map low).toArray.size = s.data.size
  simp

/-- A block's cells hold these bytes, and may be written. -/
def Row (w : World) (g : Nat) (l : List UInt8) : Prop := ∀ j (h : j < l.length), w.cell? ⟨g, j, none⟩ = some (.int .u8 (l[j].toNat : Nat)) ∧ w.frozen? ⟨g, j, none⟩ = false
theorem Row.set {w : World} {g : Nat} {l : List UInt8} (h : Row w g l) (k : Nat) (c : UInt8) (hk : k < l.length) (v : Value) (hv : v = .int .u8 (c.toNat : Nat)) : Row (w.setCell ⟨g, k, none⟩ v) g (l.set k c) := by
  intro j hj
  subst hv
  have hj' : j < l.length := by simpa using hj
  refine ⟨?_, (World.frozen?_setCell _ _ _ _).trans (h j hj').2⟩
  by_cases e : k = j
  · subst e
    rw [World.cell?_setCell_same' _ _ _ (by rw [(h k hk).1]; rfl)]
    simp
  · have hne : (⟨g, k, none⟩ : Addr) ≠ ⟨g, j, none⟩ := by intro e'; apply e; cases e'; rfl
    rw [World.cell?_setCell_other w _ _ _ hne, (h j hj').1, List.getElem_set_ne e]
theorem Row.conv {w : World} {g : Nat} {l : List UInt8} (h : Row w g l) (n cap : Nat) (hn : n = l.length) :
    (convert 74 9 (.slice (some ⟨g, 0, none⟩) n cap)).run Tryd.prog w = .ok (.string ⟨l.toArray⟩) w := by
  subst hn
  refine run_convert_bytes_back (P := Tryd.prog) w 74 9 5 ⟨g, 0, none⟩ cap l Tryd.underlying74 Tryd.underlying5 Tryd.underlying9 (fun j hj => ?_)
  have e : Addr.add ⟨g, 0, none⟩ j = ⟨g, j, none⟩ := by
    unfold Addr.add
    split
    · rename_i h0; simp_all
    · simp
  rw [e]
  exact (h j hj).1
theorem Row.new (w w' : World) (hw : w'.heap.size = w.heap.size) (s : ByteArray) (cap : Nat) :
    Row (w'.alloc (.cells (bytesRow s cap) 5 ((bytesRow s cap).size, (bytesRow s cap).size + 1))) w.heap.size s.data.toList := by
  intro j hj
  rw [← hw, World.cell?_alloc_mark, World.frozen?_alloc_mark]
  have hj' : j < s.data.size := by simpa using hj
  refine ⟨?_, ?_⟩
  · rw [bytesRow_at s cap j hj']; simp
  · have : (bytesRow s cap).size = s.data.size + (cap - s.size) := by simp [bytesRow]
    have h1 : ¬ (bytesRow s cap).size ≤ j := by omega
    simp [h1]

/-- What a string is behind k rounds. -/
def foldTo (l : List UInt8) (k : Nat) : List UInt8 := l.mapIdx fun i c => if i < k then low c else c
theorem foldTo_zero (l : List UInt8) : foldTo l 0 = l := by
  apply List.ext_getElem?
  intro i
  simp [foldTo]
theorem foldTo_all (l : List UInt8) (k : Nat) (h : l.length ≤ k) : foldTo l k = l.map low := by
  apply List.ext_getElem?
  intro i
  by_cases hi : i < l.length
  · simp [foldTo, hi, show i < k by omega]
  · simp [foldTo, hi]
theorem foldTo_len (l : List UInt8) (k : Nat) : (foldTo l k).length = l.length := by simp [foldTo]
theorem foldTo_at (l : List UInt8) (k : Nat) (h : k < l.length) : (foldTo l k)[k]'(by rw [foldTo_len]; exact h) = l[k] := by
  simp [foldTo]
theorem foldTo_set (l : List UInt8) (k : Nat) (h : k < l.length) : (foldTo l k).set k (low l[k]) = foldTo l (k + 1) := by
  apply List.ext_getElem?
  intro i
  rw [List.getElem?_set]
  by_cases e : k = i
  · subst e
    simp [foldTo, h]
  · rw [if_neg e]
    by_cases h1 : i < k
    · simp [foldTo, h1, show i < k + 1 by omega]
    · simp [foldTo, h1, show ¬ i < k + 1 by omega]
theorem foldTo_same (l : List UInt8) (k : Nat) (h : k < l.length) (hl : low l[k] = l[k]) : foldTo l k = foldTo l (k + 1) := by
  rw [← foldTo_set l k h, hl]
  have e := foldTo_at l k h
  apply List.ext_getElem?
  intro i
  rw [List.getElem?_set]
  by_cases e' : k = i
  · subst e'
    rw [if_pos rfl, if_pos (by rw [foldTo_len]; exact h), ← e, List.getElem?_eq_getElem]
  · rw [if_neg e']

set_option maxHeartbeats 400000 in
theorem fold_any (s : ByteArray) (hs : s.size ≤ 140737488355328) (w : World) :
    Calls Tryd.prog 67 #[.string s] w fun e w' => e = .returned (.string (foldB s)) ∧ Below w.heap.size w w' := by
  have hcv := run_bytes_of_string (P := Tryd.prog) w 9 74 5 s Tryd.underlying9 Tryd.underlying74 Tryd.underlying5
  obtain ⟨cap, hcap⟩ : ∃ cap, grownCap w s.size 0 5 = cap := ⟨_, rfl⟩
  rw [hcap] at hcv
  clear hcap
  go_enter Tryd.func67, Tryd.ntmps67
  go_wp2
  go_loopw [10] (fun i wr => ∃ k : Nat, k ≤ s.size ∧ i = .int .i64 k ∧ Row wr w.heap.size (foldTo s.data.toList k) ∧ Below w.heap.size w wr) (fun i _ => s.size - (intOf i).toNat)
  case atStart => exact ⟨0, Nat.zero_le _, rfl, by rw [foldTo_zero]; exact Row.new w _ rfl s _, (Below.refl _ _).drew.alloc (Nat.le_refl _) _⟩
  case round =>
    obtain ⟨k, hk, rfl, hrow, hbel⟩ := hrel
    clear hcv
    have hlen : s.data.toList.length = s.size := by simp
    by_cases hlt : k < s.size
    · have hkl : k < s.data.toList.length := by omega
      have hr := hrow k (by rw [foldTo_len]; omega)
      rw [foldTo_at _ _ hkl] at hr
      have h8 : s.data.toList[k].toNat ≤ 255 := by have := s.data.toList[k].toNat_lt; omega
      obtain ⟨hc, hf⟩ := hr
      have hset := hrow.set k (low s.data.toList[k]) (by rw [foldTo_len]; omega)
      rw [foldTo_set _ _ hkl] at hset
      have hsame := foldTo_same s.data.toList k hkl
      have hlow : low s.data.toList[k] = if 65 ≤ s.data.toList[k].toNat ∧ s.data.toList[k].toNat ≤ 90 then s.data.toList[k] + 32 else s.data.toList[k] := rfl
      generalize s.data.toList[k] = c at *
      have HS := Lib.hid hset
      have HM := Lib.hid hsame
      have HL := Lib.hid hlow
      have HR := Lib.hid hrow
      clear hset hsame hlow hlen hkl hrow
      by_cases hu : 65 ≤ c.toNat ∧ c.toNat ≤ 90
      · obtain ⟨h1, h2⟩ := hu
        have hl : low c = c + 32 := by rw [HL.out, if_pos ⟨h1, h2⟩]
        have hln : ((low c).toNat : Int) = c.toNat + 32 := by rw [hl, UInt8.toNat_add]; simp; omega
        have HN := Lib.hid hln
        clear hl hln
        go_wp2
        go_roundw
        case rel => exact ⟨k + 1, hlt, by go_num, HS.out _ (by rw [HN.out]), hbel.setCell (Nat.le_refl _) _⟩
        case measure => simp [intOf]; omega
      · have hl : low c = c := by rw [HL.out, if_neg hu]
        have hrow' : Row wr w.heap.size (foldTo s.data.toList (k + 1)) := by rw [← HM.out hl]; exact HR.out
        have HR' := Lib.hid hrow'
        clear hrow'
        clear hl
        by_cases h1 : 65 ≤ c.toNat
        · have h2 : ¬ c.toNat ≤ 90 := fun h => hu ⟨h1, h⟩
          go_wp2
          go_roundw
          case rel => exact ⟨k + 1, hlt, by go_num, HR'.out, hbel⟩
          case measure => simp [intOf]; omega
        · go_wp2
          go_roundw
          case rel => exact ⟨k + 1, hlt, by go_num, HR'.out, hbel⟩
          case measure => simp [intOf]; omega
    · obtain rfl : k = s.size := by omega
      rw [foldTo_all _ _ (by omega)] at hrow
      have hcv2 := hrow.conv s.size cap (by simp)
      go_wp2
      go_ret
      exact ⟨rfl, hbel⟩
end Go.Proofs.YtlphbeaaeeohjaaDoor
