/- The contracts of rdata.join and rdata.pieces. -/
import Derived.Test.YtlphbeaaeeohjaaDoorRsp
namespace Go.Proofs.YtlphbeaaeeohjaaDoor
open Go.RowKit
set_option linter.unusedVariables false

/-- All pieces' bytes. -/
def cat (l : List (ByteArray × Bool)) : List UInt8 := l.flatMap fun p => p.1.data.toList
theorem cat_append (a b : List (ByteArray × Bool)) : cat (a ++ b) = cat a ++ cat b := List.flatMap_append
theorem cat_cons (a : ByteArray × Bool) (b : List (ByteArray × Bool)) : cat (a :: b) = a.1.data.toList ++ cat b := by simp [cat]
theorem cat_take (l : List (ByteArray × Bool)) (j : Nat) (hj : j < l.length) : cat (l.take (j + 1)) = cat (l.take j) ++ l[j].1.data.toList := by
  rw [List.take_succ_eq_append_getElem hj, cat_append, cat_cons]
  simp [cat]
theorem cat_le (l : List (ByteArray × Bool)) (j : Nat) : (cat (l.take j)).length ≤ (cat l).length := by
  have h : cat l = cat (l.take j) ++ cat (l.drop j) := by rw [← cat_append, List.take_append_drop]
  rw [h, List.length_append]
  omega
theorem Parts.cells {w : World} {A : Option Addr} {l : List (ByteArray × Bool)} (h : Parts w A l) {wr : World} (hb : Below w.heap.size w wr) (j : Nat) (hj : j < l.length) :
    ∃ b off, A = some ⟨b, off, none⟩ ∧ wr.cell? ⟨b, off + j * 2, none⟩ = some (.string l[j].1) ∧ wr.cell? ⟨b, off + j * 2 + 1, none⟩ = some (.bool l[j].2) ∧
      ∀ o, (wr.alloc o).cell? ⟨b, off + j * 2, none⟩ = some (.string l[j].1) ∧ (wr.alloc o).cell? ⟨b, off + j * 2 + 1, none⟩ = some (.bool l[j].2) := by
  obtain ⟨b, off, h1, h2, h3, h4⟩ := h j hj
  have k3 := (hb.cell (p := ⟨b, off + j * 2, none⟩) h2).trans h3
  have k4 := (hb.cell (p := ⟨b, off + j * 2 + 1, none⟩) h2).trans h4
  have hal : ∀ o, Below wr.heap.size wr (wr.alloc o) := fun o => (Below.refl _ wr).alloc (Nat.le_refl _) o
  have hlt : b < wr.heap.size := Nat.lt_of_lt_of_le h2 hb.size
  exact ⟨b, off, h1, k3, k4, fun o => ⟨((hal o).cell (p := ⟨b, off + j * 2, none⟩) hlt).trans k3, ((hal o).cell (p := ⟨b, off + j * 2 + 1, none⟩) hlt).trans k4⟩⟩

set_option maxRecDepth 100000 in
set_option maxHeartbeats 1000000 in
theorem join_any (A : Option Addr) (cap : Nat) (l : List (ByteArray × Bool)) (hl : l.length ≤ 1099511627776) (hc : (cat l).length ≤ 1099511627776) (w : World) (hP : Parts w A l) :
    Calls Tryd.prog 81 #[.slice A l.length cap] w fun e w' => e = .returned (.string ⟨(cat l).toArray⟩) ∧ Below w.heap.size w w' := by
  have HP := Lib.hid hP
  clear hP
  have H0 := Lib.hid ((Below.refl w.heap.size w).alloc (Nat.le_refl _) (Obj.cells #[Value.pointer none, Value.slice none 0 0] 128))
  have HN := Lib.hid (IsB.new w)
  have HC := Lib.hid hc
  clear hc
  go_enter Tryd.func81, Tryd.ntmps81
  go_wp2_with fail
  go_loopw [8] (fun i wr => ∃ j : Nat, j ≤ l.length ∧ i = .int .i64 j ∧ IsB w.heap.size w.heap.size (cat (l.take j)) wr ∧ Below w.heap.size w wr) (fun i _ => l.length - (intOf i).toNat)
  case atStart => exact ⟨0, Nat.zero_le _, rfl, HN.out, H0.out⟩
  case round =>
    obtain ⟨j, hj, rfl, hB, hbel⟩ := hrel
    have HB := Lib.hid hB
    clear hB
    by_cases hlt : j < l.length
    · obtain ⟨b, off, rfl, hc0, hc1, hcs⟩ := HP.out.cells hbel j hlt
      have hle := cat_le l (j + 1)
      rw [cat_take l j hlt, List.length_append, ba_len] at hle
      have HT := Lib.hid (cat_take l j hlt)
      have HLe := Lib.hid hle
      clear hle hcs
      generalize l[j].1 = X at *
      generalize l[j].2 = Y at *
      go_wp2_with fail
      refine (wstr w.heap.size w.heap.size (cat (l.take j)) X _ (HB.out.below ((Below.refl _ wr).alloc (Nat.le_refl _) _)) (by have := HLe.out; have := HC.out; omega) (by have := hbel.size; simp; omega)).mono ?_
      rintro e w1 ⟨rfl, hB1, hb1, _⟩
      have HB1 := Lib.hid hB1
      have HBel1 := Lib.hid ((balloc hbel _).trans hb1)
      clear hB1 hb1 hbel hc0 hc1
      go_wp2_with fail
      go_roundw
      case rel => exact ⟨j + 1, hlt, by go_num, by rw [HT.out]; exact HB1.out, HBel1.out⟩
      case measure => simp [intOf]; omega
    · have hall : cat (l.take j) = cat l := by rw [List.take_of_length_le (by omega)]
      have HA := Lib.hid hall
      clear hall
      go_wp2_with fail
      refine (bstr w.heap.size w.heap.size (cat (l.take j)) _ HB.out hbel.size).mono ?_
      rintro e w1 ⟨rfl, hb1⟩
      rw [HA.out]
      obtain ⟨R, hR⟩ : ∃ R, (⟨(cat l).toArray⟩ : ByteArray) = R := ⟨_, rfl⟩
      rw [hR]
      have HR := Lib.hid hR
      clear hR
      go_wp2_with fail
      go_ret
      exact ⟨by rw [HR.out]; rfl, hbel.trans hb1⟩

theorem rdB_size (s : ByteArray) (p e : Nat) (q : Int) : (rdB s p e q).size ≤ s.size + 255 := by
  unfold rdB
  split
  · rcases tk_cases s p with ⟨_, h, _⟩ | ⟨_, h, _⟩
    · rw [h]; exact Nat.zero_le _
    · have := (may_name h).size; omega
  · split
    · unfold rsS
      split
      · rw [ByteArray.size_extract]; omega
      · exact Nat.zero_le _
    · have := Oc.sx_size s p (rdM p e q); omega
theorem spl3_size {s : ByteArray} {e : Nat} : ∀ (qs : List Int) (p : Nat) (r : List (ByteArray × Bool) × Nat), spl3 s e p qs = some r → r.1.length = qs.length ∧ (cat r.1).length ≤ qs.length * (s.size + 255)
  | [], p, r, h => by
    rw [spl3] at h
    cases h
    exact ⟨rfl, Nat.zero_le _⟩
  | q :: qs, p, r, h => by
    rw [spl3] at h
    unfold rdP at h
    split at h
    · rename_i r' hr
      rw [Option.map_eq_some_iff] at h
      obtain ⟨x, hx, rfl⟩ := h
      obtain ⟨h1, h2⟩ := spl3_size qs _ x hx
      have h3 := rdB_size s p e q
      split at hr
      · cases hr
        refine ⟨by simp [h1], ?_⟩
        show (cat ((rdB s p e q, rdN q) :: x.1)).length ≤ _
        rw [cat_cons]
        show ((rdB s p e q).data.toList ++ cat x.1).length ≤ _
        rw [List.length_append, ba_len, List.length_cons, Nat.add_mul, Nat.one_mul]
        generalize qs.length * (s.size + 255) = z at *
        omega
      · cases hr
    · cases h
theorem spl_size {s : ByteArray} {p e k : Nat} {l : List (ByteArray × Bool)} (h : spl s p e k = some l) : l.length = 3 ∧ (cat l).length ≤ 3 * (s.size + 255) := by
  unfold spl at h
  split at h
  · cases h
  · split at h
    · rename_i r hr
      split at h
      · cases h
        exact spl3_size (lays k) p r hr
      · cases h
    · cases h
/-- rdata.pieces. -/
def pcs (k : Nat) (d : ByteArray) : Option (List (ByteArray × Bool)) := match spl d 0 d.size k with
  | some l => if cat l = d.data.toList then some l else none
  | none => none
def PcsPost (k : Nat) (d : ByteArray) (w : World) (en : Ending) (w' : World) : Prop :=
  (∃ v, en = .returned (.tuple #[v, .bool (pcs k d).isSome]) ∧ (pcs k d = none → v = .slice none 0 0) ∧ ∀ l, pcs k d = some l → Pcs w.heap.size v l w') ∧ Below w.heap.size w w'

set_option maxRecDepth 100000 in
set_option maxHeartbeats 1000000 in
theorem pieces_any (k : Nat) (d : ByteArray) (hd : d.size ≤ 1073741824) (hk : k < 65536) (w : World) (hL : Lay w) :
    Calls Tryd.prog 68 #[.int .u16 (k : Nat), .string d] w fun en w' => PcsPost k d w en w' := by
  have HL := Lib.hid hL
  clear hL
  go_enter Tryd.func68, Tryd.ntmps68
  go_wp2_with fail
  refine (split_any d 0 d.size k (by omega) (Nat.zero_le _) (Nat.le_refl _) hk _ HL.out).mono ?_
  rintro en w1 ⟨⟨v, rfl, hv⟩, hb1⟩
  cases hs : spl d 0 d.size k with
  | none =>
    have hn : pcs k d = none := by unfold pcs; rw [hs]
    have HN := Lib.hid hn
    clear hn hs hv
    go_wp2_with fail
    go_ret2
    exact ⟨⟨_, by rw [HN.out]; rfl, (fun _ => rfl), (fun l h => by rw [HN.out] at h; cases h)⟩, hb1⟩
  | some l =>
    have hP := hv l hs
    obtain ⟨A, cap, rfl⟩ := hP.form
    obtain ⟨hl, hc⟩ := spl_size hs
    have hp2 : pcs k d = if cat l = d.data.toList then some l else none := by unfold pcs; rw [hs]
    have HP := Lib.hid hP
    have HS := Lib.hid hp2
    have HSz := Lib.hid (And.intro (show l.length ≤ 1099511627776 by omega) (show (cat l).length ≤ 1099511627776 by omega))
    clear hp2 hs hv hP hl hc
    go_wp2_with fail
    refine (join_any A cap l HSz.out.1 HSz.out.2 _ HP.out.parts).mono ?_
    rintro en w2 ⟨rfl, hb2⟩
    have HP2 := Lib.hid (HP.out.below hb2)
    have HB2 := Lib.hid (bthen hb1 hb2)
    clear hb1 hb2 HP
    by_cases he : cat l = d.data.toList
    · have hn : pcs k d = some l := by rw [HS.out, if_pos he]
      have HN := Lib.hid hn
      have hb : ((⟨(cat l).toArray⟩ : ByteArray).toList == d.toList) = true := by rw [ByteArray.toList_eq, ByteArray.toList_eq, he]; simp
      generalize (⟨(cat l).toArray⟩ : ByteArray) = R at *
      clear hn he
      go_wp2_with fail
      go_ret2
      exact ⟨⟨_, by rw [HN.out]; rfl, (fun h => by rw [HN.out] at h; cases h), (fun l' h => by rw [HN.out] at h; cases h; exact HP2.out)⟩, HB2.out⟩
    · have hn : pcs k d = none := by rw [HS.out, if_neg he]
      have HN := Lib.hid hn
      have hb : ((⟨(cat l).toArray⟩ : ByteArray).toList == d.toList) = false := by rw [ByteArray.toList_eq, ByteArray.toList_eq]; simpa using he
      generalize (⟨(cat l).toArray⟩ : ByteArray) = R at *
      clear hn he
      go_wp2_with fail
      go_ret2
      exact ⟨⟨_, by rw [HN.out]; rfl, (fun _ => rfl), (fun l h => by rw [HN.out] at h; cases h)⟩, HB2.out⟩
end Go.Proofs.YtlphbeaaeeohjaaDoor
