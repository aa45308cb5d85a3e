/- The contract of name.Join: the name that consists of labels, folded. -/
import Derived.Test.YtceafomifpkiaaaDoorShelf
import Derived.Test.YtceafomifpkiaaaDoorNmd
namespace Go.Proofs.YtceafomifpkiaaaDoor
open Go.RowKit
set_option linter.unusedVariables false

/-- A slice's strings. -/
def Strs (w : World) (A : Option Addr) (ls : List ByteArray) : Prop := ∀ j (h : j < ls.length), ∃ ad : Addr, A = some ad ∧ ad.block < w.heap.size ∧ w.cell? (ad.add j) = some (.string ls[j])
theorem add_block (a : Addr) (n : Nat) : (a.add n).block = a.block := by unfold Addr.add; split <;> rfl
theorem Strs.below {w w' : World} {A : Option Addr} {ls : List ByteArray} (h : Strs w A ls) (hb : Below w.heap.size w w') : Strs w' A ls := fun j hj => by
  obtain ⟨ad, h1, h2, h3⟩ := h j hj
  exact ⟨ad, h1, Nat.lt_of_lt_of_le h2 hb.size, (hb.cell (by rw [add_block]; exact h2)).trans h3⟩

/-- A builder in a block holds these bytes. -/
def IsB (B b : Nat) (l : List UInt8) (w : World) : Prop := Lib.IsBuilderF 54 5 B b (Lib.byteCells l) w
theorem atF_below {B b : Nat} {p : Value} {bs : List Value} {W W' : World} (h : Lib.BuilderAtF 54 5 B b p bs W) (hb : Below W.heap.size W W') : Lib.BuilderAtF 54 5 B b p bs W' := by
  have hlt := h.lt
  obtain ⟨hB, v, hbk, hown, hne⟩ := h
  refine ⟨hB, v, (hb.block b hlt).trans hbk, ⟨hown.1, ?_⟩, hne⟩
  rcases hown.2 with hn | ⟨g, cap, cur, fz, rfl, hgb, hgg, rest⟩
  · exact .inl hn
  · exact .inr ⟨g, cap, cur, fz, rfl, hgb, (hb.block g (Array.getElem?_eq_some_iff.1 hgg).1).trans hgg, rest⟩
theorem IsB.below {B b : Nat} {l : List UInt8} {W W' : World} (h : IsB B b l W) (hb : Below W.heap.size W W') : IsB B b l W' :=
  h.elim (fun x => .inl (atF_below x hb)) (fun x => .inr (atF_below x hb))
theorem IsB.lt {B b : Nat} {l : List UInt8} {W : World} (h : IsB B b l W) : b < W.heap.size := h.elim (fun x => x.lt) (fun x => x.lt)
theorem IsB.new (w : World) : IsB w.heap.size w.heap.size [] (w.alloc (.cells #[.pointer none, .slice none 0 0] 54)) :=
  .inl ⟨Nat.le_refl _, .slice none 0 0, World.alloc_heap_new w _, World.ownsRowF_nil _ _ _ _, by simp [Value.ownBlock]⟩
theorem wbyte (B b : Nat) (l : List UInt8) (c : Int) (w : World) (h : IsB B b l w) (hl : l.length + 1 ≤ 140737488355328) (hB : B ≤ w.heap.size) (h0 : 0 ≤ c) (h1 : c < 256) :
    Calls Tryd.prog 33 #[.pointer (some ⟨b, 0, none⟩), .int .u8 c] w fun e w' => e = .returned .nilIface ∧ IsB B b (l ++ [UInt8.ofNat c.toNat]) w' ∧ Below B w w' ∧ Lib.OthersKept 5 (some b) w w' := by
  refine (Tryd.Builder_WriteByte_k B b (Lib.byteCells l) c w h (by rw [Lib.byteCells_length]; exact hl) hB).mono ?_
  rintro e w' ⟨he, h1', h2, h3⟩
  refine ⟨he, .inr ?_, h2, h3⟩
  rw [Lib.byteCells_append]
  have : Lib.byteCells [UInt8.ofNat c.toNat] = [.int .u8 c] := by
    simp only [Lib.byteCells, List.map_cons, List.map_nil]
    rw [UInt8.toNat_ofNat']
    congr 2
    omega
  rw [this]
  exact h1'
theorem wstr (B b : Nat) (l : List UInt8) (s : ByteArray) (w : World) (h : IsB B b l w) (hl : l.length + s.size ≤ 140737488355328) (hB : B ≤ w.heap.size) :
    Calls Tryd.prog 34 #[.pointer (some ⟨b, 0, none⟩), .string s] w fun e w' => e = .returned (.tuple #[.int .i64 s.size, .nilIface]) ∧ IsB B b (l ++ s.data.toList) w' ∧ Below B w w' ∧ Lib.OthersKept 5 (some b) w w' := by
  refine (Tryd.Builder_WriteString_k B b (Lib.byteCells l) s w h (by rw [Lib.byteCells_length]; exact hl) hB).mono ?_
  rintro e w' ⟨he, h1', h2, h3⟩
  refine ⟨he, .inr ?_, h2, h3⟩
  rw [Lib.byteCells_append, ← Lib.strCells_eq]
  exact h1'
theorem blen (B b : Nat) (l : List UInt8) (w : World) (h : IsB B b l w) :
    Calls Tryd.prog 35 #[.pointer (some ⟨b, 0, none⟩)] w fun e w' => e = .returned (.int .i64 (l.length : Nat)) ∧ w = w' := by
  refine (Tryd.Builder_Len_f B b (Lib.byteCells l) w h).mono ?_
  rintro e w' ⟨he, hw⟩
  rw [Lib.byteCells_length] at he
  exact ⟨he, hw.symm⟩
theorem bstr (B b : Nat) (l : List UInt8) (w : World) (h : IsB B b l w) (hB : B ≤ w.heap.size) :
    Calls Tryd.prog 36 #[.pointer (some ⟨b, 0, none⟩)] w fun e w' => e = .returned (.string ⟨l.toArray⟩) ∧ Below B w w' :=
  (Tryd.Builder_String_any_k B b l w h hB).mono fun _ _ ⟨he, _, h2, _⟩ => ⟨he, h2⟩

/-- May each string be a label? -/
def lbsOk (ls : List ByteArray) : Bool := ls.all fun l => decide (1 ≤ l.size ∧ l.size ≤ 63)
def joinL (ls : List ByteArray) : List UInt8 := ls.flatMap fun l => UInt8.ofNat l.size :: l.data.toList.map low
def joinE (ls : List ByteArray) : Int := if lbsOk ls = true then (if (joinL ls).length + 1 ≤ 255 then 0 else 3) else 2
def joinS (ls : List ByteArray) : ByteArray := if lbsOk ls = true ∧ (joinL ls).length + 1 ≤ 255 then ⟨(joinL ls ++ [0]).toArray⟩ else ⟨#[]⟩
theorem lbsOk_at {ls : List ByteArray} (h : lbsOk ls = true) (k : Nat) (hk : k < ls.length) : 1 ≤ ls[k].size ∧ ls[k].size ≤ 63 := by
  unfold lbsOk at h
  rw [List.all_eq_true] at h
  simpa using h ls[k] (List.getElem_mem hk)
theorem joinL_take (ls : List ByteArray) (k : Nat) (hk : k < ls.length) : joinL (ls.take (k + 1)) = joinL (ls.take k) ++ [UInt8.ofNat ls[k].size] ++ (foldB ls[k]).data.toList := by
  unfold joinL
  rw [List.take_succ_eq_append_getElem hk, List.flatMap_append, List.flatMap_cons, List.flatMap_nil, foldB_list, List.append_nil, List.append_assoc]
  rfl
theorem joinL_len (ls : List ByteArray) (h : lbsOk ls = true) (k : Nat) (hk : k ≤ ls.length) : (joinL (ls.take k)).length ≤ 64 * k := by
  induction k with
  | zero => simp [joinL]
  | succ k ih =>
    have h1 := lbsOk_at h k (by omega)
    have h2 := ih (by omega)
    rw [joinL_take ls k (by omega)]
    simp only [List.length_append, List.length_cons, List.length_nil, ba_len, foldB_size]
    omega

set_option maxHeartbeats 1000000 in
theorem join_form (A : Option Addr) (cap : Nat) (ls : List ByteArray) (w : World) (hS : Strs w A ls) (hl : ls.length ≤ 1099511627776) (hno : lbsOk ls = false) :
    Calls Tryd.prog 14 #[.slice A ls.length cap] w fun e w' => e = .returned (.tuple #[.string ⟨#[]⟩, .int .i64 2]) ∧ w = w' := by
  go_enter Tryd.func14, Tryd.ntmps14
  go_wp2
  go_loop [11] (fun i => ∃ k : Nat, k ≤ ls.length ∧ i = .int .i64 k ∧ lbsOk (ls.take k) = true) (fun i => ls.length - (intOf i).toNat)
  case atStart => exact ⟨0, Nat.zero_le _, rfl, rfl⟩
  case round =>
    obtain ⟨k, hk, rfl, hok⟩ := hrel
    by_cases hlt : k < ls.length
    · obtain ⟨ad, rfl, hb, hc⟩ := hS k hlt
      have hnext : lbsOk (ls.take (k + 1)) = decide (1 ≤ ls[k].size ∧ ls[k].size ≤ 63) := by
        rw [List.take_succ_eq_append_getElem hlt]
        unfold lbsOk at hok ⊢
        rw [List.all_append, hok]
        simp
      have HN := Lib.hid hnext
      have HO := Lib.hid hno
      have HK := Lib.hid hok
      have h47 : ls[k].size ≤ 63 ∨ 63 < ls[k].size := by omega
      generalize ls[k] = l at *
      clear hnext hno hok hS
      by_cases h0 : l.size = 0
      · have b1 : (l.toList == []) = true := by
          have : l.data.toList = [] := List.eq_nil_of_length_eq_zero (by rw [ba_len]; exact h0)
          rw [ByteArray.toList_eq, this]; rfl
        clear h0 h47
        go_wp2
        go_ret2
        exact ⟨rfl, rfl⟩
      · have b1 : (l.toList == []) = false := by
          have : l.data.toList ≠ [] := fun e => h0 (by rw [← ba_len, e]; rfl)
          rw [ByteArray.toList_eq]
          simpa using this
        by_cases h63 : 63 < l.size
        · have b2 : decide (63 < (l.size : Int)) = true := by simp; omega
          clear h0 h47 h63
          go_wp2
          go_ret2
          exact ⟨rfl, rfl⟩
        · have b2 : decide (63 < (l.size : Int)) = false := by simp; omega
          have hn : decide (1 ≤ l.size ∧ l.size ≤ 63) = true := by simp; omega
          have HM := Lib.hid hn
          clear h0 h47 h63 hn
          go_wp2
          go_round
          case rel => exact ⟨k + 1, hlt, by go_num, HN.out.trans HM.out⟩
          case measure => simp [intOf]; omega
    · have : ls.take k = ls := List.take_of_length_le (by omega)
      rw [this, hno] at hok
      cases hok

theorem joinL_full (ls : List ByteArray) (k : Nat) (h : ls.length ≤ k) : joinL (ls.take k) = joinL ls := by rw [List.take_of_length_le h]

set_option maxRecDepth 100000 in
set_option maxHeartbeats 1000000 in
theorem join_ok (A : Option Addr) (cap : Nat) (ls : List ByteArray) (w : World) (hS : Strs w A ls) (hl : ls.length ≤ 1099511627776) (hok : lbsOk ls = true) :
    Calls Tryd.prog 14 #[.slice A ls.length cap] w fun e w' => e = .returned (.tuple #[.string (joinS ls), .int .i64 (joinE ls)]) ∧ Below w.heap.size w w' := by
  have HO := Lib.hid hok
  clear hok
  go_enter Tryd.func14, Tryd.ntmps14
  go_wp2
  go_loop [11] (fun i => ∃ k : Nat, k ≤ ls.length ∧ i = .int .i64 k) (fun i => ls.length - (intOf i).toNat)
  case atStart => exact ⟨0, Nat.zero_le _, rfl⟩
  case round =>
    obtain ⟨k, hk, rfl⟩ := hrel
    by_cases hlt : k < ls.length
    · obtain ⟨ad, rfl, hb, hc⟩ := hS k hlt
      obtain ⟨h1, h2⟩ := lbsOk_at HO.out k hlt
      generalize ls[k] = l at *
      have b1 : (l.toList == []) = false := by
        have : l.data.toList ≠ [] := fun e => by rw [← ba_len, e] at h1; simp at h1
        rw [ByteArray.toList_eq]
        simpa using this
      have b2 : decide (63 < (l.size : Int)) = false := by simp; omega
      clear h1 h2 hS
      go_wp2
      go_round
      case rel => exact ⟨k + 1, hlt, by go_num⟩
      case measure => simp [intOf]; omega
    · go_wp2
      go_loopw [25] (fun i wr => ∃ k : Nat, k ≤ ls.length ∧ i = .int .i64 k ∧ IsB w.heap.size w.heap.size (joinL (ls.take k)) wr ∧ Below w.heap.size w wr) (fun i _ => ls.length - (intOf i).toNat)
      case atStart => exact ⟨0, Nat.zero_le _, rfl, IsB.new w, (Below.refl _ _).alloc (Nat.le_refl _) _⟩
      case round =>
        obtain ⟨k, hk, rfl, hB, hbel⟩ := hrel
        have hjl := joinL_len ls HO.out k hk
        by_cases hlt : k < ls.length
        · obtain ⟨ad, rfl, hb, hc⟩ := (hS.below hbel) k hlt
          obtain ⟨h1, h2⟩ := lbsOk_at HO.out k hlt
          have hj := joinL_take ls k hlt
          have HJ := Lib.hid hj
          generalize ls[k] = l at *
          have hfs := foldB_size l
          have HF := Lib.hid hfs
          clear hj hfs hS
          have hsz := hbel.size
          go_wp2_with fail
          refine (wbyte w.heap.size w.heap.size _ _ _ hB (by omega) hsz (by omega) (by omega)).mono ?_
          rintro e w1 ⟨rfl, hB1, hb1, hk1⟩
          go_wp2_with fail
          refine (fold_any l (by omega) _).mono ?_
          rintro e w2 ⟨rfl, hb2⟩
          go_wp2_with fail
          have hB2 := hB1.below hb2
          have hbel2 : Below w.heap.size w w2 := (hbel.trans hb1).trans (hb2.mono (Nat.le_trans hsz hb1.size))
          refine (wstr w.heap.size w.heap.size _ _ _ hB2 (by rw [HF.out]; simp only [List.length_append, List.length_cons, List.length_nil]; omega) hbel2.size).mono ?_
          rintro e w3 ⟨rfl, hB3, hb3, hk3⟩
          clear hB hB1 hB2 hjl
          go_wp2_with fail
          go_roundw
          case rel => exact ⟨k + 1, hlt, by go_num, by rw [HJ.out]; simpa using hB3, hbel2.trans hb3⟩
          case measure => simp [intOf]; omega
        · rw [joinL_full ls k (by omega)] at hB hjl
          have hsz := hbel.size
          go_wp2_with fail
          refine (wstr w.heap.size w.heap.size _ _ _ hB (by show (joinL ls).length + 1 ≤ _; omega) hsz).mono ?_
          rintro e w1 ⟨rfl, hB1, hb1, hk1⟩
          go_wp2_with fail
          refine (blen _ _ _ _ hB1).mono ?_
          rintro e w2 ⟨rfl, rfl⟩
          have hlen : (joinL ls ++ (ByteArray.mk #[0]).data.toList).length = (joinL ls).length + 1 := by simp
          rw [hlen]
          clear hlen
          by_cases h255 : (joinL ls).length + 1 ≤ 255
          · have e1 : joinE ls = 0 := by simp only [joinE, if_pos HO.out, if_pos h255]
            have e2 : joinS ls = ⟨(joinL ls ++ [0]).toArray⟩ := by simp only [joinS, if_pos (And.intro HO.out h255)]
            have E1 := Lib.hid e1
            have E2 := Lib.hid e2
            have b1 : decide (255 < ((joinL ls).length : Int) + 1) = false := by simp; omega
            clear e1 e2 h255 hjl
            go_wp2_with fail
            refine (bstr _ _ _ _ hB1 (Nat.le_trans hsz hb1.size)).mono ?_
            rintro e w3 ⟨rfl, hb3⟩
            go_wp2_with fail
            go_ret2
            exact ⟨by rw [E1.out, E2.out]; rfl, (hbel.trans hb1).trans hb3⟩
          · have e1 : joinE ls = 3 := by simp only [joinE, if_pos HO.out, if_neg h255]
            have e2 : joinS ls = ⟨#[]⟩ := by simp only [joinS]; rw [if_neg (fun h => h255 h.2)]
            have E1 := Lib.hid e1
            have E2 := Lib.hid e2
            have b1 : decide (255 < ((joinL ls).length : Int) + 1) = true := by simp; omega
            clear e1 e2 h255 hjl
            go_wp2_with fail
            go_ret2
            exact ⟨by rw [E1.out, E2.out]; rfl, hbel.trans hb1⟩

theorem join_any (A : Option Addr) (cap : Nat) (ls : List ByteArray) (w : World) (hS : Strs w A ls) (hl : ls.length ≤ 1099511627776) :
    Calls Tryd.prog 14 #[.slice A ls.length cap] w fun e w' => e = .returned (.tuple #[.string (joinS ls), .int .i64 (joinE ls)]) ∧ Below w.heap.size w w' := by
  cases h : lbsOk ls with
  | true => exact join_ok A cap ls w hS hl h
  | false =>
    have e1 : joinE ls = 2 := by simp [joinE, h]
    have e2 : joinS ls = ⟨#[]⟩ := by simp [joinS, h]
    rw [e1, e2]
    exact (join_form A cap ls w hS hl h).mono fun _ _ ⟨he, hw⟩ => ⟨he, hw ▸ Below.refl _ _⟩
end Go.Proofs.YtceafomifpkiaaaDoor
