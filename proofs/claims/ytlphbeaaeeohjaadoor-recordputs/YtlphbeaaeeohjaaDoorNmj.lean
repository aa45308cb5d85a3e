/- The contract of name.Join: the name that consists of labels, folded. -/
import Derived.Test.YtlphbeaaeeohjaaDoorShw
import Derived.Test.YtlphbeaaeeohjaaDoorNmd
namespace Go.Proofs.YtlphbeaaeeohjaaDoor
open Go.RowKit
set_option linter.unusedVariables false

/-- A slice's strings. -/
def Strs (w : World) (A : Option Addr) (ls : List ByteArray) : Prop := ∀ j (h : j < ls.length), ∃ ad : Addr, A = some ad ∧ ad.block < w.heap.size ∧ w.cell? (ad.add j) = some (.string ls[j])
theorem add_block (a : Addr) (n : Nat) : (a.add n).block = a.block := by unfold Addr.add; split <;> rfl
theorem Strs.below {w w' : World} {A : Option Addr} {ls : List ByteArray} (h : Strs w A ls) (hb : Below w.heap.size w w') : Strs w' A ls := fun j hj => by
  obtain ⟨ad, h1, h2, h3⟩ := h j hj
  exact ⟨ad, h1, Nat.lt_of_lt_of_le h2 hb.size, (hb.cell (by rw [add_block]; exact h2)).trans h3⟩

/-- A builder in a block holds these bytes. -/
def IsB (B b : Nat) (l : List UInt8) (w : World) : Prop := Lib.IsBuilderF 128 5 B b (Lib.byteCells l) w
theorem atF_below {B b : Nat} {p : Value} {bs : List Value} {W W' : World} (h : Lib.BuilderAtF 128 5 B b p bs W) (hb : Below W.heap.size W W') : Lib.BuilderAtF 128 5 B b p bs W' := by
  have hlt := h.lt
  obtain ⟨hB, v, hbk, hown, hne⟩ := h
  refine ⟨hB, v, (hb.block b hlt).trans hbk, ⟨hown.1, ?_⟩, hne⟩
  rcases hown.2 with hn | ⟨g, cap, cur, fz, rfl, hgb, hgg, rest⟩
  · exact .inl hn
  · exact .inr ⟨g, cap, cur, fz, rfl, hgb, (hb.block g (Array.getElem?_eq_some_iff.1 hgg).1).trans hgg, rest⟩
theorem IsB.below {B b : Nat} {l : List UInt8} {W W' : World} (h : IsB B b l W) (hb : Below W.heap.size W W') : IsB B b l W' :=
  h.elim (fun x => .inl (atF_below x hb)) (fun x => .inr (atF_below x hb))
theorem IsB.lt {B b : Nat} {l : List UInt8} {W : World} (h : IsB B b l W) : b < W.heap.size := h.elim (fun x => x.lt) (fun x => x.lt)
theorem IsB.new (w : World) : IsB w.heap.size w.heap.size [] (w.alloc (.cells #[.pointer none, .slice none 0 0] 128)) :=
  .inl ⟨Nat.le_refl _, .slice none 0 0, World.alloc_heap_new w _, World.ownsRowF_nil _ _ _ _, by simp [Value.ownBlock]⟩
theorem wstr (B b : Nat) (l : List UInt8) (s : ByteArray) (w : World) (h : IsB B b l w) (hl : l.length + s.size ≤ 140737488355328) (hB : B ≤ w.heap.size) :
    Calls Tryd.prog 84 #[.pointer (some ⟨b, 0, none⟩), .string s] w fun e w' => e = .returned (.tuple #[.int .i64 s.size, .nilIface]) ∧ IsB B b (l ++ s.data.toList) w' ∧ Below B w w' ∧ Lib.OthersKept 5 (some b) w w' := by
  refine (Tryd.Builder_WriteString_k B b (Lib.byteCells l) s w h (by rw [Lib.byteCells_length]; exact hl) hB).mono ?_
  rintro e w' ⟨he, h1', h2, h3⟩
  refine ⟨he, .inr ?_, h2, h3⟩
  rw [Lib.byteCells_append, ← Lib.strCells_eq]
  exact h1'
theorem blen (B b : Nat) (l : List UInt8) (w : World) (h : IsB B b l w) :
    Calls Tryd.prog 83 #[.pointer (some ⟨b, 0, none⟩)] w fun e w' => e = .returned (.int .i64 (l.length : Nat)) ∧ w = w' := by
  refine (Tryd.Builder_Len_f B b (Lib.byteCells l) w h).mono ?_
  rintro e w' ⟨he, hw⟩
  rw [Lib.byteCells_length] at he
  exact ⟨he, hw.symm⟩
theorem bstr (B b : Nat) (l : List UInt8) (w : World) (h : IsB B b l w) (hB : B ≤ w.heap.size) :
    Calls Tryd.prog 86 #[.pointer (some ⟨b, 0, none⟩)] w fun e w' => e = .returned (.string ⟨l.toArray⟩) ∧ Below B w w' :=
  (Tryd.Builder_String_any_k B b l w h hB).mono fun _ _ ⟨he, _, h2, _⟩ => ⟨he, h2⟩

/-- May each string be a label? -/
def lbsOk (ls : List ByteArray) : Bool := ls.all fun l => decide (1 ≤ l.size ∧ l.size ≤ 63)
def joinL (ls : List ByteArray) : List UInt8 := ls.flatMap fun l => UInt8.ofNat l.size :: l.data.toList.map low
def joinE (ls : List ByteArray) : Int := if lbsOk ls = true then (if (joinL ls).length + 1 ≤ 255 then 0 else 3) else 2
def joinS (ls : List ByteArray) : ByteArray := if lbsOk ls = true ∧ (joinL ls).length + 1 ≤ 255 then ⟨(joinL ls ++ [0]).toArray⟩ else ⟨#[]⟩
theorem lbsOk_at {ls : List ByteArray} (h : lbsOk ls = true) (k : Nat) (hk : k < ls.length) : 1 ≤ ls[k].size ∧ ls[k].size ≤ 63 := by
  unfold lbsOk at h
  rw [List.all_eq_true] at h
  simpa using h ls[k] (List.getElem_mem hk)
theorem joinL_take (ls : List ByteArray) (k : Nat) (hk : k < ls.length) : joinL (ls.take (k + 1)) = joinL (ls.take k) ++ [UInt8.ofNat ls[k].size] ++ (foldB ls[k]).data.toList := by
  unfold joinL
  rw [List.take_succ_eq_append_getElem hk, List.flatMap_append, List.flatMap_cons, List.flatMap_nil, foldB_list, List.append_nil, List.append_assoc]
  rfl
theorem joinL_len (ls : List ByteArray) (h : lbsOk ls = true) (k : Nat) (hk : k ≤ ls.length) : (joinL (ls.take k)).length ≤ 64 * k := by
  induction k with
  | zero => simp [joinL]
  | succ k ih =>
    have h1 := lbsOk_at h k (by omega)
    have h2 := ih (by omega)
    rw [joinL_take ls k (by omega)]
    simp only [List.length_append, List.length_cons, List.length_nil, ba_len, foldB_size]
    omega

theorem joinL_full (ls : List ByteArray) (k : Nat) (h : ls.length ≤ k) : joinL (ls.take k) = joinL ls := by rw [List.take_of_length_le h]

end Go.Proofs.YtlphbeaaeeohjaaDoor
