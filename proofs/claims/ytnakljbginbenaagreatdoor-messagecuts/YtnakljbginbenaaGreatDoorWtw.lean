/- A pack and the document's pack, side by side. -/
import Derived.Test.YtnakljbginbenaaGreatDoorWrn
import Derived.Deep.OwnRows
import Derived.Deep.QuietTactic
import Derived.BigQuiet
namespace Go.Proofs.YtnakljbginbenaaGreatDoor
open Go.RowKit
set_option linter.unusedVariables false

theorem Plc.mono {B B' : Nat} {v : Value} {L : Kn} {w : World} (h : Plc B v L w) (hB : B' ≤ B) : Plc B' v L w := by
  refine ⟨h.1, ?_⟩
  rcases h.2 with hn | ⟨g, cap, cur, rfl, hb, rest⟩
  · exact .inl hn
  · exact .inr ⟨g, cap, cur, rfl, Nat.le_trans hB hb, rest⟩
theorem rname_any (B : Nat) (x n : ByteArray) (v : Value) (L : Kn) (w : World) (hP : Plc B v L w) (hK : KnOk x.data.toList L) (hx : x.size ≤ 1000000) (hn : n.size ≤ 4194304) (hB : B ≤ w.heap.size) :
    Calls Tryz.prog 85 #[.agg #[.string x, v], .string n] w fun e w' => ∃ A' m' cap', e = .returned (.tuple #[.agg #[.string ⟨(stp x.data.toList L n).1.toArray⟩, .slice A' m' cap'], .int .i64 (stE n)]) ∧ Plc B (.slice A' m' cap') (stp x.data.toList L n).2 w' ∧ Below w.heap.size w w' := by
  cases hm : mayB n with
  | true =>
    have e1 : stE n = 0 := by simp [stE, hm]
    have e2 : stp x.data.toList L n = put x.data.toList L (labs n) := by simp [stp, hm]
    rw [e2, e1]
    refine (rname_yes B x n v L w hP hK hx hm).mono ?_
    rintro e w' ⟨v', rfl, h1, h2⟩
    obtain ⟨A', cap', rfl⟩ := h1.form
    exact ⟨A', _, cap', rfl, h1.mono hB, h2⟩
  | false =>
    have e1 : stE n = 1 := by simp [stE, hm]
    have e2 : stp x.data.toList L n = (x.data.toList, L) := by simp [stp, hm]
    rw [e2, e1]
    obtain ⟨A, cap, rfl⟩ := hP.form
    refine (rname_no x n _ A _ cap rfl w hn hm).mono ?_
    rintro e w' ⟨rfl, h1⟩
    exact ⟨A, _, cap, rfl, hP.below h1, h1⟩

/-- A pack and the document's, side by side. -/
structure Two (B b bx : Nat) (S : List UInt8) (L : Kn) (s : ByteArray) (v : Value) (w0 w : World) : Prop where
  st : St B b S L w
  box : w.heap[bx]? = some (.cells #[.string s, v] 94 (0, 0))
  plc : Plc B v L w
  bel : Below B w0 w
theorem Two.below {B b bx : Nat} {S : List UInt8} {L : Kn} {s : ByteArray} {v : Value} {w0 w w' : World} (h : Two B b bx S L s v w0 w) (hB : B ≤ w.heap.size) (hb : Below w.heap.size w w') : Two B b bx S L s v w0 w' :=
  ⟨h.st.below hb, (hb.block _ (heap_lt h.box)).trans h.box, h.plc.below hb, h.bel.trans (hb.mono hB)⟩
/-- 'x = ..': the document's pack is stored. -/
theorem Two.set {B b bx : Nat} {S : List UInt8} {L : Kn} {s y : ByteArray} {v u : Value} {w0 w : World} (hst : St B b S L w) (hbox : w.heap[bx]? = some (.cells #[.string s, v] 94 (0, 0))) (hplc : Plc B u L w) (hbel : Below B w0 w) (hB : B ≤ bx) :
    Two B b bx S L y u w0 ((w.setCell ⟨bx, 0, none⟩ (.string y)).setCell ⟨bx, 1, none⟩ u) := by
  have s1 := blk_set hbox 0 (.string y)
  have s2 := blk_set s1 1 u
  have g1 := grown_set w ⟨bx, 0, none⟩ (.string y)
  have g2 := grown_set (w.setCell ⟨bx, 0, none⟩ (.string y)) ⟨bx, 1, none⟩ u
  exact ⟨(hst.kept g1 (fun g e => by cases e; exact ⟨_, _, _, by decide, by decide, hbox⟩)).kept g2 (fun g e => by cases e; exact ⟨_, _, _, by decide, by decide, s1⟩), s2, (hplc.other hbox (by decide) g1).other s1 (by decide) g2, (hbel.setCell (p := ⟨bx, 0, none⟩) hB _).setCell (p := ⟨bx, 1, none⟩) hB _⟩
/-- The program's pack has turned. -/
theorem Two.turn {B b bx : Nat} {S S2 : List UInt8} {L L2 : Kn} {s : ByteArray} {v : Value} {w0 w w' : World} (h : Two B b bx S L s v w0 w) (hst : St B b S2 L2 w') (hb : Below B w w') (hk : Kp w w') :
    w'.heap[bx]? = some (.cells #[.string s, v] 94 (0, 0)) ∧ Plc B v L w' ∧ Below B w0 w' := ⟨hk _ _ _ _ (by decide) (by decide) h.box, h.plc.kp hk, h.bel.trans hb⟩

/-- What stands behind 'next, bad := derrickref03.Name(..)'. -/
def Nx (B b bx : Nat) (S2 : List UInt8) (L2 : Kn) (bx0 : Obj) (y2 : ByteArray) (w0 : World) (t : Value) (wx : World) : Prop :=
  ∃ (y : Nat) (A' : Option Addr) (m' c' : Nat), t = .pointer (some ⟨y, 0, none⟩) ∧ wx.heap[y]? = some (.cells #[.string y2, .slice A' m' c'] 94 (0, 0)) ∧ wx.heap[bx]? = some bx0 ∧ St B b S2 L2 wx ∧ Plc B (.slice A' m' c') L2 wx ∧ Below B w0 wx
theorem nxA {B b bx : Nat} {S2 : List UInt8} {L2 : Kn} {bx0 : Obj} {y2 : ByteArray} {w0 w6 w7 : World} {A' : Option Addr} {m' c' : Nat} (hst : St B b S2 L2 w6) (hbx : w6.heap[bx]? = some bx0) (hbel : Below B w0 w6) (hb : Below w6.heap.size w6 w7) (hP : Plc B (.slice A' m' c') L2 w7) (hB : B ≤ w6.heap.size) :
    Nx B b bx S2 L2 bx0 y2 w0 (.pointer (some ⟨w7.heap.size, 0, none⟩)) (w7.alloc (.cells #[.string y2, .slice A' m' c'] 94)) := by
  have ha : Below w7.heap.size w7 (w7.alloc (.cells #[.string y2, .slice A' m' c'] 94)) := (Below.refl _ w7).alloc (Nat.le_refl _) _
  have hba := bthen hb ha
  exact ⟨w7.heap.size, A', m', c', rfl, heap_alloc_new w7 _, (hba.block _ (heap_lt hbx)).trans hbx, hst.below hba, hP.below ha, hbel.trans (hba.mono hB)⟩
theorem nxB {B b bx : Nat} {S2 : List UInt8} {L2 : Kn} {bx0 : Obj} {y2 : ByteArray} {w0 w6 w7 : World} {A' : Option Addr} {m' c' : Nat} (hst : St B b S2 L2 w6) (hbx : w6.heap[bx]? = some bx0) (hbel : Below B w0 w6) (hb : Below w6.heap.size w6 w7) (hP : Plc B (.slice A' m' c') L2 w7) (hB : B ≤ w6.heap.size)
    (hz : w7.heap[w6.heap.size]? = some (.cells #[.string ⟨#[]⟩, .slice none 0 0] 94 (0, 0))) :
    Nx B b bx S2 L2 bx0 y2 w0 (.pointer (some ⟨w6.heap.size, 0, none⟩)) ((w7.setCell ⟨w6.heap.size, 0, none⟩ (.string y2)).setCell ⟨w6.heap.size, 1, none⟩ (.slice A' m' c')) := by
  have s1 := blk_set hz 0 (.string y2)
  have s2 := blk_set s1 1 (.slice A' m' c')
  have g1 := grown_set w7 ⟨w6.heap.size, 0, none⟩ (.string y2)
  have g2 := grown_set (w7.setCell ⟨w6.heap.size, 0, none⟩ (.string y2)) ⟨w6.heap.size, 1, none⟩ (.slice A' m' c')
  have hba : Below w6.heap.size w6 ((w7.setCell ⟨w6.heap.size, 0, none⟩ (.string y2)).setCell ⟨w6.heap.size, 1, none⟩ (.slice A' m' c')) := (hb.setCell (p := ⟨w6.heap.size, 0, none⟩) (Nat.le_refl _) _).setCell (p := ⟨w6.heap.size, 1, none⟩) (Nat.le_refl _) _
  exact ⟨w6.heap.size, A', m', c', rfl, s2, (hba.block _ (heap_lt hbx)).trans hbx, hst.below hba, (hP.other hz (by decide) g1).other s1 (by decide) g2, hbel.trans (hba.mono hB)⟩
theorem len_q2 (B b : Nat) (S : List UInt8) (L : Kn) (w : World) (m : Nat) (h : IsP B b S L w) :
    Calls Tryz.prog 24 #[.pointer (some ⟨b, 0, none⟩)] (w.drewN m) fun e w' => e = .returned (.int .i64 (S.length : Nat)) ∧ ∃ m', w' = w.drewN m' :=
  (len_any B b S L (w.drewN m) h).mono fun _ _ ⟨he, hw⟩ => ⟨he, m, hw.symm⟩
theorem out_q2 (B b : Nat) (S : List UInt8) (L : Kn) (w : World) (m : Nat) (h : IsP B b S L w) :
    Calls Tryz.prog 25 #[.pointer (some ⟨b, 0, none⟩)] (w.drewN m) fun e w' => e = .returned (.string ⟨S.toArray⟩) ∧ ∃ m', w' = w.drewN m' :=
  (out_any B b S L (w.drewN m) h).mono fun _ _ ⟨he, hw⟩ => ⟨he, m, hw.symm⟩
end Go.Proofs.YtnakljbginbenaaGreatDoor
