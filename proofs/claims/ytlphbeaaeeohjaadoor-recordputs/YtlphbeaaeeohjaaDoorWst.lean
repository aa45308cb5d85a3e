/- One step of a pack: a name, or what is none, is added. -/
import Derived.Test.YtlphbeaaeeohjaaDoorLpt
namespace Go.Proofs.YtlphbeaaeeohjaaDoor
open Go.RowKit
set_option linter.unusedVariables false

/-- A pack in memory whose known names can be read. -/
structure St (B b : Nat) (S : List UInt8) (L : Kn) (w : World) : Prop where
  is : IsP B b S L w
  kn : KnOk S L
  good : Good S L
theorem St.below {B b : Nat} {S : List UInt8} {L : Kn} {w w' : World} (h : St B b S L w) (hb : Below w.heap.size w w') : St B b S L w' := ⟨h.is.below hb, h.kn, h.good⟩
theorem St.new {B b : Nat} {w : World} (h : IsP B b [] [] w) : St B b [] [] w := ⟨h, ⟨(fun p hp => by cases hp), Nat.le_refl _⟩, Good.nil _⟩
/-- What Name makes of a pack, whatever is added. -/
def stp (S : List UInt8) (L : Kn) (n : ByteArray) : List UInt8 × Kn := if mayB n = true then put S L (labs n) else (S, L)
def stE (n : ByteArray) : Int := if mayB n = true then 0 else 1
/-- What is known of the bytes behind a step. -/
structure Stepped (S : List UInt8) (L : Kn) (n : ByteArray) : Prop where
  app : ∃ X, (stp S L n).1 = S ++ X ∧ X.length ≤ n.size ∧ (mayB n = false → X = []) ∧ X.length ≤ 255
  back : mayB n = true → ∀ (s : ByteArray) (Y : List UInt8), s.data.toList = (stp S L n).1 ++ Y → tkB s S.length S.length = some (wire (labs n), (stp S L n).1.length)
theorem stepped {S : List UInt8} {L : Kn} (hG : Good S L) (n : ByteArray) : Stepped S L n ∧ Good (stp S L n).1 (stp S L n).2 := by
  unfold stp
  cases hm : mayB n with
  | false => exact ⟨⟨⟨[], by simp [stp, hm], by simp, fun _ => rfl, by simp⟩, fun h => by rw [hm] at h; cases h⟩, hG⟩
  | true =>
    have hn := may_name hm
    obtain ⟨W, h1, h2, h3, h4, h5⟩ := put_good hG (labs n) hn.ok
    have hl : (wire (labs n)).length = n.size := by rw [← hn.eq, ba_len]
    have hsz := hn.size
    have e : stp S L n = put S L (labs n) := by simp [stp, hm]
    refine ⟨⟨⟨W, by rw [e]; exact h1, by omega, (fun h => by rw [hm] at h; cases h), by omega⟩, fun _ s Y hs => ?_⟩, by simp only [if_true]; rw [h1]; exact h4⟩
    rw [e, h1]
    rw [e, h1] at hs
    exact h5 s Y hs
theorem knOk_stp {S : List UInt8} {L : Kn} (h : KnOk S L) (n : ByteArray) : KnOk (stp S L n).1 (stp S L n).2 := by
  unfold stp
  split
  · exact knOk_put _ _ _ h
  · exact h

theorem name_step (B b : Nat) (S : List UInt8) (L : Kn) (n : ByteArray) (w : World) (h : St B b S L w) (hB : B ≤ w.heap.size) (hS : S.length ≤ 1099511627776) (hn : n.size ≤ 140737488355328) :
    Calls Tryd.prog 44 #[.pointer (some ⟨b, 0, none⟩), .string n] w fun e w' => e = .returned (.int .i64 (stE n)) ∧ St B b (stp S L n).1 (stp S L n).2 w' ∧ Below B w w' ∧ Kp w w' := by
  have hk := knOk_stp h.kn n
  have hg := (stepped h.good n).2
  cases hm : mayB n with
  | true =>
    have e1 : stE n = 0 := by simp [stE, hm]
    have e2 : stp S L n = put S L (labs n) := by simp [stp, hm]
    rw [e2] at hk hg ⊢
    rw [e1]
    refine (name_yes B b S L n w h.is h.kn hB hS hm).mono ?_
    rintro e w' ⟨rfl, h1, h2, h3⟩
    exact ⟨rfl, ⟨h1, hk, hg⟩, h2, h3⟩
  | false =>
    have e1 : stE n = 1 := by simp [stE, hm]
    have e2 : stp S L n = (S, L) := by simp [stp, hm]
    rw [e2, e1]
    refine (name_no b n w hn hm).mono ?_
    rintro e w' ⟨rfl, h1⟩
    exact ⟨rfl, h.below h1, h1.mono hB, Kp.below h1⟩
theorem add_step (B b : Nat) (S : List UInt8) (L : Kn) (s : ByteArray) (w : World) (h : St B b S L w) (hl : S.length + s.size ≤ 140737488355328) (hB : B ≤ w.heap.size) :
    Calls Tryd.prog 45 #[.pointer (some ⟨b, 0, none⟩), .string s] w fun e w' => e = .returned (.tuple #[]) ∧ St B b (S ++ s.data.toList) L w' ∧ Below B w w' ∧ Kp w w' := by
  refine (add_any B b S L s w h.is hl hB).mono ?_
  rintro e w' ⟨rfl, h1, h2, h3⟩
  exact ⟨rfl, ⟨h1, ⟨h.kn.1, by have := h.kn.2; rw [List.length_append]; omega⟩, h.good.more _⟩, h2, h3⟩
end Go.Proofs.YtlphbeaaeeohjaaDoor
