/- A shard's deeds, in plain mathematics. -/
import Derived.Test.YtjjanogfcfapcaaVmb
namespace Go.Proofs.Ytjjanogfcfapcaa
set_option linter.unusedVariables false

/-- The cells as 'Sha' has them. -/
def tiC (c : List (Ce En)) : List (Option En) := c.map fun e => if e.u then some e.x else none
theorem tiC_len (c : List (Ce En)) : (tiC c).length = c.length := by simp [tiC]
theorem tiC_set (c : List (Ce En)) (k : Nat) (e : Ce En) : tiC (c.set k e) = (tiC c).set k (if e.u then some e.x else none) := by simp [tiC, List.map_set]
theorem cell_tiC (c : List (Ce En)) (i : Nat) : W.cellOf (tiC c) i = if us c i then some (c.getD i Z0).x else none := by
  unfold W.cellOf tiC us
  rw [List.getElem?_map, List.getD_eq_getElem?_getD]
  cases c[i]? <;> rfl
theorem tiC_new (n : Nat) : tiC (newM n : Ms En).c = List.replicate n none := by
  show (List.replicate n (Z0 : Ce En)).map _ = _
  rw [List.map_replicate]
  rfl
abbrev TO (c : List (Ce En)) (l : List W.Ti) : Prop := W.TimesOf En.ex (tiC c) l

/-- A shard: its slots, and its times. -/
structure Sd where
  P : Ms En
  l : List W.Ti
structure Sd.Ok (d : Sd) : Prop where
  ok : d.P.Ok
  ti : TO d.P.c d.l
  uq : Uq d.P.c
def newS (n : Nat) : Sd := ⟨newM n, []⟩
def freeS (d : Sd) (k : Nat) : Sd := ⟨⟨d.P.c.set k Z0, d.P.h⟩, W.delL d.l k⟩
def storeS (d : Sd) (k : Nat) (e : En) (t : Bool) : Sd := ⟨⟨d.P.c.set k ⟨e, true, t⟩, d.P.h⟩, W.setL d.l k e.ex⟩
def touchS (d : Sd) (k : Nat) : Sd := ⟨⟨d.P.c.set k ⟨(d.P.c.getD k Z0).x, true, true⟩, d.P.h⟩, d.l⟩
def putS (d : Sd) (e : En) : Sd := match firstC d.P.c with | some i => storeS d i e false | none => d
/-- Slots are freed, one behind the other. -/
def freeAll (c : List (Ce En)) (is : List W.Ti) : List (Ce En) := is.foldl (fun c x => c.set x.id.toNat Z0) c
def goneQ (c : List (Ce En)) (is : List W.Ti) : List Qu := is.map fun x => qAt c x.id.toNat
def advS (d : Sd) (now : Nat) : Sd × List Qu := (⟨⟨freeAll d.P.c (W.dueL d.l now), d.P.h⟩, W.restL d.l now⟩, goneQ d.P.c (W.dueL d.l now))
def vicS (d : Sd) : Sd × Nat := (⟨(vicM d.P).1, d.l⟩, (vicM d.P).2.getD 0)
def roomS (d : Sd) (now : Nat) : Sd × List Qu :=
  if (firstC d.P.c).isSome then (d, [])
  else if (W.dueL d.l now).isEmpty then (freeS (vicS d).1 (vicS d).2, [qAt d.P.c (vicS d).2])
  else advS d now
/-- What beats. -/
def btE (a b : En) (now : Nat) : Bool := !decide (now < a.ex) || decide (a.rk ≤ b.rk)
def insS (d : Sd) (e : En) (now : Nat) : Sd × List Qu × Int :=
  if e.ex ≤ now then (d, [], 4)
  else match slotOf d.P.c e.q with
    | some k => if btE (d.P.c.getD k Z0).x e now then (storeS d k e true, [], 0) else (d, [], 7)
    | none => (putS (roomS d now).1 e, (roomS d now).2, 0)
def lookS (d : Sd) (q : Qu) (now : Nat) : Sd × En × Bool :=
  match slotOf d.P.c q with
  | some k => if now < (d.P.c.getD k Z0).x.ex then (touchS d k, (d.P.c.getD k Z0).x, true) else (d, default, false)
  | none => (d, default, false)
def evS (d : Sd) (q : Qu) : Sd × Bool :=
  match slotOf d.P.c q with
  | some k => (freeS d k, true)
  | none => (d, false)
theorem newS_ok {n : Nat} (h1 : 1 ≤ n) (h2 : n ≤ 64) : (newS n).Ok := by
  refine ⟨newM_ok En h1 h2, ?_, ?_⟩
  · show W.TimesOf En.ex (tiC (newM n : Ms En).c) []
    rw [tiC_new]
    exact W.TimesOf.new n
  · intro i j hi hj ui
    have : us (newM n : Ms En).c i = false := by
      unfold us newM
      simp only [List.getD_eq_getElem?_getD, List.getElem?_replicate]
      split <;> rfl
    rw [show (newS n).P.c = (newM n : Ms En).c from rfl, this] at ui
    cases ui
section
variable {d : Sd}
theorem freeS_ok (h : d.Ok) {k : Nat} (hk : k < d.P.c.length) : (freeS d k).Ok := by
  refine ⟨⟨by simpa [freeS] using h.ok.n1, by simpa [freeS] using h.ok.n64, by simpa [freeS] using h.ok.hn⟩, ?_, h.uq.free hk rfl⟩
  show W.TimesOf En.ex (tiC (d.P.c.set k Z0)) _
  rw [tiC_set]
  exact h.ti.free (by rw [tiC_len]; exact hk)
theorem storeS_ok (h : d.Ok) {k : Nat} (hk : k < d.P.c.length) (e : En) (t : Bool) (hn : ∀ j, j < d.P.c.length → us d.P.c j = true → qAt d.P.c j = e.q → j = k) : (storeS d k e t).Ok := by
  refine ⟨⟨by simpa [storeS] using h.ok.n1, by simpa [storeS] using h.ok.n64, by simpa [storeS] using h.ok.hn⟩, ?_, h.uq.put hk hn⟩
  show W.TimesOf En.ex (tiC (d.P.c.set k ⟨e, true, t⟩)) _
  rw [tiC_set]
  exact h.ti.set (by rw [tiC_len]; exact hk) e
/-- What only the touching turns. -/
structure Alike (c c' : List (Ce En)) : Prop where
  len : c'.length = c.length
  us : ∀ j, us c' j = us c j
  x : ∀ j, (c'.getD j Z0).x = (c.getD j Z0).x
theorem Alike.qAt {c c' : List (Ce En)} (h : Alike c c') (j : Nat) : qAt c' j = qAt c j := by
  unfold Proofs.Ytjjanogfcfapcaa.qAt; rw [h.x]
theorem Alike.tiC {c c' : List (Ce En)} (h : Alike c c') : tiC c' = tiC c := by
  apply List.ext_getElem?
  intro i
  by_cases hi : i < c.length
  · have h1 : c'.getD i Z0 = c'[i]'(by rw [h.len]; exact hi) := by simp [h.len, hi]
    have h2 : c.getD i Z0 = c[i] := by simp [hi]
    have a := h.us i
    have b := h.x i
    unfold Proofs.Ytjjanogfcfapcaa.us at a
    rw [h1, h2] at a b
    unfold Proofs.Ytjjanogfcfapcaa.tiC
    rw [List.getElem?_map, List.getElem?_map, List.getElem?_eq_getElem hi, List.getElem?_eq_getElem (by rw [h.len]; exact hi)]
    simp [a, b]
  · rw [List.getElem?_eq_none (by rw [tiC_len, h.len]; omega), List.getElem?_eq_none (by rw [tiC_len]; omega)]
theorem Alike.uq {c c' : List (Ce En)} (h : Alike c c') (hu : Uq c) : Uq c' := fun i j hi hj ui uj hq => by
  rw [h.len] at hi hj
  rw [h.us] at ui uj
  rw [h.qAt, h.qAt] at hq
  exact hu i j hi hj ui uj hq
theorem Alike.slot {c c' : List (Ce En)} (h : Alike c c') (hu : Uq c) (q : Qu) : slotOf c' q = slotOf c q := by
  cases hs : slotOf c q with
  | none =>
    rw [slot_none] at hs ⊢
    intro k hk hku
    rw [h.len] at hk
    rw [h.us] at hku
    rw [h.qAt]
    exact hs k hk hku
  | some k =>
    rw [slot_some hu] at hs
    rw [slot_some (h.uq hu), h.len, h.us, h.qAt]
    exact hs
theorem touch_alike (c : List (Ce En)) {k : Nat} (hk : k < c.length) (hu : us c k = true) : Alike c (c.set k ⟨(c.getD k Z0).x, true, true⟩) := by
  refine ⟨List.length_set, fun j => ?_, fun j => ?_⟩
  · rw [us_set hk]; split
    · rename_i h; rw [← h, hu]
    · rfl
  · rw [getD_set _ _ _ _ hk]; split
    · rename_i h; rw [← h]
    · rfl
theorem vic_alike {P : Ms En} (h : P.Ok) : Alike P.c (vicM P).1.c := ⟨vicM_len h, vicM_us h, vicM_xs h⟩
theorem touchS_ok (h : d.Ok) {k : Nat} (hk : k < d.P.c.length) (hu : us d.P.c k = true) : (touchS d k).Ok := by
  have a := touch_alike d.P.c hk hu
  refine ⟨⟨by simpa [touchS] using h.ok.n1, by simpa [touchS] using h.ok.n64, by simpa [touchS] using h.ok.hn⟩, ?_, a.uq h.uq⟩
  show W.TimesOf En.ex (tiC (touchS d k).P.c) d.l
  rw [show tiC (touchS d k).P.c = tiC d.P.c from a.tiC]
  exact h.ti
theorem vicS_ok (h : d.Ok) : (vicS d).1.Ok := by
  have a := vic_alike h.ok
  refine ⟨vicM_ok h.ok, ?_, a.uq h.uq⟩
  show W.TimesOf En.ex (tiC (vicM d.P).1.c) d.l
  rw [a.tiC]
  exact h.ti
end
end Go.Proofs.Ytjjanogfcfapcaa
