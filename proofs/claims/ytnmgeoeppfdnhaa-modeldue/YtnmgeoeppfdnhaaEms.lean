/- The program's sort of questions: slices.SortFunc by the model's order. -/
import Derived.Test.YtnmgeoeppfdnhaaEmo
import Derived.Shelf.SlSortCmp.NoneTotal
import Derived.Shelf.Small.Bits
import Derived.Test.YtnmgeoeppfdnhaaEsl
namespace Go.Proofs.Ytnmgeoeppfdnhaa
open Go.RowKit Go.Shelf Go.Sort
set_option linter.unusedVariables false
set_option linter.unusedSimpArgs false

/-- Questions in their order. -/
def sortQs (l : List Qu) : List Qu := l.mergeSort fun x y => !(Go.Proofs.ltOf cfQ) y x
theorem sortQs_mem (l : List Qu) (q : Qu) : q ∈ sortQs l ↔ q ∈ l := (List.mergeSort_perm l _).mem_iff
theorem sortQs_len (l : List Qu) : (sortQs l).length = l.length := (List.mergeSort_perm l _).length_eq
theorem sortQs_rise {l : List Qu} (h : l.Nodup) : RiseQ (sortQs l) := by
  have hp : (sortQs l).Pairwise fun x y => (!(Go.Proofs.ltOf cfQ) y x) = true := by
    refine List.pairwise_mergeSort (fun a b c h1 h2 => ?_) (fun a b => ?_) l
    · rw [cf_less] at *
      simp only [Bool.not_eq_true'] at *
      have := cf_swo.ntrans c b a (by rw [cf_less]; exact h2) (by rw [cf_less]; exact h1)
      rw [cf_less] at this
      exact this
    · rw [cf_less, cf_less]
      cases h1 : lessQ b a with
      | false => rfl
      | true => rw [lq_asym h1]; rfl
  have hn : (sortQs l).Nodup := (List.mergeSort_perm l _).nodup_iff.2 h
  unfold RiseQ
  refine (hp.and hn).imp fun {a b} h => ?_
  rcases lq_tot h.2 with h1 | h1
  · exact h1
  · have := h.1
    rw [cf_less, h1] at this
    cases this
theorem sortQs_gone {m : List En} (ok : Mok m) (now : Nat) {l : List Qu} (h : l.Nodup) (hm : ∀ q, q ∈ l ↔ q ∈ goneL m now) : sortQs l = goneL m now :=
  rise_ext (sortQs_rise h) (gone_rise ok now) fun q => (sortQs_mem l q).trans (hm q)
theorem heap_mapBlock (w : World) (g i : Nat) (f : Array Value → Array Value) (h : i ≠ g) : (mapBlock w g f).heap[i]? = w.heap[i]? := by
  unfold mapBlock
  simp only [Array.getElem?_modify]
  rw [if_neg (fun e => h e.symm)]
theorem sortWorld_below {B : Nat} (w : World) (g n : Nat) (d : Array Qu) (os : Array Obj) (hB : B ≤ g) (hw : g < w.heap.size) : Below B w (sortWorldK qf 3 w g 0 n d os) := by
  unfold sortWorldK
  have hsz : (putRowK qf 3 (Sort.ahead w n) g 0 d).heap.size = w.heap.size := by rw [size_putRowK]; rfl
  refine ⟨rfl, rfl, rfl, ?_, fun i hi => ?_⟩
  · rw [size_grow, hsz]; exact Nat.le_add_right _ _
  · rw [heap_grow_old _ _ (by rw [hsz]; omega)]
    exact heap_mapBlock _ g i _ (by omega)
theorem eg33 : ∀ args w, (callFunc 33 args).run Try.prog w = .ok (.enter 33 args) w := enters_of Try.func33 (by kernel_rfl) rfl
theorem cmpLaysQ (blk off size : Nat) (w : World) : CmpLays Try.prog 33 #[] qf 3 cfQ blk off size w := fun _ _ _ _ x y => order_any x y _
theorem qf_at (l : List Qu) {j : Nat} (hj : j < l.length * 3) : (flatK qf 3 l.toArray)[j]! = ((l.flatMap qf)[j]?).getD default := by
  rw [get_flatK _ _ _ _ (by simpa using hj)]
  have h1 : j / 3 < l.length := by omega
  have h2 := flat_at (f := qf) (k := 3) qf_len l (j / 3) (j % 3) h1 (by omega)
  rw [show j / 3 * 3 + j % 3 = j by omega] at h2
  rw [h2]
  have h3 : l.toArray[j / 3]! = l[j / 3] := by simp [h1]
  rw [h3]
  simp
theorem holds_own {w : World} {g B cap : Nat} {l : List Qu} (h : w.ownsRow B 25 3 (.slice (some ⟨g, 0, none⟩) l.length cap) l.length (l.flatMap qf)) : HoldsK qf 3 w g 0 l.toArray := by
  rcases h.2 with ⟨h1, _⟩ | ⟨g', cap', cur, h1, _, hg, _, _, _, htk⟩
  · cases h1
  · cases h1
    intro j hj
    rw [size_flatK] at hj
    have hj : j < l.length * 3 := by simpa using hj
    have b : Blk w g 25 cur := hg
    refine ⟨?_, by rw [Nat.zero_add]; exact b.frozen j⟩
    rw [Nat.zero_add, b.cell j]
    show cur[j]? = some (flatK qf 3 l.toArray)[j]!
    rw [qf_at l hj]
    have h2 : cur[j]? = (l.flatMap qf)[j]? := by
      rw [← htk, List.getElem?_take, if_pos (by omega)]
      simp
    have h3 : j < (l.flatMap qf).length := by rw [flat_len qf_len]; exact hj
    rw [h2, List.getElem?_eq_getElem h3]
    rfl
theorem sl_holds {w : World} {g cap : Nat} {l : List Qu} (h : HoldsK qf 3 w g 0 l.toArray) (hg : g < w.heap.size) (hc : l.length ≤ cap) : Sl qf w (some ⟨g, 0, none⟩) cap l := by
  refine ⟨fun e => (by cases e), hc, .inr ⟨g, 0, rfl, hg, fun j u hu => ?_⟩⟩
  have hlen : j < l.length * 3 := by
    rw [← flat_len (f := qf) (k := 3) qf_len l]
    exact (List.getElem?_eq_some_iff.1 hu).1
  have h1 := (h j (by rw [size_flatK]; simpa using hlen)).1
  rw [qf_at l hlen, hu] at h1
  exact h1
set_option maxHeartbeats 1000000 in
theorem sort_any {B : Nat} {A : Option Addr} {cap : Nat} {l : List Qu} {w : World} (hl : l.length ≤ 100000) (h : w.ownsRow B 25 3 (.slice A l.length cap) l.length (l.flatMap qf)) :
    Calls Try.prog 32 #[.slice A l.length cap, .func (.func 33) #[] #[]] w fun e w' => e = .returned (.tuple #[]) ∧ Sl qf w' A cap (sortQs l) ∧ Nw B A ∧ Below B w w' := by
  by_cases h0 : l = []
  · subst h0
    have hs := Sl.owned qf_len h
    have hc := AnyF.slices_SortFunc_none Try.sortQ A cap (.func (.func 33) #[] #[]) w
    change Calls Try.prog 32 _ _ _ at hc
    exact hc.mono (by
      rintro e w' ⟨he, rfl⟩
      exact ⟨he, by unfold sortQs; simpa using hs.1, hs.2, Below.refl _ _⟩)
  · obtain ⟨g, rfl, hBg⟩ := own_block h (List.length_pos_iff.2 h0)
    have hw : g < w.heap.size := by
      rcases h.2 with ⟨h1, _⟩ | ⟨g', cap', cur, h1, _, hg, _⟩
      · cases h1
      · cases h1; exact heap_lt hg
    have hcap : l.length ≤ cap := by
      rcases h.2 with ⟨h1, _⟩ | ⟨g', cap', cur, h1, _, hg, hle, _⟩
      · cases h1
      · cases h1; exact hle
    have hH := holds_own h
    have hc := AnyQ.slices_SortFunc_total Try.sortQ 3 Try.isAgg25 Try.sizeOf25 qf qf_len (fun x v hv => qf_one [x] v (by simpa using hv)) cfQ cf_swo 33 #[] g 0 cap l.toArray w eg33 (cmpLaysQ _ _ _ _) hH hw (by simp; omega) cf_tot
    change Calls Try.prog 32 _ _ _ at hc
    simp only [List.size_toArray] at hc
    exact hc.mono (by
      rintro e w' ⟨he, n, os, rfl⟩
      have hs : (l.mergeSort fun x y => !(Go.Proofs.ltOf cfQ) y x).toArray.size = l.toArray.size := by
        simp only [List.size_toArray]; exact sortQs_len l
      have hH' := holdsK_sortWorldK_c qf 3 w g 0 l.toArray _ n os hH hw hs
      refine ⟨he, sl_holds hH' (Nat.lt_of_lt_of_le hw (size_sortWorldK_c ..)) (by rw [sortQs_len]; exact hcap), fun b off e => ?_, sortWorld_below w g n _ os hBg hw⟩
      cases e
      exact hBg)
end Go.Proofs.Ytnmgeoeppfdnhaa
