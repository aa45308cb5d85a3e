/- Proved: for every slice of strings and every slice of items, derricklaw04.RdataBack returns true and its arguments read as before. Condition: the listed package-level variable (rdata.layouts) is as the program's text lays it; the card ties that to a pruned copy of the project (it says nothing of the project's other packages, commands or tests). -/
import Derived.Test.YtccmppnindkgfaaDoorLrb
import Derived.Test.YtccmppnindkgfaaDoorLad
import Derived.Test.YtccmppnindkgfaaDoorLit
import Derived.Test.YtccmppnindkgfaaDoorCards
import Derived.Test.YtccmppnindkgfaaDoorTie
namespace Go.Proofs.YtccmppnindkgfaaDoor.rdataBack
open Go.ChangeShapes Go.WideShapes Go.ChangeAt Go.RowKit
open Go.ChangeMaps (open_string shut_string)
set_option linter.unusedVariables false

set_option maxRecDepth 100000 in
theorem lifted (os : Os) (started : os.Started) (H : Type) (enc : TypeId × Value → H) :
    ReturnsInHanded {} Tryd.checked os 5 .any (fun w args => (Rows.rdataBackSpec.pre enc Tryd.prog Tryd.f5 [] false w args ∧ laidMetH Tryd.prog Rows.rdataBackRow.laid w) ∧ sizedMet enc Tryd.prog Tryd.f5 (OpenSpec.ofChange Rows.rdataBackSpec) false w args)
      (Rows.rdataBackSpec.post enc Tryd.prog Tryd.f5 false true false false) := by
  refine returnsInHanded_of_change_and (C := Tryd.checked) (X := fun w _ => laidMetH Tryd.prog Rows.rdataBackRow.laid w) (fun _ _ _ hh h => h.of_heap hh) own started (by kernel_rfl) Tryd.func5
    (ChangeSpec.witness_shaped (enc := enc) (C := Tryd.checked) (os := os) (X := fun w _ => laidMetH Tryd.prog Rows.rdataBackRow.laid w) false (World.doorLaid Tryd.prog 400 os) #[.slice none 0 0, .slice none 0 0] 8 rfl (door_shaped os _) (by kernel_rfl) (by kernel_rfl) (by kernel_rfl) (door_met os _)) ?_
  intro W base args ds gs before hval0 hW hcnd hsz hL _
  have hval : ∀ (j : Nat) t v, Tryd.f5.params[j]? = some t → args[j]? = some v → Value.okWide Tryd.prog W .any base t v := hval0
  have hW' := hW
  obtain ⟨p, q, hA0, hV, rfl, hfz, hnd⟩ := hW
  have hA : DataW.TrodAll enc Tryd.prog W 0 (fun _ => true) true Tryd.f5.params.toList args.toList ds p := hA0
  rw [Tryd.params5] at hA hval hsz
  obtain ⟨v0, vs0, d0, ds0, p0, q0, hargs, rfl, rfl, h0, r0⟩ := trodAll_cons hA
  obtain ⟨v1, vs1, d1, ds1, p1, q1, rfl, rfl, rfl, h1, r1⟩ := trodAll_cons r0
  obtain ⟨rfl, rfl, rfl⟩ := trodAll_nil r1
  obtain rfl : args = #[v0, v1] := by cases args; simp_all
  obtain ⟨rfl, rfl⟩ := trodVars_none hV
  obtain ⟨A0, c0, l0, rfl, hS0, hd0⟩ := open_lbs (hval 0 46 v0 rfl rfl) h0
  obtain ⟨A1, c1, l1, rfl, hS1, hl1, hz1⟩ := open_items (hval 1 33 v1 rfl rfl) h1
  have z0 : l0.length ≤ 140737488355328 := by
    rcases hd0 with rfl | ⟨el, sp, rfl, he⟩
    · simp
    · have h : (el.length + sp.length) * Tryd.prog.bytesOf 9 ≤ reachBytes := sized_slice hsz (j := 0) (t := 46) rfl rfl Tryd.underlying46
      have h2 := reachBytes_lt
      rw [bytes9] at h
      omega
  have hT := lay_of hL
  clear hA0 hval0
  simp only [List.append_nil] at hW'
  have hlt0 : ∀ x ∈ p0, x.block < W.heap.size := fun x hx => hW'.lt x (by simp only [List.mem_append]; exact Or.inl hx)
  have hlt1 : ∀ x ∈ p1, x.block < W.heap.size := fun x hx => hW'.lt x (by simp only [List.mem_append]; exact Or.inr hx)
  refine (back_walk A0 c0 l0 A1 c1 l1 z0 hl1 hz1 W hS0 hS1 hT).mono fun e W' ⟨he, bel⟩ => ?_
  subst he
  exact ⟨_, rfl, _, _, _, [], _, [], hW', (trodAll_cons_mk (shut_bool Tryd.underlying4 _) trodAll_mk0), (trodAll_cons_mk (bel.trod laidOut readL sizeL h0 hlt0) (trodAll_cons_mk (bel.trod laidOut readT sizeT h1 hlt1) trodAll_mk0)), rfl, World.keptBut_mono (fun x hx => ⟨hx, Or.inr (by simpa using hx)⟩) (bel.frame _), fun h => by cases h⟩

theorem over : Rows.RdataBackSaid :=
  OpenClaim.holds_of_wide 5 Tryd.f5 rfl rfl rfl rfl rfl rfl rfl ⟨rfl, rfl, rfl, rfl, rfl⟩ rfl rfl rfl rfl rfl (by kernel_rfl) Tryd.func5 (by kernel_rfl)
    (of_decide_eq_true (by kernel_rfl)) (by unfold Func.isWrapper; first | (rw [if_pos (by decide +kernel)]; kernel_rfl) | (rw [if_neg (by decide +kernel)]; exact ⟨rfl, rfl⟩))
    (fun os started H enc _ => lifted os started H enc)

theorem proved : Rows.RdataBackCardSaid :=
  Claim7.holds_tied_plain_at .later [] [.data] true (true, "4b091b2dd343faab881cd9c3b579e150dba41b0446a4ff302710ee5c0fe505c6") false
    over (fun _ h => by cases h) (by kernel_rfl) (fun _ h => by cases h) rdataBack_row_tie rfl ⟨rfl, rfl⟩ (by kernel_rfl) rfl
    (fun f fn hf hfn => by
      obtain rfl : f = 5 := Option.some.inj ((show Tryd.prog.funcNamed "derrick/derricklaw04.RdataBack" = some 5 by kernel_rfl).symm.trans hf) |>.symm
      obtain rfl : fn = Tryd.f5 := (Option.some.inj (Tryd.func5.symm.trans hfn)).symm
      exact ⟨by kernel_rfl, fun j t ht => by
        rw [Tryd.params5] at ht
        have hm : t ∈ [46, 33] := by simpa using Array.mem_of_getElem? ht
        have hall : ([46, 33].all fun u => !Tryd.prog.wantsStandIn u) = true := by kernel_rfl
        exact (show Tryd.prog.wantsStandIn t = false by simpa using List.all_eq_true.1 hall t hm)⟩)
    (by kernel_rfl)
end Go.Proofs.YtccmppnindkgfaaDoor.rdataBack
