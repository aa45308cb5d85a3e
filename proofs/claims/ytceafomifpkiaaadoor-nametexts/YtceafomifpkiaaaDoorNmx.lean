/- The contract of name.Text: the text form of a name. -/
import Derived.Test.YtceafomifpkiaaaDoorNmt
import Derived.Test.YtceafomifpkiaaaDoorNmu
namespace Go.Proofs.YtceafomifpkiaaaDoor
open Go.RowKit Go.Shelf
set_option linter.unusedVariables false
attribute [local go_sem] Oper.semAt_some

theorem written_any (c : UInt8) (w : World) (ht : Tab w) :
    Calls Tryd.prog 42 #[.int .u8 (c.toNat : Nat)] w fun e w' => e = .returned (.string ⟨(esc c).toArray⟩) ∧ Below w.heap.size w w' := by
  by_cases h : c.toNat = 46 ∨ c.toNat = 92
  · exact (written_dot c w h).mono fun _ _ ⟨he, hw⟩ => ⟨he, hw ▸ Below.refl _ _⟩
  · by_cases h2 : 33 ≤ c.toNat ∧ c.toNat ≤ 126
    · exact (written_plain c w (by omega) (by omega) h2.1 h2.2).mono fun _ _ ⟨he, hw⟩ => ⟨he, hw ▸ Below.refl _ _⟩
    · exact written_num c w ht (by omega) (by omega) (by omega)

theorem esc_len (c : UInt8) : 1 ≤ (esc c).length ∧ (esc c).length ≤ 4 := by unfold esc; split <;> (try split) <;> simp
/-- A label's text. -/
def escL (l : List UInt8) : List UInt8 := l.flatMap esc
theorem escL_len (l : List UInt8) : (escL l).length ≤ 4 * l.length := by
  induction l with
  | nil => simp [escL]
  | cons c l ih =>
    have := esc_len c
    simp only [escL, List.flatMap_cons, List.length_append, List.length_cons] at ih ⊢
    omega
theorem escL_snoc (l : List UInt8) (c : UInt8) : escL (l ++ [c]) = escL l ++ esc c := by simp [escL]
/-- The text of labels. -/
def textL (ls : List (List UInt8)) : List UInt8 := ls.flatMap fun l => escL l ++ [46]
theorem textL_snoc (ls : List (List UInt8)) (l : List UInt8) : textL (ls ++ [l]) = textL ls ++ escL l ++ [46] := by simp [textL]
theorem textP_len {s : ByteArray} (pre : List (At s)) : (textL (pre.map lab)).length ≤ 253 * pre.length := by
  induction pre with
  | nil => simp [textL]
  | cons x pre ih =>
    have h1 := escL_len (lab x)
    have h2 := lab_ok x
    unfold okLb at h2
    simp only [textL, List.map_cons, List.flatMap_cons, List.length_append, List.length_cons, List.length_nil] at ih ⊢
    omega

theorem isB_own {β : Type} (B b m : Nat) (f : β → List UInt8) : OwnFrom m (fun s W => IsB B b (f s) W) := by
  intro s W W' row hs hg hr
  have key : ∀ p, Lib.BuilderAtF 54 5 B b p (Lib.byteCells (f s)) W → Lib.BuilderAtF 54 5 B b p (Lib.byteCells (f s)) W' := by
    intro p h
    have hlt := h.lt
    obtain ⟨hB, v, hbk, hown, hne⟩ := h
    have hb2 : some b ≠ row := fun e => by
      obtain ⟨_, o, ho, hc⟩ := hr b e.symm
      rw [hbk] at ho; cases ho; cases hc
    refine ⟨hB, v, (hg.block b hlt hb2).trans hbk, ⟨hown.1, ?_⟩, hne⟩
    rcases hown.2 with hn | ⟨g, cap, cur, fz, rfl, hgb, hgg, rest⟩
    · exact .inl hn
    · refine .inr ⟨g, cap, cur, fz, rfl, hgb, (hg.block g (Array.getElem?_eq_some_iff.1 hgg).1 (fun e => ?_)).trans hgg, rest⟩
      obtain ⟨_, o, ho, hc⟩ := hr g e.symm
      rw [hgg] at ho; cases ho; cases hc
  exact hs.elim (fun x => .inl (key _ x)) (fun x => .inr (key _ x))
theorem IsB.cells {B b : Nat} {l : List UInt8} {W : World} (h : IsB B b l W) : ∃ cs, W.heap[b]? = some (.cells cs 54 (0, 0)) := by
  rcases h with ⟨_, v, h, _⟩ | ⟨_, v, h, _⟩
  · exact ⟨_, h⟩
  · exact ⟨_, h⟩
theorem IsB.others {B b : Nat} {l : List UInt8} {W W' : World} (h : IsB B b l W) (hs : W.heap.size ≤ W'.heap.size) (hk : Lib.OthersKept 5 (some b) W W') : KeepsOthers W W' := by
  obtain ⟨cs, hc⟩ := h.cells
  refine ⟨hs, fun k o hko ho => hk k o hko (fun e => ?_) (fun c fz e => ?_)⟩
  · cases e; rw [hc] at hko; cases hko; cases ho
  · subst e; cases ho
theorem IsB.box {B b g : Nat} {t : TypeId} {v : Value} {l : List UInt8} {W W' : World} (h : IsB B b l W) (hk : Lib.OthersKept 5 (some b) W W') (hg : Boxed W g t v) (h5 : t ≠ 5) (h54 : t ≠ 54) : Boxed W' g t v := by
  obtain ⟨cs, hc⟩ := h.cells
  refine hk g _ hg (fun e => ?_) (fun c fz e => ?_)
  · obtain rfl : g = b := by simpa using e
    rw [show W.heap[g]? = _ from hg] at hc; cases hc; exact h54 rfl
  · cases e; exact h5 rfl
theorem keepsOthers_below {W W' : World} (h : Below W.heap.size W W') : KeepsOthers W W' := ⟨h.size, fun k o hk _ => (h.block k (Array.getElem?_eq_some_iff.1 hk).1).trans hk⟩

/-- name.Text's result. -/
def textB (s : ByteArray) : ByteArray := if mayB s = true then (if s.toList == [0] then ⟨#[46]⟩ else ⟨(textL (labs s)).toArray⟩) else ⟨#[]⟩

theorem may_size {s : ByteArray} (h : mayB s = true) : s.size ≤ 255 ∧ endZ s = true := by
  unfold mayB at h
  simp only [Bool.and_eq_true, beq_iff_eq] at h
  cases hz : endZ s with
  | false => rw [(cnt_form hz).2] at h; omega
  | true =>
    refine ⟨?_, rfl⟩
    rcases Nat.lt_or_ge 255 s.size with h1 | h1
    · rw [(cnt_long hz h1).2] at h; omega
    · exact h1

set_option maxRecDepth 100000 in
set_option maxHeartbeats 2000000 in
theorem text_any (s : ByteArray) (hs : s.size ≤ 140737488355328) (w : World) (ht : Tab w) :
    Calls Tryd.prog 29 #[.string s] w fun e w' => e = .returned (.string (textB s)) ∧ Below w.heap.size w w' := by
  refine (callsIn_wide (n := 3)).1 ?_
  refine callsIn_of_wp_marks Tryd.func29 rfl trivial ?_ rfl
  simp only [Tryd.ntmps29, List.size_toArray, List.length_cons, List.length_nil, Nat.reduceAdd, Nat.reduceSub, Array.replicate_succ, Array.replicate_zero, List.push_toArray, List.append_toArray, List.nil_append, List.cons_append]
  gi_wp2_with fail
  refine ⟨trivial, ?_⟩
  refine (callsIn_wide.2 (may_any s hs _)).mono ?_; rintro e w1 ⟨rfl, hb1⟩
  cases hm : mayB s with
  | false =>
    have hu : textB s = ⟨#[]⟩ := by simp [textB, hm]
    have HU := Lib.hid hu
    clear hu hm
    gi_wp2_with fail
    exact ⟨.string ⟨#[]⟩, by simp [results, Tryd.f29, go_sem], by rw [HU.out], hb1⟩
  | true =>
    obtain ⟨h255, hz⟩ := may_size hm
    cases he : (s.toList == [0]) with
    | true =>
      have hu : textB s = ⟨#[46]⟩ := by simp [textB, hm, he]
      have HU := Lib.hid hu
      clear hu hm
      gi_wp2_with fail
      exact ⟨.string ⟨#[46]⟩, by simp [results, Tryd.f29, go_sem], by rw [HU.out], hb1⟩
    | false =>
      have hu : textB s = ⟨(textL (labs s)).toArray⟩ := by simp [textB, hm, he]
      have HU := Lib.hid hu
      have hll := labsFrom_len s s.size 0 (by omega)
      clear hu hm hz
      gi_wp2_with (refine ⟨trivial, ?_⟩; gi_at_call 32; refine (walk_gives 2 s _).mono ?_; rintro e w' ⟨rfl, rfl⟩)
      have bN := Boxed.new (w1.alloc (.cells #[.pointer none, .slice none 0 0] 54)) 9 (.string s)
      rw [World.size_alloc] at bN
      have iB := (IsB.new w1).below (((Below.refl _ _).alloc (Nat.le_refl _) (.cells #[.string s] 9)))
      have hB0 : Below w.heap.size w ((w1.alloc (.cells #[.pointer none, .slice none 0 0] 54)).alloc (.cells #[.string s] 9)) := balloc (balloc hb1 _) _
      have hsz1 := hb1.size
      refine wpIn_rangeFunc_ownF rfl (by omega) (gf := 43) (lb := #[.pointer (some ⟨w1.heap.size + 1, 0, none⟩)]) rfl trivial (enters_of Tryd.func43 (by kernel_rfl) rfl)
        (walk_stops 2 (by omega) (w1.heap.size + 1) s hs _ (by simp) bN.cell) keepsAt_t (keepsAt_b (by simp)) (Below.refl _ _) (fun _ => rfl)
        (fun pre W => (IsB w1.heap.size w1.heap.size (textL (pre.map lab)) W ∧ Boxed W (w1.heap.size + 1) 9 (.string s)) ∧ Below w.heap.size w W)
        (fun _ _ _ => False)
        (OwnFrom.and (OwnFrom.and (isB_own _ _ _ _) (Own.from (boxed_own _ _ _) _)) (ownFrom_below (Nat.le_refl _) (by simp; omega)))
        (fun _ _ _ _ _ hs _ _ => hs)
        ⟨⟨iB, bN⟩, hB0⟩
        (fun x => { tmps := #[.string s, undef, .string ⟨#[]⟩, .pointer (some ⟨w1.heap.size, 0, none⟩), .string (s.extract (x.1 + 1) (nxt s x.1)), undef, .string s, .bool true, .bool false, .string s, .bool false, .string s, .func (.func 43) #[] #[.pointer (some ⟨w1.heap.size + 1, 0, none⟩)], .string (s.extract (x.1 + 1) (nxt s x.1)), .int .i64 (nxt s x.1 : Nat), undef, undef, undef, undef, undef, undef, undef, undef, undef, undef, undef, undef, undef], defers := [] }) ?assign ?body ?done ?stop
      case assign =>
        intro l x W K hK
        unfold enc
        gi_wp2
        exact hK
      case body =>
        rintro l pre x W ⟨⟨hI, bW⟩, hB⟩ hlt
        have hl1 := lab_ok x
        have hl2 := textP_len pre
        unfold okLb at hl1
        obtain ⟨L, hL⟩ : ∃ L, s.extract (x.1 + 1) (nxt s x.1) = L := ⟨_, rfl⟩
        rw [hL]
        have hLx : lab x = L.data.toList := by rw [← hL]; rfl
        have hLs : L.size ≤ 63 := by rw [← ba_len, ← hLx]; exact hl1.2
        have HX := Lib.hid hLx
        clear hL hLx hl1 bN iB hB0
        gi_wp2_with fail
        gi_loopw [17] (fun i wr => ∃ k : Nat, k ≤ L.size ∧ i = .int .i64 k ∧ IsB w1.heap.size w1.heap.size (textL (pre.map lab) ++ escL (L.data.toList.take k)) wr ∧ Boxed wr (w1.heap.size + 1) 9 (.string s) ∧ Below w.heap.size w wr ∧ KeepsOthers W wr) (fun i _ => L.size - (intOf i).toNat)
        case atStart => exact ⟨0, Nat.zero_le _, rfl, by simpa [escL] using hI, bW, hB, KeepsOthers.refl _⟩
        case round =>
          obtain ⟨k, hk, rfl, hI, bW', hB, hKO⟩ := hrel
          by_cases hlt' : k < L.size
          · have hsn : escL (L.data.toList.take (k + 1)) = escL (L.data.toList.take k) ++ esc L[k] := by
              rw [List.take_succ_eq_append_getElem (by rw [ba_len]; exact hlt'), escL_snoc]; rfl
            have hel := esc_len L[k]
            have hlk := escL_len (L.data.toList.take k)
            have htk : (L.data.toList.take k).length ≤ k := List.length_take_le _ _
            have HS := Lib.hid hsn
            have hwr := hB.size
            have hbsz := hI.lt
            clear hsn
            have hT := ht.below hB
            gi_wp2_with fail
            refine ⟨trivial, ?_⟩
            refine (CallsIn.inRound l (callsIn_wide.2 (written_any L[k] _ hT))).mono ?_
            rintro e w2 ⟨rfl, hb2⟩
            have hI2 := hI.below hb2
            have hB2 := bthen hB hb2
            have bW2 := bW'.below hb2 bW'.lt
            have hs2 := hb2.size
            gi_wp2_with fail
            refine ⟨trivial, ?_⟩
            refine (CallsIn.inRound l (callsIn_wide.2 (wstr _ _ _ _ _ hI2 (by show _ + (esc L[k]).toArray.size ≤ _; simp only [List.length_append, List.size_toArray]; omega) (by omega)))).mono ?_
            rintro e w3 ⟨rfl, hI3, hb3, hk3⟩
            gi_wp2_with fail
            go_roundw
            case rel => exact ⟨k + 1, hlt', by go_num, by rw [HS.out]; simpa using hI3, hI2.box hk3 bW2 (by decide) (by decide), hB2.trans (hb3.mono hsz1), (hKO.trans (keepsOthers_below hb2)).trans (hI2.others hb3.size hk3)⟩
            case measure => simp [intOf]; omega
          · have hfull : L.data.toList.take k = lab x := by rw [HX.out]; exact List.take_of_length_le (by rw [ba_len]; omega)
            rw [hfull] at hI
            have hel := escL_len (lab x)
            have hll3 : (lab x).length ≤ 63 := by rw [HX.out, ba_len]; exact hLs
            have hbsz := hI.lt
            clear hfull
            gi_wp2_with fail
            refine ⟨trivial, ?_⟩
            refine (CallsIn.inRound l (callsIn_wide.2 (wbyte _ _ _ _ _ hI (by simp only [List.length_append]; omega) (by omega) (by omega) (by omega)))).mono ?_
            rintro e w3 ⟨rfl, hI3, hb3, hk3⟩
            have bW3 := hI.box hk3 bW' (by decide) (by decide)
            gi_wp2_with fail
            exact ⟨hKO.trans (hI.others hb3.size hk3), fun v hv => by rw [bW.cell] at hv; rw [bW3.cell]; exact hv, ⟨by rw [List.map_append, List.map_cons, List.map_nil, textL_snoc]; exact hI3, bW3⟩, hB.trans (hb3.mono hsz1)⟩
      case done =>
        rintro D ys W hD rfl ⟨⟨hI, bW⟩, hB⟩ hK
        have hbsz := hI.lt
        gi_wp2_with fail
        refine ⟨trivial, ?_⟩
        refine (callsIn_wide.2 (Tryd.Builder_String_any_k _ _ _ _ hI (by omega))).mono ?_
        rintro e w3 ⟨rfl, hI3, hb3, hk3⟩
        have hK3 := (hI.others hb3.size hk3).same D _ hK rfl
        have hB3 : Below w.heap.size w w3 := hB.trans (hb3.mono hsz1)
        gi_wp2_with fail
        refine ⟨by simp, .inl ⟨_, _, rfl, run_takeDeferred hK3, ?_⟩⟩
        refine ⟨_, results_tmp rfl _ _ _, by rw [HU.out]; rfl, hB3.trans (belowK_b (w := w) (Nat.le_refl _) _ D _ _ (by simp at hD; omega) hK3 rfl rfl)⟩
      case stop =>
        rintro D c pre W _ _ h _
        exact h.elim
end Go.Proofs.YtceafomifpkiaaaDoor
