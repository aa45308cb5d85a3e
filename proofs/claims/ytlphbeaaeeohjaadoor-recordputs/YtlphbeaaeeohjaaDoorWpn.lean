/- The contracts of (*wire.Pack).learn and (*wire.Pack).Name. -/
import Derived.Test.YtlphbeaaeeohjaaDoorWpl
namespace Go.Proofs.YtlphbeaaeeohjaaDoor
open Go.RowKit Go.Maps
set_option linter.unusedVariables false

theorem learn_any (B b : Nat) (S : List UInt8) (L : Kn) (n : ByteArray) (w : World) (h : IsP B b S L w) (hB : B ≤ w.heap.size) (hL : L.length < maxLen) (hn : n.size ≤ maxLen) (hS : S.length ≤ 140737488355328) (hno : fnd L n.data.toList = none) :
    Calls Tryd.prog 72 #[.pointer (some ⟨b, 0, none⟩), .string n] w fun e w' => e = .returned (.tuple #[]) ∧ IsP B b S (lrn S L n.data.toList) w' ∧ Below B w w' ∧ Kp w w' := by
  by_cases hl : S.length < 16384
  · have h' := h
    obtain ⟨hBb, v, mv, hb, hrow, hm⟩ := h
    rcases hm with ⟨rfl, rfl⟩ | ⟨bm, m, D, rfl, hBm, hown, hmL, hk⟩
    · exact learn_none B b v S n w hBb hB hb hrow hn hl
    · refine (learn_map B b bm m D S L n w h' (blk_cell hb 1) hown (by omega) hn hl).mono ?_
      rintro e w' ⟨rfl, w1, hown1, hturn, rfl⟩
      have hg0 := hturn.grown
      have hg : w.grownBy w' (some bm) := ⟨hg0.os, hg0.tape, hg0.output, hg0.size, hg0.block⟩
      have hmb : ∃ es c, w.heap[bm]? = some (.map es c) := by obtain ⟨es, c, h1, _⟩ := hown; exact ⟨es, c, h1⟩
      refine ⟨rfl, ⟨hBb, v, _, (hg.block b (heap_lt hb) (fun e => ?_)).trans hb, hrow.kept hg ?_, ?_⟩, (Below.refl B w).grown hg hB (fun k hk => by cases hk; exact hBm), Kp.grown hg (fun g hg => by cases hg; exact .inr (.inr hmb))⟩
      · obtain ⟨es, c, h1⟩ := hmb
        cases e
        rw [hb] at h1
        cases h1
      · cases hv : v.ownBlock with
        | none => exact .inl rfl
        | some g =>
          refine .inr (fun e => ?_)
          obtain ⟨_, cur, h2⟩ := row_is hrow g hv
          obtain ⟨es, c, h1⟩ := hmb
          cases e
          rw [h1] at h2
          cases h2
      · unfold lrn
        rw [if_pos hl]
        exact isM_put hBm hmL hown1 hown.isMap hk hno
  · have b1 : decide (16384 ≤ (S.length : Int)) = true := by simp; omega
    have e1 : lrn S L n.data.toList = L := by unfold lrn; rw [if_neg hl]
    have HE := Lib.hid e1
    clear e1 hn hL hno
    go_enter Tryd.func72, Tryd.ntmps72
    go_wp2_with fail
    refine (len_any B b S L _ h).mono ?_; rintro e w2 ⟨rfl, rfl⟩
    go_wp2_with fail
    (try simp only [Exit.inBlock, Exit.then]); refine bodyPost_ret (results_none rfl _ _ _) rfl ?_
    exact ⟨rfl, by rw [HE.out]; exact h, Below.refl _ _, Kp.refl _⟩

/-- Offsets that a pointer has room for; not more names than bytes. -/
def KnOk (S : List UInt8) (L : Kn) : Prop := (∀ p ∈ L, p.2 < 16384) ∧ L.length ≤ S.length
theorem knOk_lrn {S : List UInt8} {L : Kn} (h : KnOk S L) (k l : List UInt8) : KnOk (S ++ enc1 l) (lrn S L k) := by
  unfold lrn
  split
  · rename_i hl
    refine ⟨fun p hp => ?_, by have := h.2; simp [enc1]; omega⟩
    rcases List.mem_append.1 hp with hp | hp
    · exact h.1 p hp
    · rw [List.mem_singleton.1 hp]; exact hl
  · exact ⟨h.1, by have := h.2; simp; omega⟩
theorem knOk_put : ∀ (ls : List (List UInt8)) (S : List UInt8) (L : Kn), KnOk S L → KnOk (put S L ls).1 (put S L ls).2
  | [], S, L, h => by rw [put_nil]; exact ⟨h.1, by have := h.2; simp; omega⟩
  | l :: ls, S, L, h => by
    cases hf : fnd L (wire (l :: ls)) with
    | some a => rw [put_hit hf]; exact ⟨h.1, by have := h.2; simp; omega⟩
    | none => rw [put_miss hf]; exact knOk_put ls _ _ (knOk_lrn h _ l)
theorem put_len : ∀ (ls : List (List UInt8)) (S : List UInt8) (L : Kn), (∀ l ∈ ls, okLb l) → (put S L ls).1.length ≤ S.length + (wire ls).length
  | [], S, L, _ => by rw [put_nil]; simp [wire]
  | l :: ls, S, L, h => by
    have hlen := wire_len_cons l ls
    have hpos := wire_len_pos ls
    have hok := h l (by simp)
    unfold okLb at hok
    cases hf : fnd L (wire (l :: ls)) with
    | some a => rw [put_hit hf]; simp [ptr]; omega
    | none =>
      rw [put_miss hf]
      have := put_len ls (S ++ enc1 l) (lrn S L (wire (l :: ls))) (fun l' hl' => h l' (List.mem_cons_of_mem _ hl'))
      rw [List.length_append, enc1_len] at this
      omega

/-- A name without its first label. -/
theorem name_tail {s : ByteArray} {l : List UInt8} {ls : List (List UInt8)} (h : NameIs s (l :: ls)) :
    mayB s = true ∧ (s.toList == [0]) = false ∧ NameIs (parS s) ls ∧ (parS s).size ≤ s.size ∧ (s.extract 0 (s.size - (parS s).size)).data.toList = enc1 l ∧ (parS s).size < s.size := by
  have hm := h.may.1
  have hokl := h.ok l (by simp)
  have hlen : s.size = l.length + 1 + (wire ls).length := by rw [← ba_len, h.eq, wire_len_cons]
  have hpos := wire_len_pos ls
  have h0 : (s.toList == [0]) = false := by
    rw [ByteArray.toList_eq, beq_eq_false_iff_ne]
    intro e
    have := congrArg List.length e
    rw [ba_len] at this
    unfold okLb at hokl
    simp at this
    omega
  have hpar : parB s = true := by simp [parB, hm, h0]
  have hd : s.data.toList.drop 0 = enc1 l ++ wire ls := by rw [List.drop_zero, h.eq, wire_cons]
  obtain ⟨hl, hn, _, hr⟩ := isL_at hokl hd
  have hS : parS s = s.extract (nxt s 0) s.size := by simp [parS, hpar]
  have hp : (parS s).data.toList = wire ls := by
    rw [hS, extract_list, ← ba_len, List.take_length, hn]
    simpa using hr
  have hps : (parS s).size = (wire ls).length := by rw [← ba_len, hp]
  have hsz := h.size
  refine ⟨hm, h0, ⟨fun l' hl' => h.ok l' (List.mem_cons_of_mem _ hl'), fun l' hl' => h.low l' (List.mem_cons_of_mem _ hl'), hp, by omega⟩, by omega, ?_, by omega⟩
  rw [extract_list, List.drop_zero, h.eq, wire_cons, hps, hlen, show l.length + 1 + (wire ls).length - (wire ls).length = (enc1 l).length by rw [enc1_len]; omega, List.take_left']
  rfl
theorem ptr_bytes (a : Nat) (h : a < 16384) : (Oc.bstr (49152 + (a : Int)) 2).data.toList = ptr a := by
  show Oc.bytesOf (49152 + (a : Int)) 2 = ptr a
  unfold Oc.bytesOf Oc.byteAt ptr
  simp only [List.range, List.range.loop, List.map_cons, List.map_nil, Nat.reduceMul, Nat.reduceSub, Int.reducePow, Int.pow_zero, Int.ediv_one, Nat.mul_zero]
  have e1 : ((49152 + (a : Int)) / 256).toNat = 192 + a / 256 := by omega
  have e2 : (49152 + (a : Int)).toNat = 49152 + a := by omega
  rw [e1, e2]
  have e3 : UInt8.ofNat (49152 + a) = UInt8.ofNat (a % 256) := by
    apply UInt8.toNat_inj.1
    rw [UInt8.toNat_ofNat', UInt8.toNat_ofNat']
    omega
  rw [e3]

/-- 'at, ok := p.known[rest]'. -/
theorem isM_look {B : Nat} {mv : Value} {L : Kn} {w : World} (h : IsM B mv L w) (n : ByteArray) (hn : n.size ≤ maxLen) :
    ∃ c : Int, (Instr.lookup 75 mv (.string n) true).run Tryd.prog w = .ok (.tuple #[.int .i64 c, .bool (fnd L n.data.toList).isSome]) w ∧ ∀ a, fnd L n.data.toList = some a → c = (a : Nat) := by
  rcases h with ⟨rfl, rfl⟩ | ⟨b, m, D, rfl, hB, hown, hm, hk⟩
  · exact ⟨0, look_nil (w := w) true law9 Tryd.underlying75 (zero3 _) (key_str n hn), fun a ha => by cases ha⟩
  · have hw0 : (Lit.int .i64 0).wf = true := by decide
    obtain ⟨v, ps, hrun, hv⟩ := hown.look_ok law9 Tryd.underlying75 (zero3 w) (plainElem_int Tryd.underlying3 hw0) (key_str n hn)
    obtain ⟨c, rfl, hc, hwc⟩ := plainElem_int_inv Tryd.underlying3 hv
    rw [(hk n.data.toList).1] at hrun
    refine ⟨c, hrun, fun a ha => ?_⟩
    have h1 := (hk n.data.toList).2 a ha
    have h2 := congrArg Prod.fst hc
    simp only at h2
    rw [h1] at h2
    cases h2
    rfl

theorem or_ptr (a : Nat) (h : a < 16384) : bits .or .u16 49152 (a : Int) = 49152 + (a : Int) :=
  bits_join .u16 16 (by decide) (fun n h0 h1 => IntWalk.u16_in n (by omega)) 14 49152 (a : Int) (by decide) (by decide) (by decide) (by omega) (by omega) (by omega)
theorem slice_to (s : ByteArray) (n : Nat) (h : n ≤ s.size) (w : World) :
    (Instr.slice 9 (.string s) none (some (.int .i64 (n : Int))) none).run Tryd.prog w = .ok (.string (s.extract 0 n)) w := by
  have := run_slice_string_h (P := Tryd.prog) (w := w) (t := 9) (s := s) Tryd.underlying9 .i64 (n : Int) (by omega) (by omega)
  simpa using this

def strLen : Value → Nat
  | .string s => s.size
  | _ => 0

set_option maxRecDepth 100000 in
set_option maxHeartbeats 1000000 in
theorem name_yes (B b : Nat) (S : List UInt8) (L : Kn) (n : ByteArray) (w : World) (h : IsP B b S L w) (hK : KnOk S L) (hB : B ≤ w.heap.size) (hS : S.length ≤ 1099511627776) (hm : mayB n = true) :
    Calls Tryd.prog 44 #[.pointer (some ⟨b, 0, none⟩), .string n] w fun e w' => e = .returned (.int .i64 0) ∧ IsP B b (put S L (labs n)).1 (put S L (labs n)).2 w' ∧ Below B w w' ∧ Kp w w' := by
  have hN := may_name hm
  have hns := hN.size
  have HN := Lib.hid hN
  clear hN
  go_enter Tryd.func44, Tryd.ntmps44
  go_wp2_with fail
  refine (may_any n (by omega) _).mono ?_; rintro e w0 ⟨rfl, hb0⟩
  rw [hm]
  clear hm
  go_wp2_with fail
  go_loopw [5] (fun r wr => ∃ (rest : ByteArray) (ls : List (List UInt8)) (S' : List UInt8) (L' : Kn), r = .string rest ∧ NameIs rest ls ∧ put S' L' ls = put S L (labs n) ∧ S'.length + rest.size ≤ S.length + n.size ∧ KnOk S' L' ∧ IsP B b S' L' wr ∧ Below B w wr ∧ Kp w wr) (fun r _ => strLen r)
  case atStart => exact ⟨n, labs n, S, L, rfl, HN.out, rfl, Nat.le_refl _, hK, h.below hb0, hb0.mono hB, Kp.below hb0⟩
  case round =>
    obtain ⟨rest, ls, S', L', rfl, hN, hput, hsz, hK', hP, hbel, hkp⟩ := hrel
    have hwB : B ≤ wr.heap.size := Nat.le_trans hB hbel.size
    have HPut := Lib.hid hput
    have HKp := Lib.hid hkp
    have HK' := Lib.hid hK'
    clear hput hkp hK'
    cases ls with
    | nil =>
      have b0 : (rest.toList == [0]) = true := by rw [ByteArray.toList_eq, hN.eq]; rfl
      clear hN
      go_wp2_with fail
      refine (add_any B b S' L' ⟨#[0]⟩ _ hP (by show _ + 1 ≤ _; omega) hwB).mono ?_
      rintro e w1 ⟨rfl, hP1, hb1, hk1⟩
      go_wp2_with fail
      go_ret
      refine ⟨rfl, ?_, hbel.trans hb1, HKp.out.trans hk1⟩
      rw [← HPut.out, put_nil]
      exact hP1
    | cons l ls =>
      obtain ⟨hmr, b0, hNp, hps, hext, hlt⟩ := name_tail hN
      have hrs := hN.size
      have hreq := hN.eq
      have hokl := hN.ok l (by simp)
      obtain ⟨hBb, v, mv, hb, hrow, hM⟩ := hP
      have hP' : IsP B b S' L' wr := ⟨hBb, v, mv, hb, hrow, hM⟩
      have c1 : wr.cell? ⟨b, 1, none⟩ = some mv := blk_cell hb 1
      obtain ⟨c, hlook, hc⟩ := isM_look hM rest (by unfold maxLen; omega)
      rw [hreq] at hlook hc
      cases hf : fnd L' (wire (l :: ls)) with
      | some a =>
        have ha : a < 16384 := HK'.out.1 _ (fnd_mem hf)
        obtain rfl : c = (a : Nat) := hc a hf
        rw [hf] at hlook
        have HF := Lib.hid hf
        clear hf hc hN hNp hext hmr hreq hb hrow hM
        go_wp2_with fail
        rw [or_ptr a ha]
        refine (Oc.Put16b (49152 + (a : Int)) _ (by omega) (by omega)).mono ?_
        rintro e w1 ⟨rfl, hb1⟩
        clear hlook c1
        have hpb := ptr_bytes a ha
        have HPB := Lib.hid hpb
        clear hpb
        go_wp2_with fail
        refine (add_any B b S' L' _ _ (hP'.below hb1) (by rw [Oc.bstr_size]; omega) (Nat.le_trans hwB hb1.size)).mono ?_
        rintro e w2 ⟨rfl, hP2, hb2, hk2⟩
        go_wp2_with fail
        go_ret
        refine ⟨rfl, ?_, (hbel.trans (hb1.mono hwB)).trans hb2, (HKp.out.trans (Kp.below hb1)).trans hk2⟩
        rw [← HPut.out, put_hit HF.out, ← HPB.out]
        exact hP2
      | none =>
        rw [hf] at hlook
        have hno : fnd L' rest.data.toList = none := by rw [hreq]; exact hf
        have HF := Lib.hid hf
        have HNo := Lib.hid hno
        have HEx := Lib.hid hext
        have HReq := Lib.hid hreq
        have HNp := Lib.hid hNp
        clear hf hno hc hN hNp hext hmr hreq hb hrow hM
        go_wp2_with fail
        clear hlook c1
        refine (learn_any B b S' L' rest _ hP' hwB (by have := HK'.out.2; unfold maxLen; omega) (by unfold maxLen; omega) (by omega) HNo.out).mono ?_
        rintro e w1 ⟨rfl, hP1, hb1, hk1⟩
        go_wp2_with fail
        refine (parent_any rest (by omega) _).mono ?_
        rintro e w2 ⟨rfl, hb2⟩
        have hsl := slice_to rest (rest.size - (parS rest).size) (by omega)
        rw [show ((rest.size - (parS rest).size : Nat) : Int) = (rest.size : Int) - ((parS rest).size : Int) by omega] at hsl
        have hw1 : B ≤ w1.heap.size := Nat.le_trans hwB hb1.size
        have hel : (rest.extract 0 (rest.size - (parS rest).size)).size = l.length + 1 := by rw [← ba_len, HEx.out, enc1_len]
        have hrl : rest.size = l.length + 1 + (wire ls).length := by rw [← ba_len, HReq.out, wire_len_cons]
        have hpl : (parS rest).size = (wire ls).length := by rw [← ba_len, HNp.out.eq]
        have HEl := Lib.hid hel
        have HRl := Lib.hid hrl
        have HPl := Lib.hid hpl
        clear hel hrl hpl
        go_wp2_with fail
        clear hsl
        refine (add_any B b S' _ _ _ (hP1.below hb2) (by rw [HEl.out]; have := HRl.out; omega) (Nat.le_trans hw1 hb2.size)).mono ?_
        rintro e w3 ⟨rfl, hP3, hb3, hk3⟩
        go_wp2_with fail
        go_roundw
        case rel =>
          refine ⟨parS rest, ls, S' ++ enc1 l, lrn S' L' (wire (l :: ls)), rfl, HNp.out, ?_, ?_, knOk_lrn HK'.out _ l, ?_, ((hbel.trans hb1).trans (hb2.mono hw1)).trans hb3, ((HKp.out.trans hk1).trans (Kp.below hb2)).trans hk3⟩
          · rw [← HPut.out, put_miss HF.out]
          · have h1 := HRl.out
            have h2 := HPl.out
            rw [List.length_append, enc1_len]
            omega
          · rw [HEx.out, HReq.out] at hP3
            exact hP3
        case measure => simp [strLen]; omega

theorem name_no (b : Nat) (n : ByteArray) (w : World) (hn : n.size ≤ 140737488355328) (hm : mayB n = false) :
    Calls Tryd.prog 44 #[.pointer (some ⟨b, 0, none⟩), .string n] w fun e w' => e = .returned (.int .i64 1) ∧ Below w.heap.size w w' := by
  go_enter Tryd.func44, Tryd.ntmps44
  go_wp2_with fail
  refine (may_any n hn _).mono ?_; rintro e w0 ⟨rfl, hb0⟩
  rw [hm]
  clear hm
  go_wp2_with fail
  go_ret
  exact ⟨rfl, hb0⟩
theorem name_nil (n : ByteArray) (w : World) :
    Calls Tryd.prog 44 #[.pointer none, .string n] w fun e w' => e = .returned (.int .i64 1) ∧ w = w' := by
  go_enter Tryd.func44, Tryd.ntmps44
  go_wp2_with fail
  go_ret
  exact ⟨rfl, rfl⟩
end Go.Proofs.YtlphbeaaeeohjaaDoor
