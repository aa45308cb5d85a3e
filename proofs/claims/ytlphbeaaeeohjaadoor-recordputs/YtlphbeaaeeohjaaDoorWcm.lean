/- The contracts of (*wire.Pack).Mark and Close. -/
import Derived.Test.YtlphbeaaeeohjaaDoorWst
import Derived.Laws.CopyRow
import Derived.RegionTactic
import Derived.Deep.RegionLaw
namespace Go.Proofs.YtlphbeaaeeohjaaDoor
open Go.RowKit
set_option linter.unusedVariables false

theorem zero2 : (Oc.bstr 0 2).data.toList = [0, 0] := by decide
theorem mark_any (B b : Nat) (S : List UInt8) (L : Kn) (w : World) (h : St B b S L w) (hB : B ≤ w.heap.size) (hS : S.length ≤ 1099511627776) :
    Calls Tryd.prog 51 #[.pointer (some ⟨b, 0, none⟩)] w fun e w' => e = .returned (.int .i64 (S.length + 2 : Nat)) ∧ St B b (S ++ [0, 0]) L w' ∧ Below B w w' ∧ Kp w w' := by
  go_enter Tryd.func51, Tryd.ntmps51
  go_wp2_with fail
  refine (Oc.Put16b 0 _ (by decide) (by decide)).mono ?_; rintro e w1 ⟨rfl, hb1⟩
  go_wp2_with fail
  refine (add_step B b S L _ _ (h.below hb1) (by rw [Oc.bstr_size]; omega) (Nat.le_trans hB hb1.size)).mono ?_; rintro e w2 ⟨rfl, h2, hb2, hk2⟩
  rw [zero2] at h2
  go_wp2_with fail
  refine (len_any _ _ _ _ _ h2.is).mono ?_; rintro e w3 ⟨rfl, rfl⟩
  go_wp2_with fail
  go_ret
  refine ⟨?_, h2, (hb1.mono hB).trans hb2, (Kp.below hb1).trans hk2⟩
  simp

theorem copy_str (w : World) (ty : TypeId) (g o dCap : Nat) (cur : Array Value) (s : ByteArray) (hg : w.heap[g]? = some (.cells cur 5 (0, 0))) (hfit : o + s.size ≤ cur.size) :
    (Builtin.copy_ #[74, 9] ty #[.slice (some ⟨g, o, none⟩) s.size dCap, .string s]).run Tryd.prog w =
      .ok (goInt s.size) (w.setRow g (cur.toList.take o ++ Lib.strCells s ++ cur.toList.drop (o + s.size)).toArray) := by
  obtain ⟨i0, hi, hz0, hz1, hz2⟩ := info_parts info5
  have hf := Lib.run_firstCells_string (P := Tryd.prog) w 1 s
  have hst := run_storeCells_at Tryd.prog g o 5 (Lib.strCells s) 0 cur w hg (by simpa [Lib.strCells_length] using hfit) (Lib.strCells_oneCell s)
  simp only [Nat.add_zero, Lib.strCells_length] at hst
  simp [Builtin.copy_, run_underlying Tryd.underlying74, Builtin.lenOf, sizeOf, typeInfo, hi, hz1, hf, hst]

theorem step_copy_str {ops : Array Oper} {o : Oper} {a : Act} {w : World} {K : Act → World → Prop} {Q : Exit → Act → World → Prop} {E : Prop} (hgd : o.guard = none) (d s : Operand)
    (ho : o.op = .call { callee := .builtin .copy, args := #[d, s], argTypes := #[74, 9] }) (g off k dCap : Nat) (x : ByteArray) (hk : k = x.size) (hd : a.eval d = .slice (some ⟨g, off, none⟩) k dCap) (hs : a.eval s = .string x)
    (cur : Array Value) (hg : w.heap[g]? = some (.cells cur 5 (0, 0))) (hfit : off + x.size ≤ cur.size)
    (h : K (a.put o.dst (goInt x.size)) (w.setRow g (cur.toList.take off ++ Lib.strCells x ++ cur.toList.drop (off + x.size)).toArray)) :
    if Region.wanted o (yielded ops a.tmps) = true then Oper.wp Tryd.prog o a w K Q else E := by
  have hw : Region.wanted o (yielded ops a.tmps) = true := by simp [Region.wanted, hgd]
  rw [if_pos hw]
  subst hk
  have hrun := copy_str w o.type g off dCap cur x hg hfit
  unfold Oper.wp
  simp only [execOp, ho, resolve, invoke, builtin, Sem.run_bind, Sem.run_pure, Result.andThen_ok, List.map_toArray, List.map_cons, List.map_nil, hd, hs, hrun]
  exact h

/-- What Close makes of the bytes, the two from an offset on. -/
def clo (S : List UInt8) (m : Nat) : List UInt8 := S.take m ++ ((Oc.bstr (((S.length - (m + 2)) % 65536 : Nat) : Int) 2).data.toList ++ S.drop (m + 2))
theorem clo_len {S : List UInt8} {m : Nat} (h : m + 2 ≤ S.length) : (clo S m).length = S.length := by
  unfold clo
  rw [List.length_append, List.length_append, ba_len, Oc.bstr_size, List.length_take, List.length_drop]
  omega
theorem cells_of_set {w : World} {g : Nat} {cur : Array Value} {t : TypeId} (hg : w.heap[g]? = some (.cells cur t (0, 0))) (cs : Array Value) : w.grownBy (w.setRow g cs) (some g) :=
  ⟨rfl, rfl, rfl, by simp [World.setRow], fun k _ hk => setRow_other w g k cs (fun e => hk (by rw [e]))⟩

set_option maxRecDepth 100000 in
set_option maxHeartbeats 1000000 in
theorem close_yes (B b : Nat) (S : List UInt8) (L : Kn) (m : Nat) (w : World) (h : IsP B b S L w) (hB : B ≤ w.heap.size) (hS : S.length ≤ 1099511627776) (ha : m + 2 ≤ S.length) :
    Calls Tryd.prog 53 #[.pointer (some ⟨b, 0, none⟩), .int .i64 ((m : Int) + 2)] w fun e w' => e = .returned (.int .i64 0) ∧ IsP B b (clo S m) L w' ∧ Below B w w' ∧ Kp w w' := by
  obtain ⟨hBb, v, mv, hb, hrow, hm⟩ := h
  have hrow' := hrow
  rcases hrow.2 with ⟨_, h0⟩ | ⟨g, cap, cur, rfl, hBg, hg, hnc, hcm, hcs, htake⟩
  · omega
  have c0 : w.cell? ⟨b, 0, none⟩ = some (.slice (some ⟨g, 0, none⟩) S.length cap) := blk_cell hb 0
  obtain ⟨n, hn⟩ : ∃ n : Nat, (S.length - (m + 2)) % 65536 = n := ⟨_, rfl⟩
  have hn2 : n < 65536 := by omega
  have b1 : decide ((m : Int) + 2 < 2) = false := by simp; omega
  have b2 : decide ((S.length : Int) < (m : Int) + 2) = false := by simp; omega
  have hwr : IntKind.u16.wrap ((S.length : Int) - ((m : Int) + 2)) = (n : Int) := by
    show ((S.length : Int) - ((m : Int) + 2)) % 65536 = (n : Int)
    omega
  have hcap : m + 2 ≤ cap := by omega
  have hne : ¬ cap = m := by omega
  have k1 : (0 : Int) ≤ (m : Int) + 2 := by omega
  have k2 : (m : Int) + 2 ≤ (cap : Int) := by omega
  have k3 : ((m : Int) + 2).toNat = m + 2 := by omega
  have k5 : IntKind.i64.wrap ((S.length : Int) - ((m : Int) + 2)) = (S.length : Int) - ((m : Int) + 2) := IntWalk.i64_in _ (by omega)
  have k4 : IntKind.i64.wrap (m : Int) = m := IntWalk.i64_in _ (by omega)
  have hkeep : ∀ w2, Below w.heap.size w.drew w2 → w2.cell? ⟨b, 0, none⟩ = some (.slice (some ⟨g, 0, none⟩) S.length cap) ∧ (w2.heap[g]? = some (.cells cur 5 (0, 0))) ∧ IsP B b (clo S m) L (w2.setRow g (cur.toList.take m ++ Lib.strCells (Oc.bstr (n : Int) 2) ++ cur.toList.drop (m + 2)).toArray) ∧ Below B w (w2.setRow g (cur.toList.take m ++ Lib.strCells (Oc.bstr (n : Int) 2) ++ cur.toList.drop (m + 2)).toArray)  ∧ Kp w (w2.setRow g (cur.toList.take m ++ Lib.strCells (Oc.bstr (n : Int) 2) ++ cur.toList.drop (m + 2)).toArray) := by
    intro w2 hb2
    have hbw : Below w.heap.size w w2 := ⟨hb2.os, hb2.tape, hb2.output, hb2.size, hb2.block⟩
    have hb' : w2.heap[b]? = some (.cells #[.slice (some ⟨g, 0, none⟩) S.length cap, mv] 77 (0, 0)) := (hbw.block b (heap_lt hb)).trans hb
    have hg' : w2.heap[g]? = some (.cells cur 5 (0, 0)) := (hbw.block g (heap_lt hg)).trans hg
    have hcs' : cur.size = cap := by simpa using hcs
    have hz := Oc.bstr_size (n : Int) 2
    have hgr := cells_of_set hg' (cur.toList.take m ++ Lib.strCells (Oc.bstr (n : Int) 2) ++ cur.toList.drop (m + 2)).toArray
    refine ⟨blk_cell hb' 0, hg', ⟨hBb, .slice (some ⟨g, 0, none⟩) S.length cap, mv, ?_, ?_, ?_⟩, ?_, ?_⟩
    · refine (hgr.block b (heap_lt hb') (fun e => ?_)).trans hb'
      cases e
      rw [hb'] at hg'
      cases hg'
    · rw [clo_len ha]
      refine ⟨by rw [Lib.byteCells_length, clo_len ha]; omega, .inr ⟨g, cap, _, rfl, hBg, setRow_heap w2 g cur _ 5 _ hg', hnc, hcm, ?_, ?_⟩⟩
      · simp only [List.size_toArray, List.length_append, List.length_take, List.length_drop, Array.length_toList, Lib.strCells_length]
        omega
      · have ht' : cur.toList.take S.length = Lib.byteCells S := by simpa using htake
        have hsplit : cur.toList = Lib.byteCells S ++ cur.toList.drop S.length := by rw [← ht', List.take_append_drop]
        have e1 : cur.toList.take m = (Lib.byteCells S).take m := by rw [← ht', List.take_take]; congr 1; omega
        have e2 : (cur.toList.drop (m + 2)).take (S.length - (m + 2)) = (Lib.byteCells S).drop (m + 2) := by rw [← ht', List.drop_take]
        rw [Nat.mul_one]
        unfold clo
        rw [hn, Lib.byteCells_append, Lib.byteCells_append, Lib.strCells_eq]
        have l1 : (cur.toList.take m).length = m := by rw [List.length_take, Array.length_toList]; omega
        have l2 : (Lib.byteCells (Oc.bstr (n : Int) 2).data.toList).length = 2 := by rw [Lib.byteCells_length, ba_len, hz]
        have e3 : (Lib.byteCells S).take m = Lib.byteCells (S.take m) := by simp [Lib.byteCells]
        have e4 : (Lib.byteCells S).drop (m + 2) = Lib.byteCells (S.drop (m + 2)) := by simp [Lib.byteCells]
        rw [e3] at e1
        rw [e4] at e2
        generalize cur.toList.take m = P1 at *
        generalize cur.toList.drop (m + 2) = R at *
        generalize Lib.byteCells (Oc.bstr (n : Int) 2).data.toList = Q at *
        rw [List.append_assoc, List.take_append, List.take_of_length_le (show P1.length ≤ S.length by omega), List.take_append, List.take_of_length_le (show Q.length ≤ S.length - P1.length by omega), l1, l2, show S.length - m - 2 = S.length - (m + 2) by omega, e2, e1]
    · exact (hm.below hbw).kept hgr (fun k e => by cases e; exact ⟨cur, 5, (0, 0), hg'⟩)
    · exact ((hbw.mono hB).grown hgr (Nat.le_trans hB hbw.size) (fun k e => by cases e; exact hBg))
    · exact (Kp.below hbw).trans (Kp.grown hgr (fun k e => by cases e; exact .inl ⟨cur, _, hg'⟩))
  have HKeep := Lib.hid hkeep
  have hcz : m + 2 ≤ cur.size := by have : cur.size = cap := by simpa using hcs
                                    omega
  clear hcm hnc hcs hkeep hn hrow hrow' hg hb htake hm
  go_enter Tryd.func53, Tryd.ntmps53
  go_wp2_with fail
  go_region_law (first | (refine step_copy_str rfl (.tmp 27) (.tmp 36) rfl g m 2 (cap - m) (Oc.bstr (n : Int) 2) (by rw [Oc.bstr_size]) rfl rfl cur HG.out (by rw [Oc.bstr_size]; omega) ?_) | (go_simp; go_at_call 46; refine (Oc.Put16b (n : Int) _ (by omega) (by omega)).mono ?_; rintro e w2 ⟨rfl, hb2⟩; have hc2 := (HKeep.out w2 hb2).1; have HG := Lib.hid (HKeep.out w2 hb2).2.1; have HD := Lib.hid (HKeep.out w2 hb2).2.2))
  all_goals
    go_wp2_with fail
    go_ret
    have h1 := HD.out
    rw [List.append_assoc] at h1
    rw [Oc.bstr_size]
    exact ⟨rfl, h1.1, h1.2⟩
theorem close_no (B b : Nat) (S : List UInt8) (L : Kn) (a : Int) (w : World) (h : IsP B b S L w) (hS : S.length ≤ 1099511627776) (ha : a < 2 ∨ S.length < a) :
    Calls Tryd.prog 53 #[.pointer (some ⟨b, 0, none⟩), .int .i64 a] w fun e w' => e = .returned (.int .i64 1) ∧ w = w' := by
  obtain ⟨hBb, v, mv, hb, hrow, hm⟩ := h
  obtain ⟨A, cap, rfl⟩ := own_form hrow
  have c0 : w.cell? ⟨b, 0, none⟩ = some (.slice A S.length cap) := blk_cell hb 0
  by_cases h2 : a < 2
  · have b1 : decide (a < 2) = true := by simp; omega
    clear ha
    go_enter Tryd.func53, Tryd.ntmps53
    go_wp2_with fail
    go_ret
    exact ⟨rfl, rfl⟩
  · have b1 : decide (a < 2) = false := by simp; omega
    have b2 : (S.length : Int) < a := by omega
    clear ha h2
    go_enter Tryd.func53, Tryd.ntmps53
    go_wp2_with fail
    go_ret
    exact ⟨rfl, rfl⟩
theorem clo_zero : clo [0, 0] 0 = [0, 0] := by decide
theorem len2 (n : Nat) (h : n ≤ 255) : (Oc.bstr (n : Int) 2).data.toList = [0, UInt8.ofNat n] := by
  show Oc.bytesOf (n : Int) 2 = _
  unfold Oc.bytesOf Oc.byteAt
  simp only [List.range, List.range.loop, List.map_cons, List.map_nil, Nat.reduceMul, Nat.reduceSub, Int.reducePow, Int.pow_zero, Int.ediv_one, Nat.mul_zero]
  have e1 : ((n : Int) / 256).toNat = 0 := by omega
  have e2 : (n : Int).toNat = n := by omega
  rw [e1, e2]
  rfl
theorem clo_named (A N : List UInt8) (h : N.length ≤ 255) : clo (A ++ [0, 0] ++ N) A.length = A ++ [0, UInt8.ofNat N.length] ++ N := by
  unfold clo
  have e1 : (A ++ [0, 0] ++ N).length - (A.length + 2) = N.length := by simp; omega
  rw [e1, Nat.mod_eq_of_lt (by omega), len2 N.length h, List.append_assoc A, List.take_left' rfl, ← List.append_assoc A [0, 0], List.drop_left' (by simp), List.append_assoc]
end Go.Proofs.YtlphbeaaeeohjaaDoor
