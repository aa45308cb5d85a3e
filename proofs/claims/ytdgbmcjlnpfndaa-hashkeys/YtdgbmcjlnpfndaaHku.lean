/- The walk of derricklaw09.HashKeys, all cases. -/
import Derived.Test.YtdgbmcjlnpfndaaHkt
namespace Go.Proofs.Ytdgbmcjlnpfndaa
open Go.RowKit
set_option linter.unusedVariables false

theorem bstr_inj {a b : Nat} (ha : a < 65536) (hb : b < 65536) (h : Oc.bstr (a : Nat) 2 = Oc.bstr (b : Nat) 2) : a = b := by
  have h1 := Oc.bnum_two (a : Nat) (by omega) (by omega)
  have h2 := Oc.bnum_two (b : Nat) (by omega) (by omega)
  rw [h] at h1
  have : ((a : Nat) : Int) = (b : Nat) := h1.symm.trans h2
  omega
theorem ba_eq {a b : ByteArray} (h : a.data.toList = b.data.toList) : a = b := by
  obtain ⟨x⟩ := a
  obtain ⟨y⟩ := b
  exact congrArg ByteArray.mk (Array.toList_inj.1 h)
theorem keyB_inj {a b : Rc} (ha : a.Ok) (hb : b.Ok) (hn : a.n.size = b.n.size) (h : keyB a = keyB b) : a.n = b.n ∧ a.k = b.k ∧ a.c = b.c := by
  have h0 : (keyB a).data.toList = (keyB b).data.toList := by rw [h]
  unfold keyB at h0
  simp only [ByteArray.data_append, Array.toList_append] at h0
  have z : ∀ n : Int, (Oc.bstr n 2).data.toList.length = 2 := fun n => by simp [Oc.bstr, Oc.bytesOf_length]
  have hn' : a.n.data.toList.length = b.n.data.toList.length := by simpa using hn
  obtain ⟨h1, h2⟩ := List.append_inj h0 (by rw [List.length_append, List.length_append, z, z, hn'])
  obtain ⟨h3, h4⟩ := List.append_inj h1 hn'
  exact ⟨ba_eq h3, bstr_inj ha.k hb.k (ba_eq h4), bstr_inj ha.c hb.c (ba_eq h2)⟩
theorem toList_ne {a b : ByteArray} (h : ¬ a = b) : (a.toList == b.toList) = false := by
  rw [ByteArray.toList_eq, ByteArray.toList_eq]
  exact beq_eq_false_iff_ne.2 fun e => h (ba_eq e)

set_option maxRecDepth 100000 in
set_option maxHeartbeats 1000000 in
theorem keys_long1 (a b : Rc) (h : 300 < a.n.size) (w : World) : Calls Try.prog 5 #[qV a, qV b] w fun e w' => e = .returned (.bool true) ∧ Below w.heap.size w w' := by
  have HS := Lib.hid (fun w => shown_any w)
  obtain ⟨n, k, c, t, d⟩ := a
  obtain ⟨n', k', c', t', d'⟩ := b
  unfold qV
  simp only at *
  have HX := Lib.hid (Kc.start w n n' k c k' c')
  obtain ⟨W, hW⟩ : ∃ W, W = ((w.alloc (Obj.cells #[.string n, .int .u16 (k : Nat), .int .u16 (c : Nat)] 24)).alloc (Obj.cells #[.string n', .int .u16 (k' : Nat), .int .u16 (c' : Nat)] 24)) := ⟨_, rfl⟩
  rw [← hW] at HX
  have HH := Lib.hid hW
  have c0 := HX.out.all
  have d1 : decide ((n.size : Int) > 300) = true := by simp; omega
  clear hW h
  go_enter Try.func5, Try.ntmps5
  go_upto_region 1 with (fail)
  rw [← HH.out]
  clear HH
  go_wp2_with (go_at_call 8; with_reducible (refine (HS.out _).mono ?_); rintro e w1 ⟨rfl, rfl⟩)
  go_ret
  exact ⟨rfl, HX.out.bel⟩
set_option maxRecDepth 100000 in
set_option maxHeartbeats 1000000 in
theorem keys_long2 (a b : Rc) (h1 : ¬ 300 < a.n.size) (h : 300 < b.n.size) (w : World) : Calls Try.prog 5 #[qV a, qV b] w fun e w' => e = .returned (.bool true) ∧ Below w.heap.size w w' := by
  have HS := Lib.hid (fun w => shown_any w)
  obtain ⟨n, k, c, t, d⟩ := a
  obtain ⟨n', k', c', t', d'⟩ := b
  unfold qV
  simp only at *
  have HX := Lib.hid (Kc.start w n n' k c k' c')
  obtain ⟨W, hW⟩ : ∃ W, W = ((w.alloc (Obj.cells #[.string n, .int .u16 (k : Nat), .int .u16 (c : Nat)] 24)).alloc (Obj.cells #[.string n', .int .u16 (k' : Nat), .int .u16 (c' : Nat)] 24)) := ⟨_, rfl⟩
  rw [← hW] at HX
  have HH := Lib.hid hW
  have c0 := HX.out.all
  have d1 : decide ((n.size : Int) > 300) = false := by simp; omega
  have d2 : decide ((n'.size : Int) > 300) = true := by simp; omega
  clear hW h h1
  go_enter Try.func5, Try.ntmps5
  go_upto_region 1 with (fail)
  rw [← HH.out]
  clear HH
  go_wp2_with (go_at_call 8; with_reducible (refine (HS.out _).mono ?_); rintro e w1 ⟨rfl, rfl⟩)
  go_ret
  exact ⟨rfl, HX.out.bel⟩

theorem keys_walk (a b : Rc) (ha : a.Ok) (hb : b.Ok) (W : World) : Calls Try.prog 5 #[qV a, qV b] W fun e w' => e = .returned (.bool true) ∧ Below W.heap.size W w' := by
  by_cases h1 : 300 < a.n.size
  · exact keys_long1 a b h1 W
  by_cases h2 : 300 < b.n.size
  · exact keys_long2 a b h1 h2 W
  have HA := Lib.hid (fun w => key_any a ha (by omega) w)
  have HB := Lib.hid (fun w => key_any b hb (by omega) w)
  have za := keyB_size a
  have zb := keyB_size b
  by_cases hn : a.n.size = b.n.size
  · have hinj := keyB_inj ha hb hn
    by_cases e : keyB a = keyB b
    · obtain ⟨e1, e2, e3⟩ := hinj e
      obtain ⟨n, k, c, t, d⟩ := a
      obtain ⟨n', k', c', t', d'⟩ := b
      simp only at e1 e2 e3
      subst e1 e2 e3
      exact keys_same n _ k c HA (n.size : Nat) (by omega) (by simp only at h1; omega) rfl (by rw [za]; rfl) W
    · have hK := toList_ne e
      have hcase : ¬ (a.n = b.n ∧ a.k = b.k ∧ a.c = b.c) := fun ⟨e1, e2, e3⟩ => e (by unfold keyB; rw [e1, e2, e3])
      obtain ⟨n, k, c, t, d⟩ := a
      obtain ⟨n', k', c', t', d'⟩ := b
      simp only at h1 h2 hn hcase za zb
      by_cases c1 : n = n'
      · subst c1
        by_cases c2 : k = k'
        · subst c2
          have c3 : ¬ c = c' := fun h => hcase ⟨rfl, rfl, h⟩
          exact keys_c n _ _ k c c' HA HB (n.size : Nat) (by omega) (by omega) rfl (by rw [za]; rfl) hK (by simp; omega) W
        · exact keys_k n _ _ k c k' c' HA HB (n.size : Nat) (by omega) (by omega) rfl (by rw [za]; rfl) hK (by simp; omega) W
      · exact keys_n n n' _ _ k c k' c' HA HB (n.size : Nat) (by omega) (by omega) rfl (by rw [za]; rfl) (by omega) hK (toList_ne c1) W
  · have e : ¬ keyB a = keyB b := fun h => hn (by rw [h] at za; omega)
    have hK := toList_ne e
    obtain ⟨n, k, c, t, d⟩ := a
    obtain ⟨n', k', c', t', d'⟩ := b
    simp only at h1 h2 hn za zb
    exact keys_len n n' _ _ k c k' c' HA HB (n.size : Nat) (by omega) (by omega) rfl (by rw [za]; rfl) (n'.size : Nat) (by omega) rfl hK (by omega) W
end Go.Proofs.Ytdgbmcjlnpfndaa
