/- Plain mathematics of questions and records: how they are put into a pack, how they are taken, that what was put is taken, that a part of it can't be taken. -/
import Derived.Test.YtlphbeaaeeohjaaDoorRca
import Derived.Test.YtlphbeaaeeohjaaDoorOce
namespace Go.Proofs.YtlphbeaaeeohjaaDoor
open Go

/-- A record, in its parts. -/
structure Rc where
  n : ByteArray
  k : Nat
  c : Nat
  t : Nat
  d : ByteArray
/-- Its numbers are such of sixteen and of thirty-two bits. -/
structure Rc.Ok (r : Rc) : Prop where
  k : r.k < 65536
  c : r.c < 65536
  t : r.t < 4294967296
def Rc.zero : Rc := ⟨⟨#[]⟩, 0, 0, 0, ⟨#[]⟩⟩
/-- Its question, as a record without more. -/
def Rc.ask (r : Rc) : Rc := ⟨r.n, r.k, r.c, 0, ⟨#[]⟩⟩
theorem Rc.zero_ok : Rc.zero.Ok := ⟨by decide, by decide, by decide⟩
def mayR (r : Rc) : Bool := mayB r.n && mayD r.k r.d
def putQ (S : List UInt8) (L : Kn) (r : Rc) : List UInt8 × Kn := ((put S L (labs r.n)).1 ++ (b16 r.k ++ b16 r.c), (put S L (labs r.n)).2)
def hdR (S : List UInt8) (L : Kn) (r : Rc) : List UInt8 := (putQ S L r).1 ++ b32 r.t
def dtR (S : List UInt8) (L : Kn) (r : Rc) : List UInt8 × Kn := putD (hdR S L r ++ [0, 0]) (putQ S L r).2 r.k r.d
def putR (S : List UInt8) (L : Kn) (r : Rc) : List UInt8 × Kn := (hdR S L r ++ (b16 ((dtR S L r).1.length - ((hdR S L r).length + 2)) ++ (dtR S L r).1.drop ((hdR S L r).length + 2)), (dtR S L r).2)

theorem putQ_good {S : List UInt8} {L : Kn} (hG : Good S L) {r : Rc} (hm : mayB r.n = true) : (∃ X, (putQ S L r).1 = S ++ X ∧ X.length ≤ 259) ∧ Good (putQ S L r).1 (putQ S L r).2 := by
  have hn := may_name hm
  obtain ⟨W, g1, _, g3, g4, _⟩ := put_good hG (labs r.n) hn.ok
  have hsz := hn.size
  rw [← hn.eq, ba_len] at g3
  unfold putQ
  refine ⟨⟨W ++ (b16 r.k ++ b16 r.c), by rw [g1, List.append_assoc], ?_⟩, ?_⟩
  · rw [List.length_append, List.length_append, b16_len, b16_len]; omega
  · simp only
    rw [g1]
    exact g4.more _
/-- What a record adds: its head, the number of the data's bytes, and the data, as they would have been put behind that number. -/
theorem putR_form {S : List UInt8} {L : Kn} (hG : Good S L) {r : Rc} (hm : mayR r = true) : ∃ W L', W.length ≤ r.d.size ∧ r.d.size ≤ 65535 ∧ dtR S L r = (hdR S L r ++ [0, 0] ++ W, L') ∧ putR S L r = (hdR S L r ++ b16 W.length ++ W, L') ∧ putD (hdR S L r ++ b16 W.length) (putQ S L r).2 r.k r.d = (hdR S L r ++ b16 W.length ++ W, L') ∧ Good (putR S L r).1 (putR S L r).2 := by
  unfold mayR at hm
  rw [Bool.and_eq_true] at hm
  obtain ⟨⟨X, q1, q2⟩, q3⟩ := putQ_good hG hm.1
  have hD : r.d.size ≤ 65535 := by have := hm.2; unfold mayD at this; rw [Bool.and_eq_true, decide_eq_true_iff] at this; exact this.1
  have hgH : Good (hdR S L r ++ [0, 0]) (putQ S L r).2 := by unfold hdR; exact (q3.more _).more _
  obtain ⟨⟨W, w1, w2⟩, _⟩ := putD_good hgH hm.2
  obtain ⟨V, L', v1, v2⟩ := putD_same (S := hdR S L r ++ [0, 0]) (S' := hdR S L r ++ b16 W.length) (putQ S L r).2 r.k r.d (by simp [b16_len])
  have hWV : W = V := by
    rw [v1] at w1
    exact (List.append_cancel_left w1).symm
  subst hWV
  have hd : dtR S L r = (hdR S L r ++ [0, 0] ++ W, L') := v1
  have hp : putR S L r = (hdR S L r ++ b16 W.length ++ W, L') := by
    unfold putR
    rw [hd]
    simp only
    have e1 : (hdR S L r ++ [0, 0] ++ W).length - ((hdR S L r).length + 2) = W.length := by simp; omega
    rw [e1, List.drop_left' (by simp), List.append_assoc]
  have hgR : Good (hdR S L r ++ b16 W.length) (putQ S L r).2 := by unfold hdR; exact (q3.more _).more _
  have g2 := (putD_good hgR hm.2).2
  rw [v2] at g2
  exact ⟨W, L', w2, hD, hd, hp, v2, by rw [hp]; exact g2⟩
theorem putR_good {S : List UInt8} {L : Kn} (hG : Good S L) {r : Rc} (hm : mayR r = true) : (∃ X, (putR S L r).1 = S ++ X ∧ X.length ≤ 265 + r.d.size) ∧ Good (putR S L r).1 (putR S L r).2 := by
  obtain ⟨W, L', w1, w2, w3, w4, w5, w6⟩ := putR_form hG hm
  unfold mayR at hm
  rw [Bool.and_eq_true] at hm
  obtain ⟨⟨X, q1, q2⟩, q3⟩ := putQ_good hG hm.1
  refine ⟨⟨X ++ b32 r.t ++ b16 W.length ++ W, ?_, ?_⟩, w6⟩
  · rw [w4]
    unfold hdR
    rw [q1]
    simp
  · simp only [List.length_append, b16_len, b32_len]
    omega

/-- The question at an offset, and the offset behind. -/
def tkQ (s : ByteArray) (p : Int) : Option (Rc × Nat) := if 0 ≤ p then (nm1 s p.toNat).bind fun r => if r.2 + 4 ≤ s.size then some (⟨⟨r.1.toArray⟩, g16 s r.2, g16 s (r.2 + 2), 0, ⟨#[]⟩⟩, r.2 + 4) else none else none
/-- The record at an offset, and the offset behind. -/
def tkR (s : ByteArray) (p : Int) : Option (Rc × Nat) := (tkQ s p).bind fun q => if q.2 + 6 + g16 s (q.2 + 4) ≤ s.size then (takeD s (q.2 + 6) (g16 s (q.2 + 4)) q.1.k).map fun d => (⟨q.1.n, q.1.k, q.1.c, g32 s q.2, ⟨d.toArray⟩⟩, q.2 + 6 + g16 s (q.2 + 4)) else none

theorem tkQ_put {S : List UInt8} {L : Kn} (hG : Good S L) {r : Rc} (hr : r.Ok) (hm : mayB r.n = true) {s : ByteArray} (Y : List UInt8) (hs : s.data.toList = (putQ S L r).1 ++ Y) : tkQ s S.length = some (r.ask, (putQ S L r).1.length) := by
  have hn := may_name hm
  obtain ⟨W, g1, _, g3, g4, g5⟩ := put_good hG (labs r.n) hn.ok
  unfold putQ at hs ⊢
  simp only at hs ⊢
  rw [g1] at hs ⊢
  have h1 := nm1_name hm (g5 s (b16 r.k ++ b16 r.c ++ Y) (by rw [hs]; simp))
  have hd : s.data.toList.drop (S ++ W).length = b16 r.k ++ (b16 r.c ++ Y) := by rw [hs, List.append_assoc, List.drop_left' rfl, List.append_assoc]
  obtain ⟨e1, e2, e3⟩ := g16_at hr.k hd
  obtain ⟨e4, e5, e6⟩ := g16_at hr.c e3
  unfold tkQ
  rw [if_pos (by omega), Int.toNat_natCast, h1]
  simp only [Option.bind_some]
  rw [if_pos (by omega), e1, e4]
  have hb : (⟨r.n.data.toList.toArray⟩ : ByteArray) = r.n := by apply ba_ext; rfl
  rw [hb]
  simp [Rc.ask, b16_len]
  omega
/-- P5.4: what was put is taken. -/
theorem tkR_put {S : List UInt8} {L : Kn} (hG : Good S L) {r : Rc} (hr : r.Ok) (hm : mayR r = true) {s : ByteArray} (Y : List UInt8) (hs : s.data.toList = (putR S L r).1 ++ Y) : tkR s S.length = some (r, (putR S L r).1.length) := by
  obtain ⟨W, L', w1, w2, w3, w4, w5, w6⟩ := putR_form hG hm
  have hm0 := hm
  unfold mayR at hm
  rw [Bool.and_eq_true] at hm
  obtain ⟨⟨X, q1, q2⟩, q3⟩ := putQ_good hG hm.1
  rw [w4] at hs ⊢
  simp only at hs ⊢
  have hQ := tkQ_put hG hr hm.1 (s := s) (b32 r.t ++ b16 W.length ++ W ++ Y) (by rw [hs]; unfold hdR; simp)
  have hd : s.data.toList.drop (putQ S L r).1.length = b32 r.t ++ (b16 W.length ++ (W ++ Y)) := by
    rw [hs]; unfold hdR; simp
  obtain ⟨e1, e2, e3⟩ := g32_at hr.t hd
  obtain ⟨e4, e5, e6⟩ := g16_at (by omega) e3
  have hlen : s.size = (putQ S L r).1.length + 6 + W.length + Y.length := by rw [← ba_len, hs]; unfold hdR; simp [b32_len, b16_len]; omega
  have hH : (hdR S L r ++ b16 W.length).length = (putQ S L r).1.length + 6 := by unfold hdR; simp [b32_len, b16_len]
  have hgR : Good (hdR S L r ++ b16 W.length) (putQ S L r).2 := by unfold hdR; exact (q3.more _).more _
  have ht := takeD_put hgR hm.2 (s := s) Y (by rw [w5]; exact hs)
  rw [w5] at ht
  have hl2 : (hdR S L r ++ b16 W.length ++ W, L').1.length - (hdR S L r ++ b16 W.length).length = W.length := by simp; omega
  rw [hl2, hH] at ht
  unfold tkR
  rw [hQ]
  simp only [Option.bind_some]
  rw [e4, if_pos (by omega)]
  have ek : r.ask.k = r.k := rfl
  rw [ek, ht, e1]
  simp only [Option.map_some]
  have hb : (⟨r.d.data.toList.toArray⟩ : ByteArray) = r.d := by apply ba_ext; rfl
  rw [hb, List.length_append, hH]
  rfl

theorem g16_lt (s : ByteArray) (p : Nat) (h : p + 2 ≤ s.size) : g16 s p < 65536 := by
  have h1 : lsz s p < 256 := by rw [lsz_eq (by omega)]; exact s[p].toNat_lt
  have h2 : lsz s (p + 1) < 256 := by rw [lsz_eq (by omega)]; exact s[p + 1].toNat_lt
  unfold g16
  omega
theorem g32_lt (s : ByteArray) (p : Nat) (h : p + 4 ≤ s.size) : g32 s p < 4294967296 := by
  have h1 := g16_lt s p (by omega)
  have h2 := g16_lt s (p + 2) (by omega)
  unfold g32
  omega
theorem tkQ_is {s : ByteArray} {p : Int} {r : Rc × Nat} (h : tkQ s p = some r) : r.1.Ok ∧ mayB r.1.n = true ∧ p + 4 < r.2 ∧ r.2 ≤ s.size ∧ r.1.n.size ≤ 255 ∧ r.1 = r.1.ask := by
  unfold tkQ at h
  split at h
  · rename_i h0
    rw [Option.bind_eq_some_iff] at h
    obtain ⟨q, hq, h2⟩ := h
    split at h2
    · rename_i h4
      cases h2
      obtain ⟨a1, a2, a3, a4, a5⟩ := nm1_is hq
      exact ⟨⟨g16_lt _ _ (by omega), g16_lt _ _ (by omega), by show 0 < 4294967296; omega⟩, a1, by simp only; omega, h4, by simp only; rw [mk_size]; exact a4, rfl⟩
    · cases h2
  · cases h
theorem tkR_is {s : ByteArray} {p : Int} {r : Rc × Nat} (h : tkR s p = some r) : r.1.Ok ∧ mayR r.1 = true ∧ p < r.2 ∧ r.2 ≤ s.size := by
  unfold tkR at h
  rw [Option.bind_eq_some_iff] at h
  obtain ⟨q, hq, h2⟩ := h
  obtain ⟨a1, a2, a3, a4, a5, _⟩ := tkQ_is hq
  split at h2
  · rename_i h6
    rw [Option.map_eq_some_iff] at h2
    obtain ⟨d, hd, rfl⟩ := h2
    have hm := takeD_may h6 hd
    exact ⟨⟨a1.k, a1.c, g32_lt _ _ (by omega)⟩, by unfold mayR; simp only; rw [a2, hm]; rfl, by simp only; omega, h6⟩
  · cases h2

section
variable {s s' : ByteArray} {X : List UInt8}
theorem pre_g16 (h : s.data.toList = s'.data.toList ++ X) {p : Nat} (hp : p + 2 ≤ s'.size) : g16 s p = g16 s' p := by unfold g16; rw [pre_lsz h (by omega), pre_lsz h (by omega)]
theorem pre_g32 (h : s.data.toList = s'.data.toList ++ X) {p : Nat} (hp : p + 4 ≤ s'.size) : g32 s p = g32 s' p := by unfold g32; rw [pre_g16 h (by omega), pre_g16 h (by omega)]
theorem pre_part (h : s.data.toList = s'.data.toList ++ X) {p m : Nat} (hp : p + m ≤ s'.size) : (s.data.toList.drop p).take m = (s'.data.toList.drop p).take m := by
  rw [h, List.drop_append_of_le_length (by rw [ba_len]; omega), List.take_append_of_le_length (by rw [List.length_drop, ba_len]; omega)]
theorem takeD_pre (h : s.data.toList = s'.data.toList ++ X) {p m k : Nat} (hp : p + m ≤ s'.size) {d : List UInt8} (hd : takeD s' p m k = some d) : takeD s p m k = some d := by
  unfold takeD at hd ⊢
  by_cases hN : isN k = true
  · rw [if_pos hN, Option.bind_eq_some_iff] at hd
    obtain ⟨r, hr, h2⟩ := hd
    rw [if_pos hN, nm1_pre h hr]
    exact h2
  · rw [if_neg hN] at hd ⊢
    by_cases h15 : k = 15
    · rw [if_pos h15] at hd ⊢
      by_cases h3 : m < 3
      · rw [if_pos h3] at hd; cases hd
      · rw [if_neg h3, Option.bind_eq_some_iff] at hd
        obtain ⟨r, hr, h2⟩ := hd
        rw [if_neg h3, nm1_pre h hr, pre_part h (by omega)]
        exact h2
    · rw [if_neg h15] at hd ⊢
      by_cases h6 : k = 6
      · rw [if_pos h6, Option.bind_eq_some_iff] at hd
        obtain ⟨r, hr, h2⟩ := hd
        rw [if_pos h6, nm1_pre h hr]
        simp only [Option.bind_some]
        by_cases hle : r.2 ≤ p + m
        · rw [if_pos hle, Option.bind_eq_some_iff] at h2
          obtain ⟨q, hq, h3⟩ := h2
          rw [if_pos hle, nm1_pre h hq]
          simp only [Option.bind_some]
          by_cases hc : q.2 ≤ p + m ∧ p + m - q.2 = 20
          · rw [if_pos hc] at h3 ⊢
            rw [pre_part h (by omega)]
            exact h3
          · rw [if_neg hc] at h3; cases h3
        · rw [if_neg hle] at h2; cases h2
      · rw [if_neg h6] at hd ⊢
        rw [pre_part h hp]
        exact hd
theorem tkQ_pre (h : s.data.toList = s'.data.toList ++ X) {p : Int} {r : Rc × Nat} (hr : tkQ s' p = some r) : tkQ s p = some r := by
  have hz := pre_size h
  unfold tkQ at hr ⊢
  split at hr
  · rename_i h0
    rw [Option.bind_eq_some_iff] at hr
    obtain ⟨q, hq, h2⟩ := hr
    split at h2
    · rename_i h4
      rw [if_pos h0, nm1_pre h hq]
      simp only [Option.bind_some]
      rw [if_pos (by omega), pre_g16 h (by omega), pre_g16 h (by omega)]
      exact h2
    · cases h2
  · cases hr
theorem tkR_pre (h : s.data.toList = s'.data.toList ++ X) {p : Int} {r : Rc × Nat} (hr : tkR s' p = some r) : tkR s p = some r := by
  have hz := pre_size h
  unfold tkR at hr ⊢
  rw [Option.bind_eq_some_iff] at hr
  obtain ⟨q, hq, h2⟩ := hr
  rw [tkQ_pre h hq]
  simp only [Option.bind_some]
  split at h2
  · rename_i h6
    rw [Option.map_eq_some_iff] at h2
    obtain ⟨d, hd, rfl⟩ := h2
    rw [pre_g16 h (by omega), pre_g32 h (by omega), if_pos (by omega), takeD_pre h h6 hd]
    rfl
  · cases h2
/-- P5.2: a record that is cut off can't be taken. -/
theorem tkR_cut (h : s.data.toList = s'.data.toList ++ X) {p : Int} {r : Rc × Nat} (hr : tkR s p = some r) (hc : s'.size < r.2) : tkR s' p = none := by
  cases hx : tkR s' p with
  | none => rfl
  | some q =>
    exfalso
    have h1 := tkR_pre h hx
    rw [hr] at h1
    cases h1
    have := (tkR_is hx).2.2.2
    omega
end
/-- Numbers, as octet puts them and reads them. -/
theorem u8_of {a b : Nat} (h : a % 256 = b % 256) : UInt8.ofNat a = UInt8.ofNat b := by
  apply UInt8.toNat_inj.1
  rw [UInt8.toNat_ofNat', UInt8.toNat_ofNat']
  exact h
theorem bstr16 {n : Nat} (h : n < 65536) : (Oc.bstr (n : Int) 2).data.toList = b16 n := by
  show Oc.bytesOf (n : Int) 2 = _
  unfold Oc.bytesOf Oc.byteAt b16
  simp only [List.range, List.range.loop, List.map_cons, List.map_nil, Nat.reduceMul, Nat.reduceSub, Int.reducePow, Int.pow_zero, Int.ediv_one, Nat.mul_zero]
  have e1 : ((n : Int) / 256).toNat = n / 256 := by omega
  have e2 : (n : Int).toNat = n := by omega
  rw [e1, e2, u8_of (show n % 256 = n % 256 % 256 by omega)]
theorem bstr32 {n : Nat} (h : n < 4294967296) : (Oc.bstr (n : Int) 4).data.toList = b32 n := by
  show Oc.bytesOf (n : Int) 4 = _
  unfold Oc.bytesOf Oc.byteAt b32 b16
  simp only [List.range, List.range.loop, List.map_cons, List.map_nil, Nat.reduceMul, Nat.reduceSub, Int.reducePow, Int.pow_zero, Int.ediv_one, Nat.mul_zero, List.cons_append, List.nil_append]
  have e1 : ((n : Int) / 16777216).toNat = n / 16777216 := by omega
  have e2 : ((n : Int) / 65536).toNat = n / 65536 := by omega
  have e3 : ((n : Int) / 256).toNat = n / 256 := by omega
  have e4 : (n : Int).toNat = n := by omega
  rw [e1, e2, e3, e4, u8_of (show n / 16777216 % 256 = n / 65536 / 256 % 256 by omega), u8_of (show n / 65536 % 256 = n / 65536 % 256 % 256 by omega), u8_of (show n / 256 % 256 = n % 65536 / 256 % 256 by omega), u8_of (show n % 256 = n % 65536 % 256 % 256 by omega)]
theorem un16 {s : ByteArray} {p : Nat} (h : p + 2 ≤ s.size) : Oc.un s p 2 = (g16 s p : Nat) := by
  unfold Oc.un
  have hok : Oc.okS s p 2 := ⟨by omega, by omega, by omega⟩
  rw [if_pos hok, Oc.bnum_at2 s p (by omega) (by omega)]
  unfold g16
  rw [lsz_eq (by omega), lsz_eq (by omega)]
  simp
theorem un32 {s : ByteArray} {p : Nat} (h : p + 4 ≤ s.size) : Oc.un s p 4 = (g32 s p : Nat) := by
  rw [Oc.un_four s p (by omega) (by omega), un16 (by omega), show ((p : Int) + 2) = ((p + 2 : Nat) : Int) by omega, un16 (by omega)]
  unfold g32
  omega
end Go.Proofs.YtlphbeaaeeohjaaDoor
