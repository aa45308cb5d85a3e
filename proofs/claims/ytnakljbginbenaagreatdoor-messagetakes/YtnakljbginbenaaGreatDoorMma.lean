/- Plain mathematics of messages: how they are put, how they are taken, that what was put is taken, what a begin of the records takes. -/
import Derived.Test.YtnakljbginbenaaGreatDoorBma
namespace Go.Proofs.YtnakljbginbenaaGreatDoor
open Go

/-- A message, in its parts. -/
structure Ms where
  id : Nat
  qr : Bool
  aa : Bool
  tc : Bool
  rd : Bool
  ra : Bool
  op : Int
  rc : Int
  q : List Rc
  an : List Rc
  ns : List Rc
  ar : List Rc
structure Ms.Ok (m : Ms) : Prop where
  id : m.id < 65536
  q : ∀ r ∈ m.q, r.Ok ∧ r = r.ask
  an : ∀ r ∈ m.an, r.Ok
  ns : ∀ r ∈ m.ns, r.Ok
  ar : ∀ r ∈ m.ar, r.Ok
def Ms.recs (m : Ms) : List Rc := m.an ++ (m.ns ++ m.ar)
theorem Ms.Ok.recs {m : Ms} (h : m.Ok) : ∀ r ∈ m.recs, r.Ok := fun r hr => by
  unfold Ms.recs at hr
  rcases List.mem_append.1 hr with h1 | h1
  · exact h.an r h1
  · rcases List.mem_append.1 h1 with h2 | h2
    · exact h.ns r h2
    · exact h.ar r h2
def codeB (n : Int) : Bool := decide (0 ≤ n) && decide (n ≤ 15)
theorem codeB_iff {n : Int} : codeB n = true ↔ 0 ≤ n ∧ n ≤ 15 := by unfold codeB; simp
def allQ (l : List Rc) : Bool := decide (l.length ≤ 65535) && l.all fun r => mayB r.n
def allR (l : List Rc) : Bool := decide (l.length ≤ 65535) && l.all mayR
theorem allQ_iff {l : List Rc} : allQ l = true ↔ l.length ≤ 65535 ∧ ∀ r ∈ l, mayB r.n = true := by unfold allQ; simp
theorem allR_iff {l : List Rc} : allR l = true ↔ l.length ≤ 65535 ∧ ∀ r ∈ l, mayR r = true := by unfold allR; simp
def mayM (m : Ms) : Bool := codeB m.op && (codeB m.rc && (allQ m.q && (allR m.an && (allR m.ns && allR m.ar))))
structure MayM (m : Ms) : Prop where
  op : 0 ≤ m.op ∧ m.op ≤ 15
  rc : 0 ≤ m.rc ∧ m.rc ≤ 15
  q : m.q.length ≤ 65535 ∧ ∀ r ∈ m.q, mayB r.n = true
  an : m.an.length ≤ 65535 ∧ ∀ r ∈ m.an, mayR r = true
  ns : m.ns.length ≤ 65535 ∧ ∀ r ∈ m.ns, mayR r = true
  ar : m.ar.length ≤ 65535 ∧ ∀ r ∈ m.ar, mayR r = true
theorem mayM_iff {m : Ms} : mayM m = true ↔ MayM m := by
  unfold mayM
  rw [Bool.and_eq_true, Bool.and_eq_true, Bool.and_eq_true, Bool.and_eq_true, Bool.and_eq_true, codeB_iff, codeB_iff, allQ_iff, allR_iff, allR_iff, allR_iff]
  exact ⟨fun ⟨a, b, c, d, e, f⟩ => ⟨a, b, c, d, e, f⟩, fun h => ⟨h.op, h.rc, h.q, h.an, h.ns, h.ar⟩⟩
theorem MayM.recs {m : Ms} (h : MayM m) : ∀ r ∈ m.recs, mayR r = true := fun r hr => by
  unfold Ms.recs at hr
  rcases List.mem_append.1 hr with h1 | h1
  · exact h.an.2 r h1
  · rcases List.mem_append.1 h1 with h2 | h2
    · exact h.ns.2 r h2
    · exact h.ar.2 r h2

/-- The two bytes behind the ID. -/
def bitsN (m : Ms) : Nat := 32768 * m.qr.toNat + 2048 * m.op.toNat + 1024 * m.aa.toNat + 512 * m.tc.toNat + 256 * m.rd.toNat + 128 * m.ra.toNat + m.rc.toNat
theorem toNat_le (b : Bool) : b.toNat ≤ 1 := by cases b <;> decide
theorem bitsN_lt {m : Ms} (h1 : m.op ≤ 15) (h2 : m.rc ≤ 15) : bitsN m < 65536 := by
  have a := toNat_le m.qr; have b := toNat_le m.aa; have c := toNat_le m.tc; have d := toNat_le m.rd; have e := toNat_le m.ra
  unfold bitsN
  omega
def hdM (m : Ms) : List UInt8 := b16 m.id ++ (b16 (bitsN m) ++ (b16 m.q.length ++ (b16 m.an.length ++ (b16 m.ns.length ++ b16 m.ar.length))))
theorem hdM_len (m : Ms) : (hdM m).length = 12 := by unfold hdM; simp [b16_len]

/-- Questions, and records, one behind the other. -/
def qsF (X : List UInt8 × Kn) (l : List Rc) : List UInt8 × Kn := l.foldl (fun X r => putQ X.1 X.2 r) X
def rsF (X : List UInt8 × Kn) (l : List Rc) : List UInt8 × Kn := l.foldl (fun X r => putR X.1 X.2 r) X
theorem qsF_cons (X : List UInt8 × Kn) (r : Rc) (l : List Rc) : qsF X (r :: l) = qsF (putQ X.1 X.2 r) l := rfl
theorem rsF_cons (X : List UInt8 × Kn) (r : Rc) (l : List Rc) : rsF X (r :: l) = rsF (putR X.1 X.2 r) l := rfl
theorem qsF_append (X : List UInt8 × Kn) (l l' : List Rc) : qsF X (l ++ l') = qsF (qsF X l) l' := by unfold qsF; rw [List.foldl_append]
theorem rsF_append (X : List UInt8 × Kn) (l l' : List Rc) : rsF X (l ++ l') = rsF (rsF X l) l' := by unfold rsF; rw [List.foldl_append]
theorem qsF_next (X : List UInt8 × Kn) (l : List Rc) (j : Nat) (h : j < l.length) : qsF X (l.take (j + 1)) = putQ (qsF X (l.take j)).1 (qsF X (l.take j)).2 l[j] := by
  rw [List.take_succ_eq_append_getElem h, qsF_append]; rfl
theorem rsF_next (X : List UInt8 × Kn) (l : List Rc) (j : Nat) (h : j < l.length) : rsF X (l.take (j + 1)) = putR (rsF X (l.take j)).1 (rsF X (l.take j)).2 l[j] := by
  rw [List.take_succ_eq_append_getElem h, rsF_append]; rfl
theorem qsF_app : ∀ (l : List Rc) (X : List UInt8 × Kn), Good X.1 X.2 → (∀ r ∈ l, mayB r.n = true) → (∃ Y, (qsF X l).1 = X.1 ++ Y ∧ Y.length ≤ 259 * l.length) ∧ Good (qsF X l).1 (qsF X l).2
  | [], X, hG, _ => ⟨⟨[], by simp [qsF], by simp⟩, hG⟩
  | r :: l, X, hG, h => by
    obtain ⟨⟨Y, y1, y2⟩, g⟩ := putQ_good hG (h r (by simp))
    obtain ⟨⟨Z, z1, z2⟩, g2⟩ := qsF_app l (putQ X.1 X.2 r) g (fun x hx => h x (by simp [hx]))
    rw [qsF_cons]
    exact ⟨⟨Y ++ Z, by rw [z1, y1, List.append_assoc], by rw [List.length_append, List.length_cons]; omega⟩, g2⟩
theorem rsF_app : ∀ (l : List Rc) (X : List UInt8 × Kn), Good X.1 X.2 → (∀ r ∈ l, mayR r = true) → (∃ Y, (rsF X l).1 = X.1 ++ Y ∧ Y.length ≤ 65800 * l.length) ∧ Good (rsF X l).1 (rsF X l).2
  | [], X, hG, _ => ⟨⟨[], by simp [rsF], by simp⟩, hG⟩
  | r :: l, X, hG, h => by
    obtain ⟨⟨Y, y1, y2⟩, g⟩ := putR_good hG (h r (by simp))
    have hD : r.d.size ≤ 65535 := by
      have := h r (by simp)
      unfold mayR at this
      rw [Bool.and_eq_true] at this
      have := this.2
      unfold mayD at this
      rw [Bool.and_eq_true, decide_eq_true_iff] at this
      exact this.1
    obtain ⟨⟨Z, z1, z2⟩, g2⟩ := rsF_app l (putR X.1 X.2 r) g (fun x hx => h x (by simp [hx]))
    rw [rsF_cons]
    exact ⟨⟨Y ++ Z, by rw [z1, y1, List.append_assoc], by rw [List.length_append, List.length_cons]; omega⟩, g2⟩
theorem rsF_mono {X : List UInt8 × Kn} {l : List Rc} (hG : Good X.1 X.2) (h : ∀ r ∈ l, mayR r = true) {i j : Nat} (hij : i ≤ j) : (rsF X (l.take i)).1.length ≤ (rsF X (l.take j)).1.length := by
  have e : l.take j = l.take i ++ (l.take j).drop i := by
    have h1 : (l.take j).take i = l.take i := by rw [List.take_take, Nat.min_eq_left hij]
    rw [← h1, List.take_append_drop]
  have h1 := rsF_app (l.take i) X hG (fun r hr => h r (List.mem_of_mem_take hr))
  obtain ⟨⟨Y, y1, _⟩, _⟩ := rsF_app ((l.take j).drop i) _ h1.2 (fun r hr => h r (List.mem_of_mem_take (List.mem_of_mem_drop hr)))
  rw [e, rsF_append, y1, List.length_append]
  omega
/-- What is added hangs on how long a pack is alone. -/
theorem putQ_same {S S' : List UInt8} (L : Kn) (r : Rc) (h : S.length = S'.length) : ∃ W L', putQ S L r = (S ++ W, L') ∧ putQ S' L r = (S' ++ W, L') := by
  obtain ⟨W, L', h1, h2⟩ := put_same (labs r.n) S S' L h
  unfold putQ
  rw [h1, h2]
  exact ⟨W ++ (b16 r.k ++ b16 r.c), L', by simp, by simp⟩
theorem putR_same {S S' : List UInt8} (L : Kn) (r : Rc) (h : S.length = S'.length) : ∃ W L', putR S L r = (S ++ W, L') ∧ putR S' L r = (S' ++ W, L') := by
  obtain ⟨W, L', h1, h2⟩ := putQ_same L r h
  obtain ⟨V, L'', h3, h4⟩ := putD_same (S := S ++ (W ++ b32 r.t ++ [0, 0])) (S' := S' ++ (W ++ b32 r.t ++ [0, 0])) L' r.k r.d (by simp [h])
  have e1 : hdR S L r = S ++ (W ++ b32 r.t) := by unfold hdR; rw [h1]; simp
  have e2 : hdR S' L r = S' ++ (W ++ b32 r.t) := by unfold hdR; rw [h2]; simp
  have d1 : dtR S L r = (S ++ (W ++ b32 r.t ++ [0, 0]) ++ V, L'') := by unfold dtR; rw [e1, h1, ← h3]; simp
  have d2 : dtR S' L r = (S' ++ (W ++ b32 r.t ++ [0, 0]) ++ V, L'') := by unfold dtR; rw [e2, h2, ← h4]; simp
  have f : ∀ T : List UInt8, (T ++ (W ++ b32 r.t ++ [0, 0]) ++ V).length - ((T ++ (W ++ b32 r.t)).length + 2) = V.length := fun T => by simp; omega
  have g : ∀ T : List UInt8, (T ++ (W ++ b32 r.t ++ [0, 0]) ++ V).drop ((T ++ (W ++ b32 r.t)).length + 2) = V := fun T => by
    rw [List.drop_left' (by simp; omega)]
  refine ⟨W ++ b32 r.t ++ (b16 V.length ++ V), L'', ?_, ?_⟩
  · unfold putR
    rw [d1, e1]
    simp only
    rw [f, g]
    simp
  · unfold putR
    rw [d2, e2]
    simp only
    rw [f, g]
    simp
theorem qsF_same : ∀ (l : List Rc) (S S' : List UInt8) (L : Kn), S.length = S'.length → ∃ W L', qsF (S, L) l = (S ++ W, L') ∧ qsF (S', L) l = (S' ++ W, L')
  | [], S, S', L, h => ⟨[], L, by simp [qsF], by simp [qsF]⟩
  | r :: l, S, S', L, h => by
    obtain ⟨W, L', h1, h2⟩ := putQ_same L r h
    obtain ⟨V, L'', h3, h4⟩ := qsF_same l (S ++ W) (S' ++ W) L' (by simp [h])
    exact ⟨W ++ V, L'', by rw [qsF_cons]; simp only; rw [h1, h3, List.append_assoc], by rw [qsF_cons]; simp only; rw [h2, h4, List.append_assoc]⟩
theorem rsF_same : ∀ (l : List Rc) (S S' : List UInt8) (L : Kn), S.length = S'.length → ∃ W L', rsF (S, L) l = (S ++ W, L') ∧ rsF (S', L) l = (S' ++ W, L')
  | [], S, S', L, h => ⟨[], L, by simp [rsF], by simp [rsF]⟩
  | r :: l, S, S', L, h => by
    obtain ⟨W, L', h1, h2⟩ := putR_same L r h
    obtain ⟨V, L'', h3, h4⟩ := rsF_same l (S ++ W) (S' ++ W) L' (by simp [h])
    exact ⟨W ++ V, L'', by rw [rsF_cons]; simp only; rw [h1, h3, List.append_assoc], by rw [rsF_cons]; simp only; rw [h2, h4, List.append_assoc]⟩

/-- A message's bytes: its begin, and all of it. -/
def bgM (m : Ms) : List UInt8 × Kn := qsF (hdM m, []) m.q
def encM (m : Ms) : List UInt8 × Kn := rsF (bgM m) m.recs
theorem bgM_app {m : Ms} (h : MayM m) : (∃ Y, (bgM m).1 = hdM m ++ Y ∧ Y.length ≤ 259 * m.q.length) ∧ Good (bgM m).1 (bgM m).2 := qsF_app m.q _ (Good.nil _) h.q.2
theorem bgM_len {m : Ms} (h : MayM m) : (bgM m).1.length ≤ 12 + 259 * m.q.length := by
  obtain ⟨⟨Y, y1, y2⟩, _⟩ := bgM_app h
  rw [y1, List.length_append, hdM_len]
  omega
theorem encM_app {m : Ms} (h : MayM m) : (∃ Y, (encM m).1 = (bgM m).1 ++ Y) ∧ Good (encM m).1 (encM m).2 := by
  obtain ⟨⟨Y, y1, _⟩, g⟩ := rsF_app m.recs _ (bgM_app h).2 h.recs
  exact ⟨⟨Y, y1⟩, g⟩
theorem encM_hd {m : Ms} (h : MayM m) : ∃ Y, (encM m).1 = hdM m ++ Y := by
  obtain ⟨⟨Y, y1⟩, _⟩ := encM_app h
  obtain ⟨⟨Z, z1, _⟩, _⟩ := bgM_app h
  exact ⟨Z ++ Y, by rw [y1, z1, List.append_assoc]⟩
theorem encM_split (m : Ms) : encM m = rsF (rsF (rsF (bgM m) m.an) m.ns) m.ar := by
  unfold encM Ms.recs
  rw [rsF_append, rsF_append]

/-- How many of the records fit. -/
def FitsAt (X : List UInt8 × Kn) (l : List Rc) (most : Int) (j : Nat) : Prop := j ≤ l.length ∧ (∀ i, i < j → ((rsF X (l.take (i + 1))).1.length : Int) ≤ most) ∧ (j < l.length → most < ((rsF X (l.take (j + 1))).1.length : Int))
/-- A message with so many of its records, from the begin on. -/
def lessM (m : Ms) (j : Nat) (t : Bool) : Ms := { m with tc := t, an := m.an.take j, ns := m.ns.take (j - m.an.length), ar := m.ar.take (j - m.an.length - m.ns.length) }
theorem lessM_recs (m : Ms) (j : Nat) (t : Bool) : (lessM m j t).recs = m.recs.take j := by
  unfold lessM Ms.recs
  simp only
  rw [List.take_append, List.take_append]
theorem lessM_bg (m : Ms) (j : Nat) (t : Bool) : ∃ W L', bgM m = (hdM m ++ W, L') ∧ bgM (lessM m j t) = (hdM (lessM m j t) ++ W, L') := qsF_same m.q _ _ [] (by rw [hdM_len, hdM_len])
theorem lessM_len (m : Ms) (j : Nat) (t : Bool) : (encM (lessM m j t)).1.length = (rsF (bgM m) (m.recs.take j)).1.length := by
  obtain ⟨W, L', h1, h2⟩ := lessM_bg m j t
  obtain ⟨V, L'', h3, h4⟩ := rsF_same (m.recs.take j) (hdM m ++ W) (hdM (lessM m j t) ++ W) L' (by rw [List.length_append, List.length_append, hdM_len, hdM_len])
  unfold encM
  rw [lessM_recs, h1, h2, h3, h4]
  simp [hdM_len]
theorem lessM_all (m : Ms) {j : Nat} (h : m.recs.length ≤ j) : lessM m j m.tc = m := by
  unfold Ms.recs at h
  rw [List.length_append, List.length_append] at h
  unfold lessM
  rw [List.take_of_length_le (by omega), List.take_of_length_le (by omega), List.take_of_length_le (by omega)]
theorem lessM_may {m : Ms} (h : MayM m) (j : Nat) (t : Bool) : MayM (lessM m j t) :=
  ⟨h.op, h.rc, h.q, ⟨by show (m.an.take j).length ≤ _; rw [List.length_take]; have := h.an.1; omega, fun r hr => h.an.2 r (List.mem_of_mem_take hr)⟩, ⟨by show (m.ns.take _).length ≤ _; rw [List.length_take]; have := h.ns.1; omega, fun r hr => h.ns.2 r (List.mem_of_mem_take hr)⟩, ⟨by show (m.ar.take _).length ≤ _; rw [List.length_take]; have := h.ar.1; omega, fun r hr => h.ar.2 r (List.mem_of_mem_take hr)⟩⟩
theorem lessM_ok {m : Ms} (h : m.Ok) (j : Nat) (t : Bool) : (lessM m j t).Ok :=
  ⟨h.id, h.q, fun r hr => h.an r (List.mem_of_mem_take hr), fun r hr => h.ns r (List.mem_of_mem_take hr), fun r hr => h.ar r (List.mem_of_mem_take hr)⟩

/-- As many questions, and records, as are said, from an offset on, and the offset behind. -/
def qsT (s : ByteArray) : Nat → Int → Option (List Rc × Int)
  | 0, p => some ([], p)
  | n + 1, p => (tkQ s p).bind fun r => (qsT s n (r.2 : Nat)).map fun x => (r.1 :: x.1, x.2)
def rsT (s : ByteArray) : Nat → Int → Option (List Rc × Int)
  | 0, p => some ([], p)
  | n + 1, p => (tkR s p).bind fun r => (rsT s n (r.2 : Nat)).map fun x => (r.1 :: x.1, x.2)
def outL (x : Option (List Rc × Int)) : List Rc := match x with | some y => y.1 | none => []
def outP (x : Option (List Rc × Int)) : Int := match x with | some y => y.2 | none => -1
def qL (s : ByteArray) : List Rc := outL (qsT s (g16 s 4) 12)
def qP (s : ByteArray) : Int := outP (qsT s (g16 s 4) 12)
def anL (s : ByteArray) : List Rc := outL (rsT s (g16 s 6) (qP s))
def anP (s : ByteArray) : Int := outP (rsT s (g16 s 6) (qP s))
def nsL (s : ByteArray) : List Rc := outL (rsT s (g16 s 8) (anP s))
def nsP (s : ByteArray) : Int := outP (rsT s (g16 s 8) (anP s))
def arL (s : ByteArray) : List Rc := outL (rsT s (g16 s 10) (nsP s))
def arP (s : ByteArray) : Int := outP (rsT s (g16 s 10) (nsP s))
/-- The header's message. -/
def hdT (s : ByteArray) : Ms := ⟨g16 s 0, decide (g16 s 2 / 32768 % 2 = 1), decide (g16 s 2 / 1024 % 2 = 1), decide (g16 s 2 / 512 % 2 = 1), decide (g16 s 2 / 256 % 2 = 1), decide (g16 s 2 / 128 % 2 = 1), (g16 s 2 / 2048 % 16 : Nat), (g16 s 2 % 16 : Nat), [], [], [], []⟩
def msT (s : ByteArray) : Ms := { hdT s with q := qL s, an := anL s, ns := nsL s, ar := arL s }
def okT (s : ByteArray) : Bool := decide (12 ≤ s.size) && decide (arP s = s.size)

theorem qsT_is {s : ByteArray} : ∀ (n : Nat) (p : Int) (x : List Rc × Int), qsT s n p = some x → x.1.length = n ∧ (∀ r ∈ x.1, r.Ok ∧ mayB r.n = true ∧ r = r.ask) ∧ p + 5 * n ≤ x.2 ∧ (p ≤ s.size → x.2 ≤ s.size)
  | 0, p, x, h => by cases h; exact ⟨rfl, (fun r hr => by cases hr), by simp, fun h => h⟩
  | n + 1, p, x, h => by
    rw [qsT, Option.bind_eq_some_iff] at h
    obtain ⟨r, hr, h2⟩ := h
    rw [Option.map_eq_some_iff] at h2
    obtain ⟨y, hy, rfl⟩ := h2
    obtain ⟨a1, a2, a3, a4, a5, a6⟩ := tkQ_is hr
    obtain ⟨b1, b2, b3, b4⟩ := qsT_is n _ y hy
    refine ⟨by simp [b1], fun z hz => ?_, by simp only; omega, fun _ => b4 (by omega)⟩
    rcases List.mem_cons.1 hz with rfl | hz
    · exact ⟨a1, a2, a6⟩
    · exact b2 z hz
theorem rsT_is {s : ByteArray} : ∀ (n : Nat) (p : Int) (x : List Rc × Int), rsT s n p = some x → x.1.length = n ∧ (∀ r ∈ x.1, r.Ok ∧ mayR r = true) ∧ p + n ≤ x.2 ∧ (p ≤ s.size → x.2 ≤ s.size)
  | 0, p, x, h => by cases h; exact ⟨rfl, (fun r hr => by cases hr), by simp, fun h => h⟩
  | n + 1, p, x, h => by
    rw [rsT, Option.bind_eq_some_iff] at h
    obtain ⟨r, hr, h2⟩ := h
    rw [Option.map_eq_some_iff] at h2
    obtain ⟨y, hy, rfl⟩ := h2
    obtain ⟨a1, a2, a3, a4⟩ := tkR_is hr
    obtain ⟨b1, b2, b3, b4⟩ := rsT_is n _ y hy
    refine ⟨by simp [b1], fun z hz => ?_, by simp only; omega, fun _ => b4 (by omega)⟩
    rcases List.mem_cons.1 hz with rfl | hz
    · exact ⟨a1, a2⟩
    · exact b2 z hz
theorem rsT_neg {s : ByteArray} (n : Nat) : outL (rsT s n (-1)) = [] ∧ outP (rsT s n (-1)) = -1 := by
  cases n with
  | zero => exact ⟨rfl, rfl⟩
  | succ n =>
    have : tkR s (-1) = none := by unfold tkR tkQ; rw [if_neg (by decide)]; rfl
    rw [rsT, this]
    exact ⟨rfl, rfl⟩
/-- What was put is taken. -/
theorem qsT_put {s : ByteArray} : ∀ (l : List Rc) (X : List UInt8 × Kn) (Y : List UInt8), Good X.1 X.2 → (∀ r ∈ l, mayB r.n = true) → (∀ r ∈ l, r.Ok ∧ r = r.ask) → s.data.toList = (qsF X l).1 ++ Y → qsT s l.length X.1.length = some (l, (((qsF X l).1.length : Nat) : Int))
  | [], X, Y, _, _, _, _ => rfl
  | r :: l, X, Y, hG, hm, hok, hs => by
    have g := (putQ_good hG (hm r (by simp))).2
    rw [qsF_cons] at hs ⊢
    obtain ⟨⟨Z, z1, _⟩, _⟩ := qsF_app l (putQ X.1 X.2 r) g (fun x hx => hm x (by simp [hx]))
    have h1 := tkQ_put hG (hok r (by simp)).1 (hm r (by simp)) (s := s) (Z ++ Y) (by rw [hs, z1, List.append_assoc])
    have h2 := qsT_put l (putQ X.1 X.2 r) Y g (fun x hx => hm x (by simp [hx])) (fun x hx => hok x (by simp [hx])) hs
    rw [List.length_cons, qsT, h1]
    simp only [Option.bind_some]
    rw [h2]
    simp only [Option.map_some]
    rw [← (hok r (by simp)).2]
theorem rsT_put {s : ByteArray} : ∀ (l : List Rc) (X : List UInt8 × Kn) (Y : List UInt8), Good X.1 X.2 → (∀ r ∈ l, mayR r = true) → (∀ r ∈ l, r.Ok) → s.data.toList = (rsF X l).1 ++ Y → rsT s l.length X.1.length = some (l, (((rsF X l).1.length : Nat) : Int))
  | [], X, Y, _, _, _, _ => rfl
  | r :: l, X, Y, hG, hm, hok, hs => by
    have g := (putR_good hG (hm r (by simp))).2
    rw [rsF_cons] at hs ⊢
    obtain ⟨⟨Z, z1, _⟩, _⟩ := rsF_app l (putR X.1 X.2 r) g (fun x hx => hm x (by simp [hx]))
    have h1 := tkR_put hG (hok r (by simp)) (hm r (by simp)) (s := s) (Z ++ Y) (by rw [hs, z1, List.append_assoc])
    have h2 := rsT_put l (putR X.1 X.2 r) Y g (fun x hx => hm x (by simp [hx])) (fun x hx => hok x (by simp [hx])) hs
    rw [List.length_cons, rsT, h1]
    simp only [Option.bind_some]
    rw [h2]
    rfl
/-- Of a begin of a string the same is taken, or nothing. -/
theorem qsT_pre {s s' : ByteArray} {X : List UInt8} (h : s.data.toList = s'.data.toList ++ X) : ∀ (n : Nat) (p : Int) (x : List Rc × Int), qsT s' n p = some x → qsT s n p = some x
  | 0, p, x, hx => hx
  | n + 1, p, x, hx => by
    rw [qsT, Option.bind_eq_some_iff] at hx
    obtain ⟨r, hr, h2⟩ := hx
    rw [Option.map_eq_some_iff] at h2
    obtain ⟨y, hy, rfl⟩ := h2
    rw [qsT, tkQ_pre h hr]
    simp only [Option.bind_some]
    rw [qsT_pre h n _ y hy]
    rfl
theorem rsT_pre {s s' : ByteArray} {X : List UInt8} (h : s.data.toList = s'.data.toList ++ X) : ∀ (n : Nat) (p : Int) (x : List Rc × Int), rsT s' n p = some x → rsT s n p = some x
  | 0, p, x, hx => hx
  | n + 1, p, x, hx => by
    rw [rsT, Option.bind_eq_some_iff] at hx
    obtain ⟨r, hr, h2⟩ := hx
    rw [Option.map_eq_some_iff] at h2
    obtain ⟨y, hy, rfl⟩ := h2
    rw [rsT, tkR_pre h hr]
    simp only [Option.bind_some]
    rw [rsT_pre h n _ y hy]
    rfl
theorem outP_some {x : Option (List Rc × Int)} {k : Int} (hk : 0 ≤ k) (h : outP x = k) : ∃ y, x = some y ∧ y.2 = k := by
  cases x with
  | none => unfold outP at h; simp only at h; omega
  | some y => exact ⟨y, rfl, h⟩
theorem rs_out {s : ByteArray} {n : Nat} {p : Int} (hp : p = -1 ∨ 0 ≤ p) : (outP (rsT s n p) = -1 ∧ outL (rsT s n p) = []) ∨ (0 ≤ p ∧ rsT s n p = some (outL (rsT s n p), outP (rsT s n p)) ∧ p ≤ outP (rsT s n p)) := by
  rcases hp with rfl | hp
  · exact .inl (rsT_neg n).symm
  · cases h : rsT s n p with
    | none => exact .inl ⟨rfl, rfl⟩
    | some y => exact .inr ⟨hp, rfl, by have := (rsT_is n p y h).2.2.1; show p ≤ y.2; omega⟩
theorem qs_out (s : ByteArray) : (qP s = -1 ∧ qL s = []) ∨ (qsT s (g16 s 4) 12 = some (qL s, qP s) ∧ 12 ≤ qP s) := by
  unfold qP qL
  cases h : qsT s (g16 s 4) 12 with
  | none => exact .inl ⟨rfl, rfl⟩
  | some y => exact .inr ⟨rfl, by have := (qsT_is _ _ y h).2.2.1; show 12 ≤ y.2; omega⟩
theorem qP_pos (s : ByteArray) : qP s = -1 ∨ 0 ≤ qP s := by rcases qs_out s with h | h <;> omega
theorem anP_pos (s : ByteArray) : anP s = -1 ∨ 0 ≤ anP s := by
  rcases rs_out (s := s) (n := g16 s 6) (qP_pos s) with h | h
  · exact .inl h.1
  · exact .inr (Int.le_trans h.1 h.2.2)
theorem nsP_pos (s : ByteArray) : nsP s = -1 ∨ 0 ≤ nsP s := by
  rcases rs_out (s := s) (n := g16 s 8) (anP_pos s) with h | h
  · exact .inl h.1
  · exact .inr (Int.le_trans h.1 h.2.2)
/-- A message that is taken, in its parts. -/
structure Tk (s : ByteArray) : Prop where
  size : 12 ≤ s.size
  q : qsT s (g16 s 4) 12 = some (qL s, qP s)
  an : rsT s (g16 s 6) (qP s) = some (anL s, anP s)
  ns : rsT s (g16 s 8) (anP s) = some (nsL s, nsP s)
  ar : rsT s (g16 s 10) (nsP s) = some (arL s, arP s)
  stop : arP s = s.size
theorem okT_iff {s : ByteArray} : okT s = true ↔ 12 ≤ s.size ∧ arP s = s.size := by unfold okT; rw [Bool.and_eq_true, decide_eq_true_iff, decide_eq_true_iff]
theorem tk_of {s : ByteArray} (h : okT s = true) : Tk s := by
  obtain ⟨h0, h1⟩ := okT_iff.1 h
  rcases rs_out (s := s) (n := g16 s 10) (nsP_pos s) with h2 | h2
  · have : arP s = -1 := h2.1
    omega
  · rcases rs_out (s := s) (n := g16 s 8) (anP_pos s) with h3 | h3
    · have : nsP s = -1 := h3.1
      omega
    · rcases rs_out (s := s) (n := g16 s 6) (qP_pos s) with h4 | h4
      · have : anP s = -1 := h4.1
        omega
      · rcases qs_out s with h5 | h5
        · omega
        · exact ⟨h0, h5.1, h4.2.1, h3.2.1, h2.2.1, h1⟩
theorem Tk.ok {s : ByteArray} (h : Tk s) : okT s = true := okT_iff.2 ⟨h.size, h.stop⟩
/-- What a string that begins with another one is taken as, if that is taken. -/
theorem tk_pre {s s' : ByteArray} {X : List UInt8} (h : s.data.toList = s'.data.toList ++ X) (t : Tk s') : arP s = s'.size := by
  have hz := t.size
  have e4 : g16 s 4 = g16 s' 4 := pre_g16 h (by omega)
  have e6 : g16 s 6 = g16 s' 6 := pre_g16 h (by omega)
  have e8 : g16 s 8 = g16 s' 8 := pre_g16 h (by omega)
  have e10 : g16 s 10 = g16 s' 10 := pre_g16 h (by omega)
  have q1 : qP s = qP s' := by show outP (qsT s (g16 s 4) 12) = _; rw [e4, qsT_pre h _ _ _ t.q]; rfl
  have a1 : anP s = anP s' := by show outP (rsT s (g16 s 6) (qP s)) = _; rw [e6, q1, rsT_pre h _ _ _ t.an]; rfl
  have n1 : nsP s = nsP s' := by show outP (rsT s (g16 s 8) (anP s)) = _; rw [e8, a1, rsT_pre h _ _ _ t.ns]; rfl
  show outP (rsT s (g16 s 10) (nsP s)) = _
  rw [e10, n1, rsT_pre h _ _ _ t.ar]
  exact t.stop

/-- What was put is taken, whatever stands behind. -/
theorem flag_dec (b : Bool) (n : Nat) (h : n = b.toNat) : decide (n = 1) = b := by subst h; cases b <;> rfl
theorem hdT_enc {m : Ms} (h : MayM m) (hok : m.Ok) {s : ByteArray} {Y : List UInt8} (hs : s.data.toList = hdM m ++ Y) :
    12 ≤ s.size ∧ hdT s = { m with q := [], an := [], ns := [], ar := [] } ∧ g16 s 4 = m.q.length ∧ g16 s 6 = m.an.length ∧ g16 s 8 = m.ns.length ∧ g16 s 10 = m.ar.length := by
  have hb := bitsN_lt h.op.2 h.rc.2
  have d0 : s.data.toList.drop 0 = b16 m.id ++ (b16 (bitsN m) ++ (b16 m.q.length ++ (b16 m.an.length ++ (b16 m.ns.length ++ (b16 m.ar.length ++ Y))))) := by rw [hs]; unfold hdM; simp
  obtain ⟨a1, _, d2⟩ := g16_at hok.id d0
  obtain ⟨a2, _, d4⟩ := g16_at hb d2
  obtain ⟨a3, _, d6⟩ := g16_at (by have := h.q.1; omega) d4
  obtain ⟨a4, _, d8⟩ := g16_at (by have := h.an.1; omega) d6
  obtain ⟨a5, _, d10⟩ := g16_at (by have := h.ns.1; omega) d8
  obtain ⟨a6, hz, _⟩ := g16_at (by have := h.ar.1; omega) d10
  refine ⟨hz, ?_, a3, a4, a5, a6⟩
  obtain ⟨o, ho⟩ : ∃ o : Nat, m.op = o := ⟨m.op.toNat, by have := h.op.1; omega⟩
  obtain ⟨c, hc⟩ : ∃ c : Nat, m.rc = c := ⟨m.rc.toNat, by have := h.rc.1; omega⟩
  have h15 := h.op.2
  have h16 := h.rc.2
  have a := toNat_le m.qr; have b := toNat_le m.aa; have c' := toNat_le m.tc; have d := toNat_le m.rd; have e := toNat_le m.ra
  unfold hdT
  rw [a1, a2]
  simp only [Nat.zero_add] at *
  unfold bitsN
  rw [ho, hc] at *
  simp only [Int.toNat_natCast]
  rw [flag_dec m.qr _ (by omega), flag_dec m.aa _ (by omega), flag_dec m.tc _ (by omega), flag_dec m.rd _ (by omega), flag_dec m.ra _ (by omega)]
  have e1 : (32768 * m.qr.toNat + 2048 * o + 1024 * m.aa.toNat + 512 * m.tc.toNat + 256 * m.rd.toNat + 128 * m.ra.toNat + c) / 2048 % 16 = o := by omega
  have e2 : (32768 * m.qr.toNat + 2048 * o + 1024 * m.aa.toNat + 512 * m.tc.toNat + 256 * m.rd.toNat + 128 * m.ra.toNat + c) % 16 = c := by omega
  rw [e1, e2, ← ho, ← hc]
theorem enc_taken {m : Ms} (h : MayM m) (hok : m.Ok) {s : ByteArray} {Y : List UInt8} (hs : s.data.toList = (encM m).1 ++ Y) :
    12 ≤ s.size ∧ msT s = m ∧ hdT s = { m with q := [], an := [], ns := [], ar := [] } ∧ arP s = (encM m).1.length := by
  have g0 := (bgM_app h).2
  obtain ⟨⟨W1, w1, _⟩, g1⟩ := rsF_app m.an _ g0 h.an.2
  obtain ⟨⟨W2, w2, _⟩, g2⟩ := rsF_app m.ns _ g1 h.ns.2
  obtain ⟨⟨W3, w3, _⟩, g3⟩ := rsF_app m.ar _ g2 h.ar.2
  obtain ⟨⟨Z, z1, _⟩, _⟩ := bgM_app h
  rw [encM_split] at hs ⊢
  have hs1 : s.data.toList = (rsF (rsF (bgM m) m.an) m.ns).1 ++ (W3 ++ Y) := by rw [hs, w3, List.append_assoc]
  have hs2 : s.data.toList = (rsF (bgM m) m.an).1 ++ (W2 ++ (W3 ++ Y)) := by rw [hs1, w2, List.append_assoc]
  have hs3 : s.data.toList = (bgM m).1 ++ (W1 ++ (W2 ++ (W3 ++ Y))) := by rw [hs2, w1, List.append_assoc]
  obtain ⟨e0, e1, e4, e6, e8, e10⟩ := hdT_enc h hok (s := s) (Y := Z ++ (W1 ++ (W2 ++ (W3 ++ Y)))) (by rw [hs3, z1, List.append_assoc])
  have t0 := qsT_put m.q (hdM m, []) _ (Good.nil _) h.q.2 hok.q hs3
  have t1 := rsT_put m.an _ _ g0 h.an.2 hok.an hs2
  have t2 := rsT_put m.ns _ _ g1 h.ns.2 hok.ns hs1
  have t3 := rsT_put m.ar _ _ g2 h.ar.2 hok.ar hs
  rw [show ((hdM m, ([] : Kn)).1.length : Int) = 12 by rw [hdM_len]; rfl] at t0
  have q0 : qP s = ((bgM m).1.length : Nat) := by show outP (qsT s (g16 s 4) 12) = _; rw [e4, t0]; rfl
  have q1 : qL s = m.q := by show outL (qsT s (g16 s 4) 12) = _; rw [e4, t0]; rfl
  have a0 : anP s = ((rsF (bgM m) m.an).1.length : Nat) := by show outP (rsT s (g16 s 6) (qP s)) = _; rw [e6, q0, t1]; rfl
  have a1 : anL s = m.an := by show outL (rsT s (g16 s 6) (qP s)) = _; rw [e6, q0, t1]; rfl
  have n0 : nsP s = ((rsF (rsF (bgM m) m.an) m.ns).1.length : Nat) := by show outP (rsT s (g16 s 8) (anP s)) = _; rw [e8, a0, t2]; rfl
  have n1 : nsL s = m.ns := by show outL (rsT s (g16 s 8) (anP s)) = _; rw [e8, a0, t2]; rfl
  have r0 : arP s = ((rsF (rsF (rsF (bgM m) m.an) m.ns) m.ar).1.length : Nat) := by show outP (rsT s (g16 s 10) (nsP s)) = _; rw [e10, n0, t3]; rfl
  have r1 : arL s = m.ar := by show outL (rsT s (g16 s 10) (nsP s)) = _; rw [e10, n0, t3]; rfl
  refine ⟨e0, ?_, e1, r0⟩
  unfold msT
  rw [e1, q1, a1, n1, r1]
theorem enc_ok {m : Ms} (h : MayM m) (hok : m.Ok) : okT ⟨(encM m).1.toArray⟩ = true ∧ msT ⟨(encM m).1.toArray⟩ = m := by
  obtain ⟨h1, h2, _, h4⟩ := enc_taken h hok (s := ⟨(encM m).1.toArray⟩) (Y := []) (by simp)
  exact ⟨okT_iff.2 ⟨h1, by rw [h4, mk_size]⟩, h2⟩
theorem enc_more {m : Ms} (h : MayM m) (hok : m.Ok) {s : ByteArray} {Y : List UInt8} (hY : Y ≠ []) (hs : s.data.toList = (encM m).1 ++ Y) : okT s = false := by
  obtain ⟨_, _, _, h4⟩ := enc_taken h hok hs
  cases hk : okT s with
  | false => rfl
  | true =>
    exfalso
    have := (okT_iff.1 hk).2
    have hl : s.size = (encM m).1.length + Y.length := by rw [← ba_len, hs, List.length_append]
    have : 0 < Y.length := List.length_pos_iff.2 hY
    omega
theorem enc_less {m : Ms} (h : MayM m) (hok : m.Ok) {s' : ByteArray} {X : List UInt8} (hX : X ≠ []) (hs : (encM m).1 = s'.data.toList ++ X) : okT s' = false := by
  cases hk : okT s' with
  | false => rfl
  | true =>
    exfalso
    obtain ⟨_, _, _, h4⟩ := enc_taken h hok (s := ⟨(encM m).1.toArray⟩) (Y := []) (by simp)
    have h5 := tk_pre (s := ⟨(encM m).1.toArray⟩) (X := X) (by simpa using hs) (tk_of hk)
    have hl : (encM m).1.length = s'.size + X.length := by rw [hs, List.length_append, ba_len]
    have : 0 < X.length := List.length_pos_iff.2 hX
    omega
/-- What is taken may be. -/
theorem Tk.may {s : ByteArray} (t : Tk s) : MayM (msT s) ∧ (msT s).Ok ∧ 5 * (msT s).q.length + 12 ≤ s.size ∧ (msT s).recs.length ≤ s.size := by
  have hz := t.size
  obtain ⟨q1, q2, q3, q4⟩ := qsT_is _ _ _ t.q
  obtain ⟨a1, a2, a3, a4⟩ := rsT_is _ _ _ t.an
  obtain ⟨n1, n2, n3, n4⟩ := rsT_is _ _ _ t.ns
  obtain ⟨r1, r2, r3, r4⟩ := rsT_is _ _ _ t.ar
  have b4 := g16_lt s 4 (by omega)
  have b6 := g16_lt s 6 (by omega)
  have b8 := g16_lt s 8 (by omega)
  have b10 := g16_lt s 10 (by omega)
  have hst := t.stop
  simp only at *
  refine ⟨⟨?_, ?_, ⟨by show (qL s).length ≤ _; omega, fun r hr => (q2 r hr).2.1⟩, ⟨by show (anL s).length ≤ _; omega, fun r hr => (a2 r hr).2⟩, ⟨by show (nsL s).length ≤ _; omega, fun r hr => (n2 r hr).2⟩, ⟨by show (arL s).length ≤ _; omega, fun r hr => (r2 r hr).2⟩⟩,
    ⟨g16_lt s 0 (by omega), fun r hr => ⟨(q2 r hr).1, (q2 r hr).2.2⟩, fun r hr => (a2 r hr).1, fun r hr => (n2 r hr).1, fun r hr => (r2 r hr).1⟩, ?_, ?_⟩
  · show (0 : Int) ≤ (g16 s 2 / 2048 % 16 : Nat) ∧ ((g16 s 2 / 2048 % 16 : Nat) : Int) ≤ 15
    omega
  · show (0 : Int) ≤ (g16 s 2 % 16 : Nat) ∧ ((g16 s 2 % 16 : Nat) : Int) ≤ 15
    omega
  · show 5 * (qL s).length + 12 ≤ _
    omega
  · unfold Ms.recs
    show (anL s ++ (nsL s ++ arL s)).length ≤ _
    rw [List.length_append, List.length_append]
    omega
end Go.Proofs.YtnakljbginbenaaGreatDoor
