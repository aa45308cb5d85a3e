/- A deed, on the program's model and the document's (written by tools/gen_emt.py). -/
import Derived.Test.YtnmgeoeppfdnhaaEmr
import Derived.Test.YtnmgeoeppfdnhaaEno
namespace Go.Proofs.Ytnmgeoeppfdnhaa.D
open Go.RowKit
set_option linter.unusedVariables false
set_option linter.unusedSimpArgs false

/-- Both models. -/
structure Bo (w : World) (h p : Nat) (room : Int) (f : Qu → Option Ev) (l : List Ev) (A : Option Addr) (cap : Nat) : Prop where
  mh : Mh w h p room (pm l) f
  sl : Sl evL w A cap l
  re : ∀ x ∈ l, Re (fun i => i = p) w x
section
variable {w w' : World} {h p : Nat} {room : Int} {f f' : Qu → Option Ev} {l : List Ev} {A : Option Addr} {cap : Nat}
theorem Bo.low (b : Bo w h p room f l A cap) (hb : Below w.heap.size w w') : Bo w' h p room f l A cap := ⟨b.mh.low hb, b.sl.below' hb, fun x hx => (b.re x hx).low hb⟩
theorem sl_far {N : Nat} (s : Sl evL w A cap l) (e : Em w p N f) : ∀ b off, A = some ⟨b, off, none⟩ → l ≠ [] → ¬ b = p := by
  intro b off hA hne hp
  obtain ⟨b', off', h1, h2, h3⟩ := s.at evL_len 0 (List.length_pos_iff.2 hne)
  rw [h1] at hA
  cases hA
  have h4 := h3 0 _ rfl
  exact e.no_cell h4 hp
/-- The program's has turned; the document's list is as it was. -/
theorem Bo.turn {m : List En} (b : Bo w h p room f l A cap) (v : Mh w' h p room m f') (hc : Ch (fun i => i = p) w w') : Sl evL w' A cap l ∧ ∀ x ∈ l, Re (fun i => i = p) w' x :=
  ⟨b.sl.ch hc (sl_far b.sl b.mh.em), fun x hx => (b.re x hx).ch hc⟩
end
/-- What a deed leaves. -/
def doL (l : List Ev) (room : Int) (D : Dd) : List Ev := if D.k = 0 then (insV l room D.x D.now).1 else if D.k = 1 then l else if D.k = 2 then dropV l D.x.e.q else leftV l D.now
theorem doL_len (l : List Ev) (room : Int) (D : Dd) : (doL l room D).length ≤ l.length + 1 := by
  unfold doL
  split
  · have h := ins_len (pm l) room D.x.e D.now
    rw [← (show pm (insV l room D.x D.now).1 = (insL (pm l) room D.x.e D.now).1 from congrArg Prod.fst (insV_pure l room D.x D.now)), pm_len, pm_len] at h
    exact h
  · split
    · omega
    · split
      · unfold dropV; exact Nat.le_trans (List.length_filter_le _ _) (by omega)
      · unfold leftV; exact Nat.le_trans (List.length_filter_le _ _) (by omega)
theorem d_all {w : World} {g : Nat} {t : TypeId} {k : Int} {x : Ev} {now : Nat} (h : Blk w g t #[.int .i64 k, .string x.e.q.n, .int .u16 (x.e.q.k : Nat), .int .u16 (x.e.q.c : Nat), .slice x.A x.e.l.length x.cap, .int .i64 x.e.rc, .int .i64 x.e.rk, .int .u64 (x.e.ex : Nat), .int .u64 (now : Nat)]) : w.cell? ⟨g, 0, none⟩ = some (.int .i64 k) ∧ w.cell? ⟨g, 1, none⟩ = some (.string x.e.q.n) ∧ w.cell? ⟨g, 2, none⟩ = some (.int .u16 (x.e.q.k : Nat)) ∧ w.cell? ⟨g, 3, none⟩ = some (.int .u16 (x.e.q.c : Nat)) ∧ w.cell? ⟨g, 4, none⟩ = some (.slice x.A x.e.l.length x.cap) ∧ w.cell? ⟨g, 5, none⟩ = some (.int .i64 x.e.rc) ∧ w.cell? ⟨g, 6, none⟩ = some (.int .i64 x.e.rk) ∧ w.cell? ⟨g, 7, none⟩ = some (.int .u64 (x.e.ex : Nat)) ∧ w.cell? ⟨g, 8, none⟩ = some (.int .u64 (now : Nat)) :=
  ⟨h.cell 0, h.cell 1, h.cell 2, h.cell 3, h.cell 4, h.cell 5, h.cell 6, h.cell 7, h.cell 8⟩
theorem lookV_re {X : Nat → Prop} {w : World} {l : List Ev} (h : ∀ x ∈ l, Re X w x) (q : Qu) (now : Nat) : Re X w (lookV l q now).1 := by
  unfold lookV
  split
  · rename_i k hk
    split
    · have hl := (find_lt hk).1
      have e : l.getD k default = l[k] := by simp [hl]
      rw [e]
      exact h _ (List.getElem_mem hl)
    · exact Re.zero X w
  · exact Re.zero X w
/-- What is asked of a deed's answer. -/
def DoR (h p : Nat) (room : Int) (l' : List Ev) (w : World) (e : Ending) (w' : World) : Prop := ∃ f' A' cap', e = .returned (.tuple #[.slice A' l'.length cap', .bool true]) ∧ Bo w' h p room f' l' A' cap' ∧ Ch (fun i => i = p) w w'
set_option maxRecDepth 100000 in
set_option maxHeartbeats 4000000 in
theorem do_0 {w : World} {h p : Nat} {room : Int} {f : Qu → Option Ev} {l : List Ev} {A : Option Addr} {cap : Nat} (b : Bo w h p room f l A cap) (hl : l.length ≤ 900) (x : Ev) (now : Nat) (hx : Re (fun i => i = p) w x) : Calls Try.prog 12 #[.pointer (some ⟨h, 0, none⟩), .slice A l.length cap, .int .i64 room, .agg #[.int .i64 0, .string x.e.q.n, .int .u16 (x.e.q.k : Nat), .int .u16 (x.e.q.c : Nat), .slice x.A x.e.l.length x.cap, .int .i64 x.e.rc, .int .i64 x.e.rk, .int .u64 (x.e.ex : Nat), .int .u64 (now : Nat)]] w (DoR h p room ((insV l room x now).1) w) := by
  unfold DoR
  have hb := (Below.refl w.heap.size w).alloc (Nat.le_refl _) (Obj.cells #[.int .i64 0, .string x.e.q.n, .int .u16 (x.e.q.k : Nat), .int .u16 (x.e.q.c : Nat), .slice x.A x.e.l.length x.cap, .int .i64 x.e.rc, .int .i64 x.e.rk, .int .u64 (x.e.ex : Nat), .int .u64 (now : Nat)] 37)
  have HD := Lib.hid (And.intro (Blk.new w 37 #[.int .i64 0, .string x.e.q.n, .int .u16 (x.e.q.k : Nat), .int .u16 (x.e.q.c : Nat), .slice x.A x.e.l.length x.cap, .int .i64 x.e.rc, .int .i64 x.e.rk, .int .u64 (x.e.ex : Nat), .int .u64 (now : Nat)]) hb)
  have b1 := b.low hb
  have x1 := hx.low hb
  have hp := insV_pure l room x now
  have hI := ins_any x now b1.mh (by rw [pm_len]; omega) x1
  obtain ⟨c, hc⟩ : ∃ c, (insL (pm l) room x.e now).2 = c := ⟨_, rfl⟩
  have hc2 : (insV l room x now).2 = c := by rw [← hc]; exact congrArg Prod.snd hp
  have hp1 : pm (insV l room x now).1 = (insL (pm l) room x.e now).1 := congrArg Prod.fst hp
  rw [hc, evV_eq] at hI
  have HI := Lib.hid hI
  have HJ := Lib.hid (fun (W : World) (s : Sl evL W A cap l) => rins_any A cap l (by omega) room x now W s)
  simp only [hc2] at HJ
  unfold evL at HJ
  have HB := Lib.hid (And.intro b1 x1)
  have HP := Lib.hid hp1
  have HM := Lib.hid (fun y (hy : y ∈ (insV l room x now).1) => insV_mem hy)
  clear hI hc hc2 hp hp1 b1 x1 b hx hb
  generalize (insV l room x now).1 = l' at *
  generalize (insL (pm l) room x.e now).1 = m' at *
  go_enter Try.func12, Try.ntmps12
  go_upto_region 1 with (fail)
  generalize w.alloc (Obj.cells #[.int .i64 0, .string x.e.q.n, .int .u16 (x.e.q.k : Nat), .int .u16 (x.e.q.c : Nat), .slice x.A x.e.l.length x.cap, .int .i64 x.e.rc, .int .i64 x.e.rk, .int .u64 (x.e.ex : Nat), .int .u64 (now : Nat)] 37) = w1 at *
  obtain ⟨z0, z1, z2, z3, z4, z5, z6, z7, z8⟩ := d_all (k := 0) (x := x) (now := now) HD.out.1
  go_upto_region 4 with (go_at_call 18; (with_reducible (refine (HI.out).mono ?_)); rintro e w2 ⟨f2, rfl, v2, c2⟩; have HV2 := Lib.hid (And.intro v2 (And.intro c2 (And.intro (HB.out.1.turn v2 c2) (HD.out.1.ch c2 (fun e => HB.out.1.mh.em.no_cell z0 e))))); clear v2 c2)
  clear z0 z1 z2 z3 z4 z5 z6 z7 z8
  obtain ⟨z0, z1, z2, z3, z4, z5, z6, z7, z8⟩ := d_all (k := 0) (x := x) (now := now) HV2.out.2.2.2
  have HJ2 := Lib.hid (HJ.out w2 HV2.out.2.2.1.1)
  clear HJ
  go_upto_region 5 with (go_at_call 23; (with_reducible (refine (HJ2.out).mono ?_)); rintro e w3 ⟨A', cap', rfl, s3, hb3⟩; have HV3 := Lib.hid (And.intro s3 hb3); clear s3 hb3)
  clear z0 z1 z2 z3 z4 z5 z6 z7 z8
  have hv3 := HV2.out.1.low HV3.out.2
  rw [← HP.out] at hv3
  have hc3 : Ch (fun i => i = p) w w3 := ((Ch.bel HD.out.2).trans HV2.out.2.1).below HV3.out.2
  have hx3 : Re (fun i => i = p) w3 x := ((HB.out.2).ch HV2.out.2.1).low HV3.out.2
  have HF := Lib.hid (And.intro (show Bo w3 h p room f2 l' A' cap' from ⟨hv3, HV3.out.1, fun y hy => by
    rcases HM.out y hy with h1 | h1
    · subst h1; exact hx3
    · exact (HV2.out.2.2.1.2 y h1).low HV3.out.2⟩) hc3)
  clear hv3 hc3 hx3
  go_wp2_with fail
  go_ret2
  exact ⟨f2, A', cap', rfl, HF.out⟩
set_option maxRecDepth 100000 in
set_option maxHeartbeats 4000000 in
theorem do_1 {w : World} {h p : Nat} {room : Int} {f : Qu → Option Ev} {l : List Ev} {A : Option Addr} {cap : Nat} (b : Bo w h p room f l A cap) (hl : l.length ≤ 900) (x : Ev) (now : Nat) (hx : Re (fun i => i = p) w x) : Calls Try.prog 12 #[.pointer (some ⟨h, 0, none⟩), .slice A l.length cap, .int .i64 room, .agg #[.int .i64 1, .string x.e.q.n, .int .u16 (x.e.q.k : Nat), .int .u16 (x.e.q.c : Nat), .slice x.A x.e.l.length x.cap, .int .i64 x.e.rc, .int .i64 x.e.rk, .int .u64 (x.e.ex : Nat), .int .u64 (now : Nat)]] w (DoR h p room (l) w) := by
  unfold DoR
  have hb := (Below.refl w.heap.size w).alloc (Nat.le_refl _) (Obj.cells #[.int .i64 1, .string x.e.q.n, .int .u16 (x.e.q.k : Nat), .int .u16 (x.e.q.c : Nat), .slice x.A x.e.l.length x.cap, .int .i64 x.e.rc, .int .i64 x.e.rk, .int .u64 (x.e.ex : Nat), .int .u64 (now : Nat)] 37)
  have HD := Lib.hid (And.intro (Blk.new w 37 #[.int .i64 1, .string x.e.q.n, .int .u16 (x.e.q.k : Nat), .int .u16 (x.e.q.c : Nat), .slice x.A x.e.l.length x.cap, .int .i64 x.e.rc, .int .i64 x.e.rk, .int .u64 (x.e.ex : Nat), .int .u64 (now : Nat)]) hb)
  have b1 := b.low hb
  have x1 := hx.low hb
  have hp := lookV_pure l x.e.q now
  have hI := look_any x.e.q hx.q now b1.mh
  have hJ := fun (W : World) (s : Sl evL W A cap l) => rlook_any A cap l (by omega) x.e.q now W s
  rw [← (show (lookV l x.e.q now).1.e = (lookL (pm l) x.e.q now).1 from congrArg Prod.fst hp), ← (show (lookV l x.e.q now).2 = (lookL (pm l) x.e.q now).2 from congrArg Prod.snd hp)] at hI
  have hy := lookV_re b1.re x.e.q now
  generalize (lookV l x.e.q now).1 = y at *
  generalize (lookV l x.e.q now).2 = bb at *
  simp only [evV_eq] at hI hJ
  unfold qV at hI
  have HI := Lib.hid hI
  have HJ := Lib.hid hJ
  have HB := Lib.hid (And.intro b1 hy)
  have HSm := Lib.hid (fun (A1 : Option Addr) (c1 : Nat) (W : World) s1 s2 => same_yes y.e A1 c1 y.A y.cap hy.sm W s1 s2)
  clear hI hJ hp b1 x1 b hb hy
  go_enter Try.func12, Try.ntmps12
  go_upto_region 1 with (fail)
  generalize w.alloc (Obj.cells #[.int .i64 1, .string x.e.q.n, .int .u16 (x.e.q.k : Nat), .int .u16 (x.e.q.c : Nat), .slice x.A x.e.l.length x.cap, .int .i64 x.e.rc, .int .i64 x.e.rk, .int .u64 (x.e.ex : Nat), .int .u64 (now : Nat)] 37) = w1 at *
  obtain ⟨z0, z1, z2, z3, z4, z5, z6, z7, z8⟩ := d_all (k := 1) (x := x) (now := now) HD.out.1
  go_upto_region 8 with (first | (refine wpList_store_row rfl 35 _ _ rfl (w2.heap.size) (evL ⟨y.e, A1, c1⟩).toArray rfl rfl 35 _ HNw.out (infoEa _) rfl (evL_one _) ?_) | (go_at_call 17; (with_reducible (refine (HI.out).mono ?_)); rintro e w2 ⟨A1, c1, rfl, s1, n1, hb2⟩; have HV2 := Lib.hid (And.intro s1 (And.intro n1 hb2)); have HNw := Lib.hid (Blk.new w2 35 zE); unfold zE at HNw; clear s1 n1 hb2))
  clear z0 z1 z2 z3 z4 z5 z6 z7 z8
  obtain ⟨k3, b3⟩ := box_of w2 ⟨y.e, A1, c1⟩
  have hb3 := HV2.out.2.2.trans (b3.mono HV2.out.2.2.size)
  have HV3 := Lib.hid (And.intro k3 (And.intro (HV2.out.1.below' b3) (And.intro hb3 (HD.out.1.eq (hb3.block _ HD.out.1.lt)))))
  unfold zE at HV3
  clear k3 b3 hb3 HNw HI
  generalize (w2.alloc (Obj.cells #[.string ⟨#[]⟩, .int .u16 0, .int .u16 0, .slice none 0 0, .int .i64 0, .int .i64 0, .int .u64 0] 35)).setRow w2.heap.size (evL ⟨y.e, A1, c1⟩).toArray = w3 at *
  generalize w2.heap.size = r2 at *
  obtain ⟨z0, z1, z2, z3, z4, z5, z6, z7, z8⟩ := d_all (k := 1) (x := x) (now := now) HV3.out.2.2.2
  have HJ3 := Lib.hid (HJ.out w3 (HB.out.1.sl.below' HV3.out.2.2.1))
  clear HJ
  go_upto_region 9 with (first | (refine wpList_store_row rfl 35 _ _ rfl (w4.heap.size) (evL y).toArray rfl rfl 35 _ HNw.out (infoEa _) rfl (evL_one _) ?_) | (go_at_call 24; (with_reducible (refine (HJ3.out).mono ?_)); rintro e w4 ⟨rfl, hb4⟩; have HB4 := Lib.hid hb4; have HNw := Lib.hid (Blk.new w4 35 zE); unfold zE at HNw; clear hb4))
  clear z0 z1 z2 z3 z4 z5 z6 z7 z8
  obtain ⟨k5, b5⟩ := box_of w4 y
  have hb5 := HB4.out.trans (b5.mono HB4.out.size)
  have HV5 := Lib.hid (And.intro (HV3.out.1.eq (hb5.block _ HV3.out.1.lt)) (And.intro k5 (And.intro (HV3.out.2.1.below' hb5) (HV3.out.2.2.1.trans (hb5.mono HV3.out.2.2.1.size)))))
  unfold zE at HV5
  clear k5 b5 hb5 HNw HJ3 HB4 HV3 HV2
  generalize (w4.alloc (Obj.cells #[.string ⟨#[]⟩, .int .u16 0, .int .u16 0, .slice none 0 0, .int .i64 0, .int .i64 0, .int .u64 0] 35)).setRow w4.heap.size (evL y).toArray = w5 at *
  generalize w4.heap.size = r4 at *
  have HS5 := Lib.hid (HSm.out A1 c1 w5 HV5.out.2.2.1 (HB.out.2.low HV5.out.2.2.2).sl)
  clear HSm
  go_wp2_with (first | (refine wpList_load_row rfl 35 _ rfl (r2) rfl 35 _ _ _ HV5.out.1 Try.underlying35 rfl infoE ?_) | (refine wpList_load_row rfl 35 _ rfl (r4) rfl 35 _ _ _ HV5.out.2.1 Try.underlying35 rfl infoE ?_) | (go_at_call 19; (with_reducible (refine (HS5.out).mono ?_)); rintro e w6 ⟨rfl, hb6⟩; have HB6 := Lib.hid (HV5.out.2.2.2.trans (hb6.mono HV5.out.2.2.2.size)); clear hb6))
  have HF := Lib.hid (And.intro (HB.out.1.low HB6.out) ((Ch.bel HD.out.2 : Ch (fun i => i = p) w w1).below HB6.out))
  go_ret2
  exact ⟨f, A, cap, by simp, HF.out⟩
set_option maxRecDepth 100000 in
set_option maxHeartbeats 4000000 in
theorem do_2 {w : World} {h p : Nat} {room : Int} {f : Qu → Option Ev} {l : List Ev} {A : Option Addr} {cap : Nat} (b : Bo w h p room f l A cap) (hl : l.length ≤ 900) (x : Ev) (now : Nat) (hx : Re (fun i => i = p) w x) : Calls Try.prog 12 #[.pointer (some ⟨h, 0, none⟩), .slice A l.length cap, .int .i64 room, .agg #[.int .i64 2, .string x.e.q.n, .int .u16 (x.e.q.k : Nat), .int .u16 (x.e.q.c : Nat), .slice x.A x.e.l.length x.cap, .int .i64 x.e.rc, .int .i64 x.e.rk, .int .u64 (x.e.ex : Nat), .int .u64 (now : Nat)]] w (DoR h p room (dropV l x.e.q) w) := by
  unfold DoR
  have hb := (Below.refl w.heap.size w).alloc (Nat.le_refl _) (Obj.cells #[.int .i64 2, .string x.e.q.n, .int .u16 (x.e.q.k : Nat), .int .u16 (x.e.q.c : Nat), .slice x.A x.e.l.length x.cap, .int .i64 x.e.rc, .int .i64 x.e.rk, .int .u64 (x.e.ex : Nat), .int .u64 (now : Nat)] 37)
  have HD := Lib.hid (And.intro (Blk.new w 37 #[.int .i64 2, .string x.e.q.n, .int .u16 (x.e.q.k : Nat), .int .u16 (x.e.q.c : Nat), .slice x.A x.e.l.length x.cap, .int .i64 x.e.rc, .int .i64 x.e.rk, .int .u64 (x.e.ex : Nat), .int .u64 (now : Nat)]) hb)
  have b1 := b.low hb
  have x1 := hx.low hb
  have hI := drop_any x.e.q hx.q b1.mh
  have hJ := fun (W : World) (s : Sl evL W A cap l) => rdrop_any A cap l (by omega) x.e.q W s
  have hlen : decide ((dropV l x.e.q).length < l.length) = (entL (pm l) x.e.q).isSome := by
    have h1 := drop_len b.mh.ok x.e.q
    rw [← dropV_pure, pm_len, pm_len] at h1
    cases hs : (entL (pm l) x.e.q).isSome with
    | true => rw [hs] at h1; simp at h1 ⊢; omega
    | false => rw [hs] at h1; simp at h1 ⊢; omega
  simp only [hlen] at hJ
  rw [← dropV_pure] at hI
  have HM := Lib.hid (fun y (hy : y ∈ dropV l x.e.q) => (List.mem_filter.1 hy).1)
  generalize (entL (pm l) x.e.q).isSome = bb at *
  unfold qV at hI
  have HI := Lib.hid hI
  have HJ := Lib.hid hJ
  have HB := Lib.hid b1
  clear hI hJ hlen b1 x1 b hb
  generalize dropV l x.e.q = l' at *
  go_enter Try.func12, Try.ntmps12
  go_upto_region 1 with (fail)
  generalize w.alloc (Obj.cells #[.int .i64 2, .string x.e.q.n, .int .u16 (x.e.q.k : Nat), .int .u16 (x.e.q.c : Nat), .slice x.A x.e.l.length x.cap, .int .i64 x.e.rc, .int .i64 x.e.rk, .int .u64 (x.e.ex : Nat), .int .u64 (now : Nat)] 37) = w1 at *
  obtain ⟨z0, z1, z2, z3, z4, z5, z6, z7, z8⟩ := d_all (k := 2) (x := x) (now := now) HD.out.1
  go_upto_region 12 with (go_at_call 20; (with_reducible (refine (HI.out).mono ?_)); rintro e w2 ⟨f2, rfl, v2, c2⟩; have HV2 := Lib.hid (And.intro v2 (And.intro c2 (And.intro (HB.out.turn v2 c2) (HD.out.1.ch c2 (fun e => HB.out.mh.em.no_cell z0 e))))); clear v2 c2)
  clear z0 z1 z2 z3 z4 z5 z6 z7 z8
  obtain ⟨z0, z1, z2, z3, z4, z5, z6, z7, z8⟩ := d_all (k := 2) (x := x) (now := now) HV2.out.2.2.2
  have HJ2 := Lib.hid (HJ.out w2 HV2.out.2.2.1.1)
  clear HJ
  go_upto_region 13 with (go_at_call 25; (with_reducible (refine (HJ2.out).mono ?_)); rintro e w3 ⟨A', cap', rfl, s3, n3, hb3⟩; have HV3 := Lib.hid (And.intro s3 hb3); clear s3 n3 hb3)
  clear z0 z1 z2 z3 z4 z5 z6 z7 z8
  have hc3 : Ch (fun i => i = p) w w3 := ((Ch.bel HD.out.2).trans HV2.out.2.1).below HV3.out.2
  have HF := Lib.hid (And.intro (show Bo w3 h p room f2 l' A' cap' from ⟨HV2.out.1.low HV3.out.2, HV3.out.1, fun y hy => (HV2.out.2.2.1.2 y (HM.out y hy)).low HV3.out.2⟩) hc3)
  clear hc3
  go_wp2_with fail
  go_ret2
  exact ⟨f2, A', cap', by simp, HF.out⟩
set_option maxRecDepth 100000 in
set_option maxHeartbeats 4000000 in
theorem do_3 {w : World} {h p : Nat} {room : Int} {f : Qu → Option Ev} {l : List Ev} {A : Option Addr} {cap : Nat} (b : Bo w h p room f l A cap) (hl : l.length ≤ 900) (k : Int) (g0 : (k == 0) = false) (g1 : (k == 1) = false) (g2 : (k == 2) = false) (x : Ev) (now : Nat) (hx : Re (fun i => i = p) w x) : Calls Try.prog 12 #[.pointer (some ⟨h, 0, none⟩), .slice A l.length cap, .int .i64 room, .agg #[.int .i64 k, .string x.e.q.n, .int .u16 (x.e.q.k : Nat), .int .u16 (x.e.q.c : Nat), .slice x.A x.e.l.length x.cap, .int .i64 x.e.rc, .int .i64 x.e.rk, .int .u64 (x.e.ex : Nat), .int .u64 (now : Nat)]] w (DoR h p room (leftV l now) w) := by
  unfold DoR
  have hb := (Below.refl w.heap.size w).alloc (Nat.le_refl _) (Obj.cells #[.int .i64 k, .string x.e.q.n, .int .u16 (x.e.q.k : Nat), .int .u16 (x.e.q.c : Nat), .slice x.A x.e.l.length x.cap, .int .i64 x.e.rc, .int .i64 x.e.rk, .int .u64 (x.e.ex : Nat), .int .u64 (now : Nat)] 37)
  have HD := Lib.hid (And.intro (Blk.new w 37 #[.int .i64 k, .string x.e.q.n, .int .u16 (x.e.q.k : Nat), .int .u16 (x.e.q.c : Nat), .slice x.A x.e.l.length x.cap, .int .i64 x.e.rc, .int .i64 x.e.rk, .int .u64 (x.e.ex : Nat), .int .u64 (now : Nat)]) hb)
  have b1 := b.low hb
  have x1 := hx.low hb
  have hI := due_any now b1.mh (by rw [pm_len]; omega)
  have HJ := Lib.hid (fun (W : World) (s : Sl evL W A cap l) => rdue_any A cap l (by omega) now W s)
  rw [← leftV_pure] at hI
  have HG := Lib.hid (show (goneL (pm l) now).length ≤ 1000 by have := gone_len (pm l) now; rw [pm_len] at this; omega)
  have HM := Lib.hid (fun y (hy : y ∈ leftV l now) => (List.mem_filter.1 hy).1)
  have HI := Lib.hid hI
  have HB := Lib.hid b1
  clear hI b1 x1 b hb
  change Hid (∀ (W : World) (s : Sl evL W A cap l), Calls Try.prog 26 #[.slice A l.length cap, .int .u64 (now : Nat)] W fun e w' => ∃ A1 c1 A2 c2, e = .returned (.tuple #[.slice A1 (leftV l now).length c1, .slice A2 (goneL (pm l) now).length c2]) ∧ Sl evL w' A1 c1 (leftV l now) ∧ Sl qf w' A2 c2 (goneL (pm l) now) ∧ Below W.heap.size W w') at HJ
  generalize leftV l now = l' at *
  generalize goneL (pm l) now = gq at *
  go_enter Try.func12, Try.ntmps12
  go_upto_region 1 with (fail)
  generalize w.alloc (Obj.cells #[.int .i64 k, .string x.e.q.n, .int .u16 (x.e.q.k : Nat), .int .u16 (x.e.q.c : Nat), .slice x.A x.e.l.length x.cap, .int .i64 x.e.rc, .int .i64 x.e.rk, .int .u64 (x.e.ex : Nat), .int .u64 (now : Nat)] 37) = w1 at *
  obtain ⟨z0, z1, z2, z3, z4, z5, z6, z7, z8⟩ := d_all (k := k) (x := x) (now := now) HD.out.1
  go_upto_region 15 with (go_at_call 21; (with_reducible (refine (HI.out).mono ?_)); rintro e w2 ⟨f2, A1, c1, rfl, s2, n2, v2, c2⟩; have HV2 := Lib.hid (And.intro v2 (And.intro c2 (And.intro (HB.out.turn v2 c2) (And.intro (HD.out.1.ch c2 (fun e => HB.out.mh.em.no_cell z0 e)) s2)))); clear v2 c2 s2 n2)
  clear z0 z1 z2 z3 z4 z5 z6 z7 z8
  obtain ⟨z0, z1, z2, z3, z4, z5, z6, z7, z8⟩ := d_all (k := k) (x := x) (now := now) HV2.out.2.2.2.1
  have HJ2 := Lib.hid (HJ.out w2 HV2.out.2.2.1.1)
  clear HJ
  go_upto_region 16 with (go_at_call 26; (with_reducible (refine (HJ2.out).mono ?_)); rintro e w3 ⟨A', cap', A3, c3, rfl, s3, t3, hb3⟩; have HV3 := Lib.hid (And.intro s3 (And.intro t3 hb3)); clear s3 t3 hb3)
  clear z0 z1 z2 z3 z4 z5 z6 z7 z8
  have hc3 : Ch (fun i => i = p) w w3 := ((Ch.bel HD.out.2).trans HV2.out.2.1).below HV3.out.2.2
  have HF := Lib.hid (And.intro (show Bo w3 h p room f2 l' A' cap' from ⟨HV2.out.1.low HV3.out.2.2, HV3.out.1, fun y hy => (HV2.out.2.2.1.2 y (HM.out y hy)).low HV3.out.2.2⟩) hc3)
  have HAs := Lib.hid (asks_yes A1 c1 A3 c3 gq HG.out w3 (HV2.out.2.2.2.2.below' HV3.out.2.2) HV3.out.2.1)
  clear hc3
  go_wp2_with ((go_at_call 27; (with_reducible (refine (HAs.out).mono ?_)); rintro e w4 ⟨rfl, hb4⟩; have HF4 := Lib.hid (And.intro (HF.out.1.low hb4) (HF.out.2.below hb4)); clear hb4))
  go_ret2
  exact ⟨f2, A', cap', rfl, HF4.out⟩
theorem do_any {w : World} {h p : Nat} {room : Int} {f : Qu → Option Ev} {l : List Ev} {A : Option Addr} {cap : Nat} (b : Bo w h p room f l A cap) (hl : l.length ≤ 900) (D : Dd) (hx : Re (fun i => i = p) w D.x) :
    Calls Try.prog 12 #[.pointer (some ⟨h, 0, none⟩), .slice A l.length cap, .int .i64 room, .agg (df D).toArray] w (DoR h p room (doL l room D) w) := by
  obtain ⟨k, x, now⟩ := D
  unfold doL
  by_cases k0 : k = 0
  · subst k0
    exact do_0 b hl x now hx
  · by_cases k1 : k = 1
    · subst k1
      exact do_1 b hl x now hx
    · by_cases k2 : k = 2
      · subst k2
        exact do_2 b hl x now hx
      · simp only [if_neg k0, if_neg k1, if_neg k2]
        exact do_3 b hl k (by simpa using k0) (by simpa using k1) (by simpa using k2) x now hx
end Go.Proofs.Ytnmgeoeppfdnhaa.D
