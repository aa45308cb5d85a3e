/- Joined texts: Vda Vde Vdi Vdn Vds Vdp. -/
import Derived.Test.YtnmgeoeppfdnhaaBqa
import Derived.RegionTactic
import Derived.Deep.DeepCutAuto
import Derived.Below
import Derived.Laws.Rows
import Derived.Laws.Tables
import Derived.Deep.RegionHeld3
import Derived.Deep.RegionHeld
import Derived.Deep.RegionLawGrows
import Derived.Deep.AppendLies
import Derived.Laws.StructEq
import Derived.BigQuiet

/- The document's shard in memory (written by tools/gen_vd.py). -/
namespace Go.Proofs.Ytnmgeoeppfdnhaa.D
open Go.RowKit
set_option linter.unusedVariables false

def xsV (c : List (Ce Ev)) : List Value := c.flatMap fun e => evL e.x
theorem xf_len (e : Ce Ev) : (evL e.x).length = 7 := rfl
def usV (c : List (Ce Ev)) : List Value := c.map fun e => .bool e.u
def tsV (c : List (Ce Ev)) : List Value := c.map fun e => .bool e.t
/-- Where the three slices lie. -/
structure Dv where
  gx : Nat
  cx : Nat
  gu : Nat
  cu : Nat
  gt : Nat
  ct : Nat
structure Dw (B : Nat) (w : World) (d : Dv) (c : List (Ce Ev)) : Prop where
  ox : w.ownsRow B 35 7 (.slice (some ⟨d.gx, 0, none⟩) c.length d.cx) c.length (xsV c)
  ou : w.ownsRow B 4 1 (.slice (some ⟨d.gu, 0, none⟩) c.length d.cu) c.length (usV c)
  ot : w.ownsRow B 4 1 (.slice (some ⟨d.gt, 0, none⟩) c.length d.ct) c.length (tsV c)
  ne : d.gu ≠ d.gt
def Dv.cs (d : Dv) (n h : Nat) : Array Value := #[.slice (some ⟨d.gx, 0, none⟩) n d.cx, .slice (some ⟨d.gu, 0, none⟩) n d.cu, .slice (some ⟨d.gt, 0, none⟩) n d.ct, .int .i64 (h : Nat)]
/-- The value of the document's slots. -/
def dV (d : Dv) (M : Ms Ev) : Value := .agg (d.cs M.c.length M.h)
theorem dV_eq (d : Dv) (M : Ms Ev) : dV d M = .agg #[.slice (some ⟨d.gx, 0, none⟩) M.c.length d.cx, .slice (some ⟨d.gu, 0, none⟩) M.c.length d.cu, .slice (some ⟨d.gt, 0, none⟩) M.c.length d.ct, .int .i64 (M.h : Nat)] := rfl
theorem Dw.below {B : Nat} {w w' : World} {d : Dv} {c : List (Ce Ev)} (h : Dw B w d c) (hb : Below w.heap.size w w') : Dw B w' d c := ⟨ownR_below h.ox hb, ownR_below h.ou hb, ownR_below h.ot hb, h.ne⟩
theorem own_eq {w w' : World} {B : Nat} {e : TypeId} {k g n cap : Nat} {xs : List Value} (h : w.ownsRow B e k (.slice (some ⟨g, 0, none⟩) n cap) n xs) (hg : w'.heap[g]? = w.heap[g]?) : w'.ownsRow B e k (.slice (some ⟨g, 0, none⟩) n cap) n xs := by
  refine ⟨h.1, ?_⟩
  rcases h.2 with ⟨h1, _⟩ | ⟨g', cap', cur, h1, h2, h3, h4⟩
  · cases h1
  · cases h1; exact .inr ⟨g, cap, cur, rfl, h2, hg.trans h3, h4⟩
theorem own_base {w : World} {B : Nat} {e : TypeId} {k g n cap : Nat} {xs : List Value} (h : w.ownsRow B e k (.slice (some ⟨g, 0, none⟩) n cap) n xs) : B ≤ g ∧ g < w.heap.size := by
  rcases h.2 with ⟨h1, _⟩ | ⟨g', cap', cur, h1, h2, h3, h4⟩
  · cases h1
  · cases h1; exact ⟨h2, heap_lt h3⟩
theorem own_blk {w : World} {B : Nat} {e : TypeId} {k g n cap : Nat} {xs : List Value} (h : w.ownsRow B e k (.slice (some ⟨g, 0, none⟩) n cap) n xs) : ∃ cur, Blk w g e cur := by
  rcases h.2 with ⟨h1, _⟩ | ⟨g', cap', cur, h1, h2, h3, h4⟩
  · cases h1
  · cases h1; exact ⟨cur, h3⟩
theorem own_mono {w : World} {B B' : Nat} {e : TypeId} {k : Nat} {v : Value} {n : Nat} {xs : List Value} (h : w.ownsRow B e k v n xs) (hB : B' ≤ B) : w.ownsRow B' e k v n xs := by
  refine ⟨h.1, ?_⟩
  rcases h.2 with h1 | ⟨g, cap, cur, h1, h2, h3, h4⟩
  · exact .inl h1
  · exact .inr ⟨g, cap, cur, h1, by omega, h3, h4⟩
/-- What a deed of the program's leaves: the document's slots, which lie above. -/
theorem Dw.ch {X : Nat → Prop} {B : Nat} {w w' : World} {d : Dv} {c : List (Ce Ev)} (h : Dw B w d c) (hc : Ch X w w') (hX : ∀ i, X i → i < B) : Dw B w' d c :=
  ⟨ownR_ch h.ox hc hX, ownR_ch h.ou hc hX, ownR_ch h.ot hc hX, h.ne⟩
theorem Dw.mono {B B' : Nat} {w : World} {d : Dv} {c : List (Ce Ev)} (h : Dw B w d c) (hB : B' ≤ B) : Dw B' w d c := ⟨own_mono h.ox hB, own_mono h.ou hB, own_mono h.ot hB, h.ne⟩
theorem xsV_at (c : List (Ce Ev)) (k i : Nat) (hk : k < c.length) (hi : i < 7) : (xsV c)[k * 7 + i]? = (evL (c.getD k Z0).x)[i]? := by
  unfold xsV
  rw [flat_at xf_len c k i hk hi]
  simp [hk]
theorem xsV_len (c : List (Ce Ev)) : (xsV c).length = c.length * 7 := flat_len xf_len c
theorem usV_at (c : List (Ce Ev)) (k : Nat) (hk : k < c.length) : (usV c)[k]? = some (.bool (us c k)) := by simp [usV, us, hk]
theorem tsV_at (c : List (Ce Ev)) (k : Nat) (hk : k < c.length) : (tsV c)[k]? = some (.bool (ts c k)) := by simp [tsV, ts, hk]
section
variable {B : Nat} {w : World} {d : Dv} {c : List (Ce Ev)}
theorem Dw.e0 (h : Dw B w d c) {k : Nat} (hk : k < c.length) : w.rangeAt d.gx (k * 7) (evL (c.getD k Z0).x) := fun j u hj => by
  have hl := (List.getElem?_eq_some_iff.1 hj).1
  rw [evL_len] at hl
  rw [h.ox.cellAt _ (by omega), xsV_at c k j hk hl]
  exact hj
theorem Dw.e1 (h : Dw B w d c) {k : Nat} (hk : k < c.length) : w.cell? ⟨d.gu, k, none⟩ = some (.bool (us c k)) := (h.ou.cellAt k (by omega)).trans (usV_at c k hk)
theorem Dw.e2 (h : Dw B w d c) {k : Nat} (hk : k < c.length) : w.cell? ⟨d.gt, k, none⟩ = some (.bool (ts c k)) := (h.ot.cellAt k (by omega)).trans (tsV_at c k hk)
end
theorem results_cell_tmp2 {fn : Func} {p q r : Tmp} {ty : TypeId} (h : fn.results = #[.cell p ty, .tmp q, .tmp r]) (tmps : Array Value) (P : Program) (w : World) :
    (results fn tmps).run P w =
      ((asAddr (tmps.getD p undef)).run P w).andThen fun a w₁ => ((loadVar ty a).run P w₁).andThen fun v w₂ => .ok (.tuple #[v, tmps.getD q undef, tmps.getD r undef]) w₂ := by
  simp only [results, h]
  simp [Sem.run_bind, Result.andThen]
theorem own_keep {w w' : World} {B : Nat} {e : TypeId} {k : Nat} {v : Value} {n : Nat} {xs : List Value} (h : w.ownsRow B e k v n xs) (hk : ∀ g, v.ownBlock = some g → w'.heap[g]? = w.heap[g]?) : w'.ownsRow B e k v n xs := by
  refine ⟨h.1, ?_⟩
  rcases h.2 with h1 | ⟨g, cap, cur, h1, h2, h3, h4⟩
  · exact .inl h1
  · exact .inr ⟨g, cap, cur, h1, h2, (hk g (by rw [h1]; rfl)).trans h3, h4⟩
theorem own_at {w : World} {B : Nat} {e : TypeId} {k : Nat} {v : Value} {n : Nat} {xs : List Value} (h : w.ownsRow B e k v n xs) {g : Nat} (hg : v.ownBlock = some g) : g < w.heap.size ∧ ∃ cur, Blk w g e cur := by
  rcases h.2 with ⟨h1, _⟩ | ⟨g', cap, cur, h1, h2, h3, h4⟩
  · rw [h1] at hg; cases hg
  · rw [h1] at hg
    have : g' = g := by simpa [Value.ownBlock] using hg
    subst this
    exact ⟨heap_lt h3, cur, h3⟩
theorem own_type {w : World} {B : Nat} {e t : TypeId} {k p : Nat} {v : Value} {n : Nat} {xs : List Value} {cs : Array Value} (h : w.ownsRow B e k v n xs) (hb : Blk w p t cs) (hne : e ≠ t) {g : Nat} (hg : v.ownBlock = some g) : g ≠ p := by
  intro he
  subst he
  obtain ⟨_, cur, hc⟩ := own_at h hg
  unfold Blk at hb hc
  rw [hc] at hb
  cases hb
  exact hne rfl
theorem own_two {w : World} {B B' : Nat} {e t : TypeId} {k k' : Nat} {v v' : Value} {n n' : Nat} {xs xs' : List Value} (h : w.ownsRow B e k v n xs) (h' : w.ownsRow B' t k' v' n' xs') (hne : e ≠ t) {g : Nat} (hg : v.ownBlock = some g) : v'.ownBlock ≠ some g := by
  intro he
  obtain ⟨_, cur, hc⟩ := own_at h' he
  exact own_type h hc hne hg rfl
def zD : Array Value := #[.slice none 0 0, .slice none 0 0, .slice none 0 0, .int .i64 0]
section
variable {B p r : Nat} {rs : Array Value} {w w' : World} {hh : Nat} {vX vU vT : Value} {nX nU nT : Nat} {xs us ts : List Value}
end
theorem elT : (Try.prog.info? 35).map (fun i => (i.zero, i.size, i.bytes)) = some (some (evV default), 7, 72) := by kernel_rfl
theorem elB : (Try.prog.info? 4).map (fun i => (i.zero, i.size, i.bytes)) = some (some (.bool false), 1, 1) := by kernel_rfl
theorem newV (W : World) (e : TypeId) (u : Value) : ∀ j x, ([u] : List Value)[j]? = some x → (W.alloc (.cells #[u] e)).cell? ((⟨W.heap.size, 0, none⟩ : Addr).add j) = some x := fun j x hj => by
  have h := heap_alloc_new W (Obj.cells #[u] e)
  rw [Addr.add_lit, Nat.zero_add, blk_cell h j, ← hj]
  simp
theorem setRow_below {B g : Nat} {w0 w : World} (hb : Below B w0 w) (hBg : B ≤ g) (cs : Array Value) : Below B w0 (w.setRow g cs) :=
  ⟨hb.os, hb.tape, hb.output, by rw [setRow_size]; exact hb.size, fun k hk => by rw [setRow_other w g k cs (by omega)]; exact hb.block k hk⟩
theorem all4 (a b c d e f : Nat) (n h : Nat) : (#[Value.slice (some ⟨a, 0, none⟩) n b, .slice (some ⟨c, 0, none⟩) n d, .slice (some ⟨e, 0, none⟩) n f, .int .i64 (h : Nat)] : Array Value).all (·.oneCell') = true := by simp [Value.oneCell']
theorem rep_snoc (j : Nat) (u : Value) : List.replicate j u ++ [u] = List.replicate (j + 1) u := List.replicate_succ'.symm
end Go.Proofs.Ytnmgeoeppfdnhaa.D

/- The contracts of derrickref12.at and Keys. -/
namespace Go.Proofs.Ytnmgeoeppfdnhaa.D
open Go.RowKit
set_option linter.unusedVariables false

theorem bel_dn {n : Nat} {a b : World} (h : Below n a b) (k : Nat) : Below n a (b.drewN k) := ⟨h.os, h.tape, h.output, h.size, h.block⟩
theorem list_inj {a b : ByteArray} : a.toList = b.toList ↔ a = b := by
  constructor
  · intro h
    rw [ByteArray.toList_eq, ByteArray.toList_eq] at h
    obtain ⟨⟨x⟩⟩ := a
    obtain ⟨⟨y⟩⟩ := b
    simp only at h
    rw [h]
  · rintro rfl; rfl
theorem eq_qu (a b : Qu) (w : World) : (binOp .eql 25 (.agg #[.string a.n, .int .u16 (a.k : Nat), .int .u16 (a.c : Nat)]) (.agg #[.string b.n, .int .u16 (b.k : Nat), .int .u16 (b.c : Nat)])).run Try.prog w = .ok (.bool (decide (a = b))) w := by
  have hS : Try.prog.underlying 25 = some (.struct (Try.prog.fieldsOf 25)) := by kernel_rfl
  have hp : Try.prog.stoodInHeld 25 = false := by kernel_rfl
  rw [run_eql_struct, show (10000 : Nat) = 9999 + 1 from rfl, run_equalIn_agg w 9999 25 _ _ hS hp]
  simp only [Program.fieldsOf, Try.underlying25]
  go_simp
  obtain ⟨an, ak, ac⟩ := a
  obtain ⟨bn, bk, bc⟩ := b
  by_cases h1 : an = bn <;> by_cases h2 : ak = bk <;> by_cases h3 : ac = bc <;> simp [h1, h2, h3, list_inj] <;> omega
def atI (o : Option Nat) : Int := match o with | some k => k | none => -1
theorem slot_at {c : List (Ce Ev)} {q : Qu} {k : Nat} (hk : k < c.length) (hu : us c k = true) (hq : (c.getD k Z0).x.e.q = q) (hall : ∀ j, j < k → us c j = true → (c.getD j Z0).x.e.q ≠ q) : slotOf (pc c) q = some k := by
  unfold slotOf
  rw [List.findIdx?_eq_some_iff_getElem]
  have at_ : ∀ j (hj : j < (pc c).length), (pc c)[j] = (c.getD j Z0).map Ev.e := fun j hj => by rw [← pc_getD]; simp [hj]
  refine ⟨by rw [pc_len]; exact hk, ?_, fun j hj => ?_⟩
  · rw [at_]
    simp only [Ce.map, Bool.and_eq_true]
    exact ⟨hu, decide_eq_true hq⟩
  · rw [at_]
    simp only [Ce.map, Bool.and_eq_true]
    exact fun h => hall j hj h.1 (of_decide_eq_true h.2)
theorem slot_no {c : List (Ce Ev)} {q : Qu} (hall : ∀ j, j < c.length → us c j = true → (c.getD j Z0).x.e.q ≠ q) : slotOf (pc c) q = none := by
  rw [slot_none]
  intro k hk hu
  rw [pc_len] at hk
  rw [us_pc] at hu
  unfold qAt
  rw [pc_getD]
  exact hall k hk hu
/-- The cells of an entry's question. -/
theorem q_at {w : World} {g k : Nat} {x : Ev} (h : w.rangeAt g k (evL x)) : w.cell? ⟨g, k, none⟩ = some (.string x.e.q.n) ∧ w.cell? ⟨g, k + 1, none⟩ = some (.int .u16 (x.e.q.k : Nat)) ∧ w.cell? ⟨g, k + 2, none⟩ = some (.int .u16 (x.e.q.c : Nat)) := ⟨h 0 _ rfl, h 1 _ rfl, h 2 _ rfl⟩

end Go.Proofs.Ytnmgeoeppfdnhaa.D

/- What the document's deeds make of the slots; the contracts of derrickref12.Evict and derrickref08.Beats. -/
namespace Go.Proofs.Ytnmgeoeppfdnhaa.D
open Go.RowKit
set_option linter.unusedVariables false

def evE (M : Ms Ev) (q : Qu) : Ms Ev × Bool := match slotOf (pc M.c) q with | some k => (⟨M.c.set k Z0, M.h⟩, true) | none => (M, false)
def lookE (M : Ms Ev) (q : Qu) (now : Nat) : Ms Ev × Ev × Bool :=
  match slotOf (pc M.c) q with
  | some k => if now < (M.c.getD k Z0).x.e.ex then (⟨M.c.set k ⟨(M.c.getD k Z0).x, true, true⟩, M.h⟩, (M.c.getD k Z0).x, true) else (M, default, false)
  | none => (M, default, false)
theorem slot_lt {c : List (Ce En)} {q : Qu} {k : Nat} (h : slotOf c q = some k) : k < c.length ∧ us c k = true ∧ qAt c k = q := by
  unfold slotOf at h
  rw [List.findIdx?_eq_some_iff_getElem] at h
  obtain ⟨hk, h1, _⟩ := h
  simp only [Bool.and_eq_true] at h1
  have e : c.getD k Z0 = c[k] := by simp [hk]
  exact ⟨hk, by unfold us; rw [e]; exact h1.1, by unfold qAt; rw [e]; exact of_decide_eq_true h1.2⟩
theorem slot_ltE {c : List (Ce Ev)} {q : Qu} {k : Nat} (h : slotOf (pc c) q = some k) : k < c.length ∧ us c k = true := by
  obtain ⟨h1, h2, _⟩ := slot_lt h
  rw [pc_len] at h1
  rw [us_pc] at h2
  exact ⟨h1, h2⟩
set_option maxHeartbeats 1000000 in
theorem rbeats_any (x y : Ev) (now : Nat) (w : World) :
    Calls Try.prog 34 #[.agg (evL x).toArray, .agg (evL y).toArray, .int .u64 (now : Nat)] w fun e w' => e = .returned (.bool (btE x.e y.e now)) ∧ Below w.heap.size w w' := by
  have HB := Lib.hid (fun o o' => ((Below.refl w.heap.size w).alloc (Nat.le_refl _) o).alloc (by simp) o')
  unfold evL
  by_cases h : now < x.e.ex
  · have HR := Lib.hid (show btE x.e y.e now = decide (x.e.rk ≤ y.e.rk) by unfold btE; simp [h])
    have hn : ¬ x.e.ex ≤ now := by omega
    go_enter Try.func34, Try.ntmps34
    go_wp2_with fail
    go_ret
    exact ⟨by rw [HR.out]; rfl, HB.out _ _⟩
  · have HR := Lib.hid (show btE x.e y.e now = true by unfold btE; simp [h])
    have hn : x.e.ex ≤ now := by omega
    clear h
    go_enter Try.func34, Try.ntmps34
    go_wp2_with fail
    go_ret
    exact ⟨by rw [HR.out]; rfl, HB.out _ _⟩
end Go.Proofs.Ytnmgeoeppfdnhaa.D

/- derrickref12.Asks and Same at what is the same; derricklaw13.has. -/
namespace Go.Proofs.Ytnmgeoeppfdnhaa.D
open Go.RowKit
set_option linter.unusedVariables false

set_option maxRecDepth 100000 in
set_option maxHeartbeats 1000000 in
theorem asks_yes (A : Option Addr) (cap : Nat) (A2 : Option Addr) (cap2 : Nat) (l : List Qu) (hl : l.length ≤ 1000) (w : World) (hI : Sl qf w A cap l) (hJ : Sl qf w A2 cap2 l) :
    Calls Try.prog 27 #[.slice A l.length cap, .slice A2 l.length cap2] w fun e w' => e = .returned (.bool true) ∧ Below w.heap.size w w' := by
  have HI := Lib.hid hI
  have HJ := Lib.hid hJ
  clear hI hJ
  go_enter Try.func27, Try.ntmps27
  go_wp2_with fail
  go_loopw [5] (fun i wr => ∃ j : Nat, j ≤ l.length ∧ i = .int .i64 j ∧ Below w.heap.size w wr) (fun i _ => l.length - (intOf i).toNat)
  case atStart => exact ⟨0, Nat.zero_le _, rfl, Below.refl _ _⟩
  case round =>
    obtain ⟨j, hj, rfl, hbel⟩ := hrel
    by_cases hlt : j < l.length
    · have d1 : decide ((j : Int) < (l.length : Nat)) = true := by simp; omega
      have s0 : (0 : Int) ≤ (j : Nat) := by omega
      have s1 : (j : Int) < (l.length : Nat) := by omega
      obtain ⟨b, off, rfl, _, c0, c1, c2⟩ := (HI.out.below' hbel).ask3 j hlt
      obtain ⟨b', off', rfl, _, e0, e1, e2⟩ := (HJ.out.below' hbel).ask3 j hlt
      have HB := Lib.hid hbel
      clear hbel
      generalize l[j] = r at *
      go_upto_region 6 with (fail)
      go_quiet (fail)
      go_wp2_with fail
      go_roundw
      case rel => exact ⟨j + 1, hlt, by go_num, bel_dn HB.out _⟩
      case measure => simp [intOf]; omega
    · obtain rfl : j = l.length := by omega
      have d1 : decide ((l.length : Int) < (l.length : Nat)) = false := by simp
      have HB := Lib.hid hbel
      clear hbel
      go_wp2_with fail
      go_ret
      exact ⟨rfl, HB.out⟩

theorem rec5 {w : World} {A : Option Addr} {cap : Nat} {l : List Rc} (h : Sl rf w A cap l) (j : Nat) (hj : j < l.length) : ∃ b off, A = some ⟨b, off, Option.none⟩ ∧ b < w.heap.size ∧
    w.cell? ⟨b, off + j * 5, Option.none⟩ = some (.string l[j].n) ∧ w.cell? ⟨b, off + j * 5 + 1, Option.none⟩ = some (.int .u16 (l[j].k : Nat)) ∧ w.cell? ⟨b, off + j * 5 + 2, Option.none⟩ = some (.int .u16 (l[j].c : Nat)) ∧ w.cell? ⟨b, off + j * 5 + 3, Option.none⟩ = some (.int .u32 (l[j].t : Nat)) ∧ w.cell? ⟨b, off + j * 5 + 4, Option.none⟩ = some (.string l[j].d) := by
  obtain ⟨b, off, h1, h2, h3⟩ := h.at rf_len j hj
  exact ⟨b, off, h1, h2, h3 0 _ rfl, h3 1 _ rfl, h3 2 _ rfl, h3 3 _ rfl, h3 4 _ rfl⟩
theorem two_e (w : World) (cs cs2 : Array Value) : Blk ((w.alloc (Obj.cells cs 35)).alloc (Obj.cells cs2 35)) w.heap.size 35 cs ∧ Blk ((w.alloc (Obj.cells cs 35)).alloc (Obj.cells cs2 35)) (w.heap.size + 1) 35 cs2 ∧ Below w.heap.size w ((w.alloc (Obj.cells cs 35)).alloc (Obj.cells cs2 35)) := by
  have b0 := Blk.new w 35 cs
  have l0 := (Below.refl w.heap.size w).alloc (Nat.le_refl _) (Obj.cells cs 35)
  have e0 : (w.alloc (Obj.cells cs 35)).heap.size = w.heap.size + 1 := by simp
  generalize w.alloc (Obj.cells cs 35) = a1 at *
  have b1 := Blk.new a1 35 cs2
  have l1 := (Below.refl a1.heap.size a1).alloc (Nat.le_refl _) (Obj.cells cs2 35)
  rw [e0] at b1
  exact ⟨b0.eq (l1.block _ (by omega)), b1, l0.trans (l1.mono (by omega))⟩

set_option maxRecDepth 100000 in
set_option maxHeartbeats 2000000 in
theorem same_yes (e : En) (A : Option Addr) (cap : Nat) (A2 : Option Addr) (cap2 : Nat) (hl : e.l.length ≤ 3518437208883) (w : World) (hI : Sl rf w A cap e.l) (hJ : Sl rf w A2 cap2 e.l) :
    Calls Try.prog 19 #[.agg (evL ⟨e, A, cap⟩).toArray, .agg (evL ⟨e, A2, cap2⟩).toArray] w fun r w' => r = .returned (.bool true) ∧ Below w.heap.size w w' := by
  have h2 := two_e w (evL ⟨e, A, cap⟩).toArray (evL ⟨e, A2, cap2⟩).toArray
  unfold evL at h2 ⊢
  obtain ⟨T3, hT3⟩ : ∃ T3 : World, (w.alloc (Obj.cells #[.string e.q.n, .int .u16 (e.q.k : Nat), .int .u16 (e.q.c : Nat), .slice A e.l.length cap, .int .i64 e.rc, .int .i64 e.rk, .int .u64 (e.ex : Nat)] 35)).alloc (Obj.cells #[.string e.q.n, .int .u16 (e.q.k : Nat), .int .u16 (e.q.c : Nat), .slice A2 e.l.length cap2, .int .i64 e.rc, .int .i64 e.rk, .int .u64 (e.ex : Nat)] 35) = T3 := ⟨_, rfl⟩
  rw [hT3] at h2
  have HX := Lib.hid h2.1
  have HY := Lib.hid h2.2.1
  have HB := Lib.hid h2.2.2
  have HI := Lib.hid (hI.below' h2.2.2)
  have HJ := Lib.hid (hJ.below' h2.2.2)
  clear hI hJ h2
  generalize e.l = l at *
  go_enter Try.func19, Try.ntmps19
  go_upto_region 1 with (fail)
  try rw [hT3]
  clear hT3
  generalize T3 = w1 at *
  obtain ⟨x0, x1, x2, x3, x4, x5, x6⟩ := e_cells (x := ⟨⟨e.q, l, e.rc, e.rk, e.ex⟩, A, cap⟩) HX.out
  obtain ⟨y0, y1, y2, y3, y4, y5, y6⟩ := e_cells (x := ⟨⟨e.q, l, e.rc, e.rk, e.ex⟩, A2, cap2⟩) HY.out
  simp only at x0 x1 x2 x3 x4 x5 x6 y0 y1 y2 y3 y4 y5 y6
  go_wp2_with fail
  clear x0 x1 x2 x3 x4 x5 x6 y0 y1 y2 y3 y4 y5 y6
  go_loopw [5] (fun i wr => ∃ j : Nat, j ≤ l.length ∧ i = .int .i64 j ∧ Below w1.heap.size w1 wr) (fun i _ => l.length - (intOf i).toNat)
  case atStart => exact ⟨0, Nat.zero_le _, rfl, Below.refl _ _⟩
  case round =>
    obtain ⟨j, hj, rfl, hbel⟩ := hrel
    have x3 := (HX.out.eq (hbel.block _ HX.out.lt)).cell 3
    have y3 := (HY.out.eq (hbel.block _ HY.out.lt)).cell 3
    simp only [List.getElem?_toArray, List.getElem?_cons_zero, List.getElem?_cons_succ] at x3 y3
    by_cases hlt : j < l.length
    · have d1 : decide ((j : Int) < (l.length : Nat)) = true := by simp; omega
      have s0 : (0 : Int) ≤ (j : Nat) := by omega
      have s1 : (j : Int) < (l.length : Nat) := by omega
      obtain ⟨b, off, rfl, _, c0, c1, c2, c3, c4⟩ := rec5 (HI.out.below' hbel) j hlt
      obtain ⟨b', off', rfl, _, e0, e1, e2, e3, e4⟩ := rec5 (HJ.out.below' hbel) j hlt
      have HBW := Lib.hid hbel
      clear hbel
      generalize l[j] = r at *
      go_upto_region 6 with (fail)
      go_quiet (fail)
      go_wp2_with fail
      go_roundw
      case rel => exact ⟨j + 1, hlt, by go_num, bel_dn HBW.out _⟩
      case measure => simp [intOf]; omega
    · obtain rfl : j = l.length := by omega
      have d1 : decide ((l.length : Int) < (l.length : Nat)) = false := by simp
      have HBW := Lib.hid hbel
      clear hbel
      go_wp2_with fail
      go_ret
      exact ⟨rfl, HB.out.trans (HBW.out.mono HB.out.size)⟩

end Go.Proofs.Ytnmgeoeppfdnhaa.D

/- derricklaw13.do: Lookup, and the whole (written by tools/gen_vdq.py). -/
namespace Go.Proofs.Ytnmgeoeppfdnhaa.D
open Go.RowKit
set_option linter.unusedVariables false
set_option linter.unusedSimpArgs false
section
variable {w : World} {h : Nat} {K : Ly} {S : Sd} {B : Nat} {d : Dv} {M : Ms Ev}
theorem new_en (w : World) (cs : Array Value) : Blk (w.alloc (Obj.cells #[.string ⟨#[]⟩, .int .u16 0, .int .u16 0, .slice none 0 0, .int .i64 0, .int .i64 0, .int .u64 0] 35)) w.heap.size 35 #[.string ⟨#[]⟩, .int .u16 0, .int .u16 0, .slice none 0 0, .int .i64 0, .int .i64 0, .int .u64 0] ∧ Blk ((w.alloc (Obj.cells #[.string ⟨#[]⟩, .int .u16 0, .int .u16 0, .slice none 0 0, .int .i64 0, .int .i64 0, .int .u64 0] 35)).setRow w.heap.size cs) w.heap.size 35 cs ∧ Below w.heap.size w ((w.alloc (Obj.cells #[.string ⟨#[]⟩, .int .u16 0, .int .u16 0, .slice none 0 0, .int .i64 0, .int .i64 0, .int .u64 0] 35)).setRow w.heap.size cs) := by
  have h := Blk.new w 35 #[.string ⟨#[]⟩, .int .u16 0, .int .u16 0, .slice none 0 0, .int .i64 0, .int .i64 0, .int .u64 0]
  exact ⟨h, setRow_heap _ _ _ _ _ _ h, setRow_below ((Below.refl _ w).alloc (Nat.le_refl _) _) (Nat.le_refl _) cs⟩
end
end Go.Proofs.Ytnmgeoeppfdnhaa.D

/- derricklaw13.do: the boxes, and what stays (written by tools/gen_vdp.py). -/
namespace Go.Proofs.Ytnmgeoeppfdnhaa.D
open Go.RowKit
set_option linter.unusedVariables false

section
variable {w w' : World} {h : Nat} {K : Ly} {S S' : Sd} {B : Nat} {d d' : Dv} {M M' : Ms Ev}
end
/-- The cells of a deed. -/
theorem d_cells {w : World} {g : Nat} {t : TypeId} {D : Dd} (h : Blk w g t (df D).toArray) : w.cell? ⟨g, 0, none⟩ = some (.int .i64 D.k) ∧ w.cell? ⟨g, 1, none⟩ = some (.string D.x.e.q.n) ∧ w.cell? ⟨g, 2, none⟩ = some (.int .u16 (D.x.e.q.k : Nat)) ∧ w.cell? ⟨g, 3, none⟩ = some (.int .u16 (D.x.e.q.c : Nat)) ∧ w.cell? ⟨g, 8, none⟩ = some (.int .u64 (D.now : Nat)) ∧ w.rangeAt g 1 (evL D.x) :=
  ⟨h.cell 0, h.cell 1, h.cell 2, h.cell 3, h.cell 8, h.range 1 _ fun j u hj => by
    show (df D).toArray[1 + j]? = some u
    have hl := (List.getElem?_eq_some_iff.1 hj).1
    rw [evL_len] at hl
    unfold df
    rw [List.getElem?_toArray, Nat.add_comm, List.getElem?_cons_succ, List.getElem?_append_left (by rw [evL_len]; exact hl)]
    exact hj⟩
theorem load_E0 {w : World} {g : Nat} {x : Ev} (h : Blk w g 35 (evL x).toArray) : w.rangeAt g 0 (evL x) := h.range 0 _ fun j u hj => by rw [Nat.zero_add, List.getElem?_toArray]; exact hj
end Go.Proofs.Ytnmgeoeppfdnhaa.D
