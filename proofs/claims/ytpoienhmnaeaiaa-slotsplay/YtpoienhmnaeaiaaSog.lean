/- Three rows and a box for their headers; the contract of derrickref10.New. -/
import Derived.Test.YtpoienhmnaeaiaaSof
import Derived.Deep.AppendLies
namespace Go.Proofs.Ytpoienhmnaeaiaa
open Go.RowKit
set_option linter.unusedVariables false

theorem own_keep {w w' : World} {B : Nat} {e : TypeId} {k : Nat} {v : Value} {n : Nat} {xs : List Value} (h : w.ownsRow B e k v n xs) (hk : ∀ g, v.ownBlock = some g → w'.heap[g]? = w.heap[g]?) : w'.ownsRow B e k v n xs := by
  refine ⟨h.1, ?_⟩
  rcases h.2 with h1 | ⟨g, cap, cur, h1, h2, h3, h4⟩
  · exact .inl h1
  · exact .inr ⟨g, cap, cur, h1, h2, (hk g (by rw [h1]; rfl)).trans h3, h4⟩
theorem own_at {w : World} {B : Nat} {e : TypeId} {k : Nat} {v : Value} {n : Nat} {xs : List Value} (h : w.ownsRow B e k v n xs) {g : Nat} (hg : v.ownBlock = some g) : g < w.heap.size ∧ ∃ cur, Blk w g e cur := by
  rcases h.2 with ⟨h1, _⟩ | ⟨g', cap, cur, h1, h2, h3, h4⟩
  · rw [h1] at hg; cases hg
  · rw [h1] at hg
    have : g' = g := by simpa [Value.ownBlock] using hg
    subst this
    exact ⟨heap_lt h3, cur, h3⟩
theorem own_type {w : World} {B : Nat} {e t : TypeId} {k p : Nat} {v : Value} {n : Nat} {xs : List Value} {cs : Array Value} (h : w.ownsRow B e k v n xs) (hb : Blk w p t cs) (hne : e ≠ t) {g : Nat} (hg : v.ownBlock = some g) : g ≠ p := by
  intro he
  subst he
  obtain ⟨_, cur, hc⟩ := own_at h hg
  unfold Blk at hb hc
  rw [hc] at hb
  cases hb
  exact hne rfl
theorem own_two {w : World} {B B' : Nat} {e t : TypeId} {k k' : Nat} {v v' : Value} {n n' : Nat} {xs xs' : List Value} (h : w.ownsRow B e k v n xs) (h' : w.ownsRow B' t k' v' n' xs') (hne : e ≠ t) {g : Nat} (hg : v.ownBlock = some g) : v'.ownBlock ≠ some g := by
  intro he
  obtain ⟨_, cur, hc⟩ := own_at h' he
  exact own_type h hc hne hg rfl
def zD : Array Value := #[.slice none 0 0, .slice none 0 0, .slice none 0 0, .int .i64 0]
/-- Three rows, their headers' box p, and another box r. -/
structure Tri (B p r : Nat) (rs : Array Value) (w : World) (hh : Nat) (vX vU vT : Value) (nX nU nT : Nat) (xs us ts : List Value) : Prop where
  bp : Blk w p 30 #[vX, vU, vT, .int .i64 (hh : Nat)]
  br : Blk w r 30 rs
  rp : r ≠ p
  ox : w.ownsRow B 9 1 vX nX xs
  ou : w.ownsRow B 4 1 vU nU us
  ot : w.ownsRow B 4 1 vT nT ts
  ne : ∀ g, vU.ownBlock = some g → vT.ownBlock ≠ some g
section
variable {B p r : Nat} {rs : Array Value} {w w' : World} {hh : Nat} {vX vU vT : Value} {nX nU nT : Nat} {xs us ts : List Value}
theorem Tri.keep (h : Tri B p r rs w hh vX vU vT nX nU nT xs us ts) (hb : Below w.heap.size w w') : Tri B p r rs w' hh vX vU vT nX nU nT xs us ts :=
  ⟨h.bp.eq (hb.block _ h.bp.lt), h.br.eq (hb.block _ h.br.lt), h.rp, ownR_below h.ox hb, ownR_below h.ou hb, ownR_below h.ot hb, h.ne⟩
theorem Tri.bpG (h : Tri B p r rs w hh vX vU vT nX nU nT xs us ts) {row : Option Nat} (hg : w.grownBy w' row) (hr : row ≠ some p) : Blk w' p 30 #[vX, vU, vT, .int .i64 (hh : Nat)] := h.bp.eq (hg.block _ h.bp.lt (fun e => hr e.symm))
theorem Tri.px (h : Tri B p r rs w hh vX vU vT nX nU nT xs us ts) : vX.ownBlock ≠ some p := fun e => own_type h.ox h.bp (by decide) e rfl
theorem Tri.pu (h : Tri B p r rs w hh vX vU vT nX nU nT xs us ts) : vU.ownBlock ≠ some p := fun e => own_type h.ou h.bp (by decide) e rfl
theorem Tri.pt (h : Tri B p r rs w hh vX vU vT nX nU nT xs us ts) : vT.ownBlock ≠ some p := fun e => own_type h.ot h.bp (by decide) e rfl
theorem Tri.rx (h : Tri B p r rs w hh vX vU vT nX nU nT xs us ts) : vX.ownBlock ≠ some r := fun e => own_type h.ox h.br (by decide) e rfl
theorem Tri.ru (h : Tri B p r rs w hh vX vU vT nX nU nT xs us ts) : vU.ownBlock ≠ some r := fun e => own_type h.ou h.br (by decide) e rfl
theorem Tri.rt (h : Tri B p r rs w hh vX vU vT nX nU nT xs us ts) : vT.ownBlock ≠ some r := fun e => own_type h.ot h.br (by decide) e rfl
/-- A row has grown, and its new header is stored. -/
theorem Tri.setX (h : Tri B p r rs w hh vX vU vT nX nU nT xs us ts) {v' : Value} {n' : Nat} {xs' : List Value} (hg : w.grownBy w' vX.ownBlock) (ho : w'.ownsRow B 9 1 v' n' xs') : Tri B p r rs (w'.setCell ⟨p, 0, none⟩ v') hh v' vU vT n' nU nT xs' us ts := by
  have hp := h.bpG hg h.px
  refine ⟨hp.set_ 0 v', (h.br.eq (hg.block _ h.br.lt (fun e => h.rx e.symm))).far _ _ h.rp, h.rp, ?_, ?_, ?_, h.ne⟩
  · exact own_keep ho fun g hg' => Below.heap_setCell w' _ v' g (own_type ho hp (by decide) hg')
  · refine own_keep h.ou fun g hg' => ?_
    rw [Below.heap_setCell w' _ v' g (own_type h.ou h.bp (by decide) hg')]
    exact hg.block g (own_at h.ou hg').1 (fun e => own_two h.ou h.ox (by decide) hg' e.symm)
  · refine own_keep h.ot fun g hg' => ?_
    rw [Below.heap_setCell w' _ v' g (own_type h.ot h.bp (by decide) hg')]
    exact hg.block g (own_at h.ot hg').1 (fun e => own_two h.ot h.ox (by decide) hg' e.symm)
theorem Tri.setU (h : Tri B p r rs w hh vX vU vT nX nU nT xs us ts) {g0 c0 n' : Nat} {us' : List Value} (hg : w.grownBy w' vU.ownBlock) (ho : w'.ownsRow B 4 1 (.slice (some ⟨g0, 0, none⟩) n' c0) n' us') (hat : vU.ownBlock = some g0 ∨ g0 = w.heap.size) :
    Tri B p r rs (w'.setCell ⟨p, 1, none⟩ (.slice (some ⟨g0, 0, none⟩) n' c0)) hh vX (.slice (some ⟨g0, 0, none⟩) n' c0) vT nX n' nT xs us' ts := by
  have hp := h.bpG hg h.pu
  refine ⟨hp.set_ 1 _, (h.br.eq (hg.block _ h.br.lt (fun e => h.ru e.symm))).far _ _ h.rp, h.rp, ?_, ?_, ?_, ?_⟩
  · refine own_keep h.ox fun g hg' => ?_
    rw [Below.heap_setCell w' _ _ g (own_type h.ox h.bp (by decide) hg')]
    exact hg.block g (own_at h.ox hg').1 (fun e => own_two h.ox h.ou (by decide) hg' e.symm)
  · exact own_keep ho fun g hg' => Below.heap_setCell w' _ _ g (own_type ho hp (by decide) hg')
  · refine own_keep h.ot fun g hg' => ?_
    rw [Below.heap_setCell w' _ _ g (own_type h.ot h.bp (by decide) hg')]
    exact hg.block g (own_at h.ot hg').1 (fun e => h.ne g e.symm hg')
  · intro g hg' ht
    have e : g0 = g := by simpa [Value.ownBlock] using hg'
    subst e
    rcases hat with hat | hat
    · exact h.ne g0 hat ht
    · have := (own_at h.ot ht).1; omega
theorem Tri.setT (h : Tri B p r rs w hh vX vU vT nX nU nT xs us ts) {g0 c0 n' : Nat} {ts' : List Value} (hg : w.grownBy w' vT.ownBlock) (ho : w'.ownsRow B 4 1 (.slice (some ⟨g0, 0, none⟩) n' c0) n' ts') (hat : vT.ownBlock = some g0 ∨ g0 = w.heap.size) :
    Tri B p r rs (w'.setCell ⟨p, 2, none⟩ (.slice (some ⟨g0, 0, none⟩) n' c0)) hh vX vU (.slice (some ⟨g0, 0, none⟩) n' c0) nX nU n' xs us ts' := by
  have hp := h.bpG hg h.pt
  refine ⟨hp.set_ 2 _, (h.br.eq (hg.block _ h.br.lt (fun e => h.rt e.symm))).far _ _ h.rp, h.rp, ?_, ?_, ?_, ?_⟩
  · refine own_keep h.ox fun g hg' => ?_
    rw [Below.heap_setCell w' _ _ g (own_type h.ox h.bp (by decide) hg')]
    exact hg.block g (own_at h.ox hg').1 (fun e => own_two h.ox h.ot (by decide) hg' e.symm)
  · refine own_keep h.ou fun g hg' => ?_
    rw [Below.heap_setCell w' _ _ g (own_type h.ou h.bp (by decide) hg')]
    exact hg.block g (own_at h.ou hg').1 (fun e => h.ne g hg' e.symm)
  · exact own_keep ho fun g hg' => Below.heap_setCell w' _ _ g (own_type ho hp (by decide) hg')
  · intro g hg' ht
    have e : g0 = g := by simpa [Value.ownBlock] using ht
    subst e
    rcases hat with hat | hat
    · exact h.ne g0 hg' hat
    · have := (own_at h.ou hg').1; omega
end
theorem elT : (Try.prog.info? 9).map (fun i => (i.zero, i.size, i.bytes)) = some (some (.string ⟨#[]⟩), 1, 16) := by kernel_rfl
theorem elB : (Try.prog.info? 4).map (fun i => (i.zero, i.size, i.bytes)) = some (some (.bool false), 1, 1) := by kernel_rfl
theorem newV (W : World) (e : TypeId) (u : Value) : ∀ j x, ([u] : List Value)[j]? = some x → (W.alloc (.cells #[u] e)).cell? ((⟨W.heap.size, 0, none⟩ : Addr).add j) = some x := fun j x hj => by
  have h := heap_alloc_new W (Obj.cells #[u] e)
  rw [Addr.add_lit, Nat.zero_add, blk_cell h j, ← hj]
  simp
theorem setRow_below {B g : Nat} {w0 w : World} (hb : Below B w0 w) (hBg : B ≤ g) (cs : Array Value) : Below B w0 (w.setRow g cs) :=
  ⟨hb.os, hb.tape, hb.output, by rw [setRow_size]; exact hb.size, fun k hk => by rw [setRow_other w g k cs (by omega)]; exact hb.block k hk⟩
theorem all4 (a b c d e f : Nat) (n h : Nat) : (#[Value.slice (some ⟨a, 0, none⟩) n b, .slice (some ⟨c, 0, none⟩) n d, .slice (some ⟨e, 0, none⟩) n f, .int .i64 (h : Nat)] : Array Value).all (·.oneCell') = true := by simp [Value.oneCell']
theorem rep_snoc (j : Nat) (u : Value) : List.replicate j u ++ [u] = List.replicate (j + 1) u := List.replicate_succ'.symm
theorem Tri.dw {B p r : Nat} {rs : Array Value} {w : World} {hh gx cx gu cu gt ct : Nat} {c : List Ce} (h : Tri B p r rs w hh (.slice (some ⟨gx, 0, none⟩) c.length cx) (.slice (some ⟨gu, 0, none⟩) c.length cu) (.slice (some ⟨gt, 0, none⟩) c.length ct) c.length c.length c.length (xsV c) (usV c) (tsV c)) : Dw B w ⟨gx, cx, gu, cu, gt, ct⟩ c :=
  ⟨h.ox, h.ou, h.ot, fun e => h.ne gu rfl (by rw [show gu = gt from e]; rfl)⟩
theorem Dw.setRow {B r : Nat} {w : World} {d : Dv} {c : List Ce} {rs cs : Array Value} (h : Dw B w d c) (hr : Blk w r 30 rs) : Dw B (w.setRow r cs) d c :=
  ⟨own_keep h.ox fun g hg => setRow_other w r g cs (own_type h.ox hr (by decide) hg), own_keep h.ou fun g hg => setRow_other w r g cs (own_type h.ou hr (by decide) hg), own_keep h.ot fun g hg => setRow_other w r g cs (own_type h.ot hr (by decide) hg), h.ne⟩

set_option maxRecDepth 100000 in
set_option maxHeartbeats 2000000 in
theorem rnew_any (n : Nat) (h1 : 1 ≤ n) (h2 : n ≤ 64) (w : World) : Calls Try.prog 12 #[.int .i64 (n : Nat)] w fun e w' => ∃ d, e = .returned (dV d (newM n)) ∧ Dw w.heap.size w' d (newM n).c ∧ Below w.heap.size w w' := by
  obtain ⟨i1, hi1, hz1, hs1, hy1⟩ := el_of elT
  obtain ⟨i2, hi2, hz2, hs2, hy2⟩ := el_of elB
  have ex : xsV (newM n).c = List.replicate n (.string ⟨#[]⟩) := by simp [xsV, newM, Z0]
  have eu : usV (newM n).c = List.replicate n (.bool false) := by simp [usV, newM, Z0]
  have et : tsV (newM n).c = List.replicate n (.bool false) := by simp [tsV, newM, Z0]
  have el : (newM n).c.length = n := by simp [newM]
  have HE := Lib.hid (And.intro ex (And.intro eu (And.intro et el)))
  have hb1 := (Below.refl w.heap.size w).alloc (Nat.le_refl _) (Obj.cells zD 30)
  have hb2 := hb1.alloc hb1.size (Obj.cells zD 30)
  have hr := Blk.new w 30 zD
  have hp := Blk.new (w.alloc (Obj.cells zD 30)) 30 zD
  have es : (w.alloc (Obj.cells zD 30)).heap.size = w.heap.size + 1 := by simp
  rw [es] at hp
  have hr2 := hr.eq (Below.heap_alloc (w.alloc (Obj.cells zD 30)) (Obj.cells zD 30) w.heap.size (by rw [es]; omega))
  have HT := Lib.hid (show Tri w.heap.size (w.heap.size + 1) w.heap.size zD ((w.alloc (Obj.cells zD 30)).alloc (Obj.cells zD 30)) 0 (.slice none 0 0) (.slice none 0 0) (.slice none 0 0) 0 0 0 [] [] [] from ⟨hp, hr2, by omega, World.ownsRow_nil _ _ _ _, World.ownsRow_nil _ _ _ _, World.ownsRow_nil _ _ _ _, fun g h => by cases h⟩)
  have HB := Lib.hid hb2
  clear ex eu et el hb1 hb2 hr hp es hr2
  unfold zD at HT HB
  go_enter Try.func12, Try.ntmps12
  go_upto_region 2 with (fail)
  generalize (w.alloc (Obj.cells #[Value.slice none 0 0, .slice none 0 0, .slice none 0 0, .int .i64 0] 30)).alloc (Obj.cells #[Value.slice none 0 0, .slice none 0 0, .slice none 0 0, .int .i64 0] 30) = w1 at *
  go_wp2_with fail
  go_loopw [4] (fun x wr => ∃ (j : Nat) (AX : Option Addr) (cX : Nat) (AU : Option Addr) (cU : Nat) (AT : Option Addr) (cT : Nat), j ≤ n ∧ x = .int .i64 j ∧ Tri w.heap.size (w.heap.size + 1) w.heap.size #[.slice none 0 0, .slice none 0 0, .slice none 0 0, .int .i64 0] wr 0 (.slice AX j cX) (.slice AU j cU) (.slice AT j cT) j j j (List.replicate j (.string ⟨#[]⟩)) (List.replicate j (.bool false)) (List.replicate j (.bool false)) ∧ Below w.heap.size w wr) (fun x _ => n - (intOf x).toNat)
  case atStart => exact ⟨0, none, 0, none, 0, none, 0, Nat.zero_le _, rfl, HT.out, HB.out⟩
  case round =>
    clear HT HB
    obtain ⟨j, AX, cX, AU, cU, AT, cT, hj, rfl, hT, hbel⟩ := hrel
    by_cases hlt : j < n
    · have d1 : decide ((j : Int) < n) = true := by simp; omega
      obtain ⟨wr0, ew0⟩ : ∃ wr0 : World, wr0 = wr := ⟨_, rfl⟩
      rw [← ew0] at hT hbel ⊢
      clear ew0
      -- the row X
      have hTa := hT.keep ((Below.refl wr0.heap.size wr0).alloc (Nat.le_refl _) (Obj.cells #[Value.string ⟨#[]⟩] 9))
      have hba := hbel.alloc hbel.size (Obj.cells #[Value.string ⟨#[]⟩] 9)
      have c0 := hT.bp.cell 0
      simp only [List.getElem?_toArray, List.getElem?_cons_zero] at c0
      have HTa := Lib.hid hTa
      have HBa := Lib.hid hba
      clear hT hTa hbel hba
      go_wp2_with (at_builtin; refine wpList_append_lies _ rfl _ _ 27 rfl w.heap.size 9 i1 (Value.string ⟨#[]⟩) 1 16 Try.underlying27 hi1 hz1 hs1 hy1 rfl (by decide) _ _ _ rfl HTa.out.ox ⟨wr0.heap.size, 0, none⟩ 1 1 [Value.string ⟨#[]⟩] rfl rfl (newV wr0 9 _) ?q1 (by omega) ?q2 ?q3 HBa.out.size (wr0.heap.size + 1) (by simp) ?_)
      case q1 => intro u hu; simp at hu; subst hu; rfl
      case q2 => unfold maxLen; omega
      case q3 => omega
      intro g0 cap0 w3 hown hgr hat hlt3
      have hP3 := HTa.out.bpG hgr HTa.out.px
      have z0 := hP3.cell 0
      have f0 := hP3.frozen 0
      simp only [List.getElem?_toArray, List.getElem?_cons_zero] at z0
      rw [rep_snoc] at hown
      have hat2 : _ ∨ g0 = (wr0.alloc (Obj.cells #[Value.string ⟨#[]⟩] 9)).heap.size := hat.imp id (fun e => by rw [e]; simp)
      have hT := HTa.out.setX hgr hown
      have hbel := (HBa.out.grown hgr HBa.out.size (fun q hq => (HTa.out.ox.lt q hq).1)).setCell (p := ⟨w.heap.size + 1, 0, none⟩) (by simp) (.slice (some ⟨g0, 0, none⟩) (j + 1) cap0)
      have HT3 := Lib.hid (And.intro hT hbel)
      clear hP3 hown hgr hat hat2 hlt3 hT hbel c0 HTa HBa
      go_upto_region 6 with (fail)
      obtain ⟨hT, hbel⟩ := HT3.out
      generalize w3.setCell ⟨w.heap.size + 1, 0, none⟩ (.slice (some ⟨g0, 0, none⟩) (j + 1) cap0) = wr1 at *
      clear HT3
      clear z0 f0
      -- the row U
      have hTa := hT.keep ((Below.refl wr1.heap.size wr1).alloc (Nat.le_refl _) (Obj.cells #[Value.bool false] 4))
      have hba := hbel.alloc hbel.size (Obj.cells #[Value.bool false] 4)
      have c1 := hT.bp.cell 1
      simp only [List.getElem?_toArray, List.getElem?_cons_zero, List.getElem?_cons_succ] at c1
      have HTa := Lib.hid hTa
      have HBa := Lib.hid hba
      clear hT hTa hbel hba
      go_wp2_with (at_builtin; refine wpList_append_lies _ rfl _ _ 28 rfl w.heap.size 4 i2 (Value.bool false) 1 1 Try.underlying28 hi2 hz2 hs2 hy2 rfl (by decide) _ _ _ rfl HTa.out.ou ⟨wr1.heap.size, 0, none⟩ 1 1 [Value.bool false] rfl rfl (newV wr1 4 _) ?q1 (by omega) ?q2 ?q3 HBa.out.size (wr1.heap.size + 1) (by simp) ?_)
      case q1 => intro u hu; simp at hu; subst hu; rfl
      case q2 => unfold maxLen; omega
      case q3 => omega
      intro g1 cap1 w3 hown hgr hat hlt3
      have hP3 := HTa.out.bpG hgr HTa.out.pu
      have z1 := hP3.cell 1
      have f1 := hP3.frozen 1
      simp only [List.getElem?_toArray, List.getElem?_cons_zero, List.getElem?_cons_succ] at z1
      rw [rep_snoc] at hown
      have hat2 : _ ∨ g1 = (wr1.alloc (Obj.cells #[Value.bool false] 4)).heap.size := hat.imp id (fun e => by rw [e]; simp)
      have hT := HTa.out.setU hgr hown hat2
      have hbel := (HBa.out.grown hgr HBa.out.size (fun q hq => (HTa.out.ou.lt q hq).1)).setCell (p := ⟨w.heap.size + 1, 1, none⟩) (by simp) (.slice (some ⟨g1, 0, none⟩) (j + 1) cap1)
      have HT3 := Lib.hid (And.intro hT hbel)
      clear hP3 hown hgr hat hat2 hlt3 hT hbel c1 HTa HBa
      go_upto_region 7 with (fail)
      obtain ⟨hT, hbel⟩ := HT3.out
      generalize w3.setCell ⟨w.heap.size + 1, 1, none⟩ (.slice (some ⟨g1, 0, none⟩) (j + 1) cap1) = wr2 at *
      clear HT3
      clear z1 f1
      -- the row T
      have hTa := hT.keep ((Below.refl wr2.heap.size wr2).alloc (Nat.le_refl _) (Obj.cells #[Value.bool false] 4))
      have hba := hbel.alloc hbel.size (Obj.cells #[Value.bool false] 4)
      have c2 := hT.bp.cell 2
      simp only [List.getElem?_toArray, List.getElem?_cons_zero, List.getElem?_cons_succ] at c2
      have HTa := Lib.hid hTa
      have HBa := Lib.hid hba
      clear hT hTa hbel hba
      go_wp2_with (at_builtin; refine wpList_append_lies _ rfl _ _ 28 rfl w.heap.size 4 i2 (Value.bool false) 1 1 Try.underlying28 hi2 hz2 hs2 hy2 rfl (by decide) _ _ _ rfl HTa.out.ot ⟨wr2.heap.size, 0, none⟩ 1 1 [Value.bool false] rfl rfl (newV wr2 4 _) ?q1 (by omega) ?q2 ?q3 HBa.out.size (wr2.heap.size + 1) (by simp) ?_)
      case q1 => intro u hu; simp at hu; subst hu; rfl
      case q2 => unfold maxLen; omega
      case q3 => omega
      intro g2 cap2 w3 hown hgr hat hlt3
      have hP3 := HTa.out.bpG hgr HTa.out.pt
      have z2 := hP3.cell 2
      have f2 := hP3.frozen 2
      simp only [List.getElem?_toArray, List.getElem?_cons_zero, List.getElem?_cons_succ] at z2
      rw [rep_snoc] at hown
      have hat2 : _ ∨ g2 = (wr2.alloc (Obj.cells #[Value.bool false] 4)).heap.size := hat.imp id (fun e => by rw [e]; simp)
      have hT := HTa.out.setT hgr hown hat2
      have hbel := (HBa.out.grown hgr HBa.out.size (fun q hq => (HTa.out.ot.lt q hq).1)).setCell (p := ⟨w.heap.size + 1, 2, none⟩) (by simp) (.slice (some ⟨g2, 0, none⟩) (j + 1) cap2)
      have HT3 := Lib.hid (And.intro hT hbel)
      clear hP3 hown hgr hat hat2 hlt3 hT hbel c2 HTa HBa
      go_wp2_with fail
      go_roundw
      case rel => exact ⟨j + 1, _, _, _, _, _, _, hlt, by go_num, HT3.out.1, HT3.out.2⟩
      case measure => simp [intOf]; omega
    · obtain rfl : j = n := by omega
      have d1 : decide ((j : Int) < j) = false := by simp
      obtain ⟨gx, rfl, _⟩ := own_block hT.ox (by omega)
      obtain ⟨gu, rfl, _⟩ := own_block hT.ou (by omega)
      obtain ⟨gt, rfl, _⟩ := own_block hT.ot (by omega)
      obtain ⟨q1, q2, q3, q4⟩ := HE.out
      have hT2 : Tri w.heap.size (w.heap.size + 1) w.heap.size #[.slice none 0 0, .slice none 0 0, .slice none 0 0, .int .i64 0] wr 0 (.slice (some ⟨gx, 0, none⟩) (newM j).c.length cX) (.slice (some ⟨gu, 0, none⟩) (newM j).c.length cU) (.slice (some ⟨gt, 0, none⟩) (newM j).c.length cT) (newM j).c.length (newM j).c.length (newM j).c.length (xsV (newM j).c) (usV (newM j).c) (tsV (newM j).c) := by rw [q1, q2, q3, q4]; exact hT
      have hD := hT2.dw.setRow hT.br (cs := #[.slice (some ⟨gx, 0, none⟩) j cX, .slice (some ⟨gu, 0, none⟩) j cU, .slice (some ⟨gt, 0, none⟩) j cT, .int .i64 0])
      have hbz := setRow_below hbel (Nat.le_refl _) #[.slice (some ⟨gx, 0, none⟩) j cX, .slice (some ⟨gu, 0, none⟩) j cU, .slice (some ⟨gt, 0, none⟩) j cT, .int .i64 0]
      have hv : Value.agg #[.slice (some ⟨gx, 0, none⟩) j cX, .slice (some ⟨gu, 0, none⟩) j cU, .slice (some ⟨gt, 0, none⟩) j cT, .int .i64 0] = dV ⟨gx, cX, gu, cU, gt, cT⟩ (newM j) := by rw [dV_eq, q4]; rfl
      have HF := Lib.hid (And.intro hD (And.intro hbz hv))
      have HP := Lib.hid hT.bp
      have HR := Lib.hid hT.br
      clear hT hT2 hD hbz hv hbel q1 q2 q3 q4
      go_wp2_with (first | (refine wpList_load_row rfl 30 _ rfl (w.heap.size + 1) rfl 30 _ _ _ HP.out Try.underlying30 rfl infoD ?_) | (refine wpList_store_row rfl 30 _ _ rfl w.heap.size _ rfl rfl 30 _ HR.out infoD rfl (all4 _ _ _ _ _ _ _ _) ?_))
      refine ret_d rfl rfl rfl (setRow_heap _ _ _ _ _ _ HR.out) ⟨⟨gx, cX, gu, cU, gt, cT⟩, ?_, HF.out.1, HF.out.2.1⟩
      rw [← HF.out.2.2]
      rfl
end Go.Proofs.Ytpoienhmnaeaiaa
