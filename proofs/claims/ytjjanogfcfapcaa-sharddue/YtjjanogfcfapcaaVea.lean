/- A row of numbers grows by one: no text comes into its block. -/
import Derived.Test.YtjjanogfcfapcaaVdz
namespace Go.Proofs.Ytjjanogfcfapcaa.D
open Go.RowKit
set_option linter.unusedVariables false

/-- The block of a slice, if it has one, holds no text. -/
def NoSR (w : World) (e : TypeId) (v : Value) : Prop := ∀ g, v.ownBlock = some g → ∃ cur, Blk w g e cur ∧ NoS cur
theorem noS_list {l : List Value} (h : ∀ u ∈ l, ∀ n, u ≠ .string n) : NoS l.toArray := fun i n hi => h _ (List.mem_of_getElem? (by rw [List.getElem?_toArray] at hi; exact hi)) n rfl
theorem noS_mem {cs : Array Value} (h : NoS cs) {u : Value} (hu : u ∈ cs.toList) (n : ByteArray) : u ≠ .string n := fun e => by
  subst e
  obtain ⟨i, hi, he⟩ := List.getElem_of_mem hu
  exact h i n (by rw [← Array.getElem?_toList, List.getElem?_eq_getElem hi, he])
theorem run_append_nos {P : Program} (w : World) (base : Nat) (t ty e : TypeId) (i : TypeInfo) (z : Value) (bytes : Nat) (ht : P.underlying t = some (.slice e)) (hi : P.info? e = some i) (hz : i.zero = some z)
    (hsize : i.size = 1) (hby : i.bytes = bytes) (hzs : z.cells = #[z]) (hzn : ∀ n, z ≠ .string n)
    (v : Value) (n : Nat) (xs : List Value) (hown : w.ownsRow base e 1 v n xs) (hno : NoSR w e v)
    (a : Addr) (c : Nat) (u : Value) (hnews : ∀ j x, ([u] : List Value)[j]? = some x → w.cell? (a.add j) = some x) (h1 : u.oneCell' = true) (hun : ∀ n, u ≠ .string n)
    (h63 : n + 1 ≤ maxLen) (hbytes : (n + 1) * bytes ≤ 140737488355328) (hbase : base ≤ w.heap.size) :
    ∃ v' w', (Builtin.append_ #[t, t] ty #[v, .slice (some a) 1 c]).run P w = .ok v' w' ∧ w'.ownsRow base e 1 v' (n + 1) (xs ++ [u]) ∧ w.grownBy w' v.ownBlock ∧ NoSR w' e v' := by
  subst hby
  have hsmall : n + 1 ≤ 9223372036854775807 := by simp only [maxLen] at h63; omega
  have hl : ([u] : List Value).length = 1 * i.size := by rw [hsize]; rfl
  have hlen : (xs ++ [u]).length = (n + 1) * 1 := by rw [List.length_append, hown.1]; simp
  have h1' : ∀ x ∈ ([u] : List Value), x.oneCell' = true := fun x hx => by rw [List.mem_singleton] at hx; subst hx; exact h1
  have hzc : ∀ k, ∀ x ∈ (Builtin.zeroCells z.cells k).toList, ∀ n, x ≠ .string n := fun k x hx n => by
    unfold Builtin.zeroCells at hx
    rw [hzs] at hx
    simp at hx
    obtain ⟨q, _, he⟩ := hx
    rw [Nat.mod_one] at he
    simp at he
    rw [← he]
    exact hzn n
  have grown : ∀ (old : Nat), old < n + 1 → (∀ x ∈ xs, ∀ n, x ≠ .string n) → ∀ (row : Option Nat),
      (w.drew.alloc (.cells (xs.toArray ++ [u].toArray ++ Builtin.zeroCells z.cells (grownCap w (n + 1) old e - (n + 1))) e)).ownsRow base e 1
        (.slice (some ⟨w.heap.size, 0, none⟩) (n + 1) (grownCap w (n + 1) old e)) (n + 1) (xs ++ [u]) ∧
      w.grownBy (w.drew.alloc (.cells (xs.toArray ++ [u].toArray ++ Builtin.zeroCells z.cells (grownCap w (n + 1) old e - (n + 1))) e)) row ∧
      NoSR (w.drew.alloc (.cells (xs.toArray ++ [u].toArray ++ Builtin.zeroCells z.cells (grownCap w (n + 1) old e - (n + 1))) e)) e (.slice (some ⟨w.heap.size, 0, none⟩) (n + 1) (grownCap w (n + 1) old e)) := by
    intro old ho hxs row
    have hge := grownCap_ge w (n + 1) old e
    have hcm : grownCap w (n + 1) old e ≤ maxLen := grownCap_le_maxLen w (n + 1) old e h63
    refine ⟨⟨hlen, .inr ⟨w.heap.size, _, _, rfl, hbase, heap_alloc_new w.drew _, hge, hcm, ?_, ?_⟩⟩, ⟨rfl, rfl, rfl, by simp, fun k hk _ => Below.heap_alloc w.drew _ k hk⟩, fun g hg => ?_⟩
    · simp only [Array.size_append, List.size_toArray, size_zeroCells, hzs, hown.1]
      simp
      omega
    · simp only [Array.toList_append, List.append_assoc]
      rw [← List.append_assoc, ← hlen]
      exact List.take_left
    · cases hg
      refine ⟨_, heap_alloc_new w.drew _, ?_⟩
      intro i' s hs
      have hm : Value.string s ∈ (xs.toArray ++ [u].toArray ++ Builtin.zeroCells z.cells (grownCap w (n + 1) old e - (n + 1))).toList := List.mem_of_getElem? (by rw [Array.getElem?_toList]; exact hs)
      simp only [Array.toList_append, List.mem_append, List.mem_singleton] at hm
      rcases hm with (hm | hm) | hm
      · exact hxs _ hm s rfl
      · exact hun s hm.symm
      · exact hzc _ _ hm s rfl
  rcases hown.2 with ⟨rfl, rfl⟩ | ⟨g, cap, cur, rfl, hbg, hg, hnc, hcm, hcs, htake⟩
  · have hx : xs = [] := List.eq_nil_of_length_eq_zero (by simpa using hown.1)
    subst hx
    have hr := run_append_nil (P := P) w t ty e i z ht hi hz a 1 c [u] hl hnews (by omega) (by omega) (by have hb := hbytes; simp only [Nat.zero_add] at hb; omega)
    have hgr := grown 0 (by omega) (fun x hx => by cases hx) (Value.ownBlock (.slice none 0 0))
    simp only [Nat.zero_add, List.nil_append, Array.empty_append] at hgr ⊢
    exact ⟨_, _, hr, hgr.1, hgr.2.1, hgr.2.2⟩
  · obtain ⟨cur', hb, hns⟩ := hno g rfl
    obtain rfl : cur' = cur := by unfold Blk at hb; rw [hg] at hb; cases hb; rfl
    have hcn : ∀ x ∈ cur'.toList, ∀ n, x ≠ .string n := fun x hx => noS_mem hns hx
    have hxn : ∀ x ∈ xs, ∀ n, x ≠ .string n := fun x hx => hcn x (by rw [← htake] at hx; exact List.mem_of_mem_take hx)
    by_cases hroom : n + 1 ≤ cap
    · have hfit : n * i.size + ([u] : List Value).length ≤ cur'.size := by rw [hl, hcs, hsize, ← Nat.add_mul]; exact Nat.mul_le_mul_right _ hroom
      have hr := run_append_room (P := P) w t ty e i ht hi g n cap cur' hg a 1 c [u] hl hnews h1' hroom hfit
      rw [hsize] at hr
      refine ⟨_, _, hr, ⟨hlen, .inr ⟨g, cap, _, rfl, hbg, setRow_heap w g cur' _ e _ hg, hroom, hcm, ?_, ?_⟩⟩, ⟨rfl, rfl, rfl, by simp, fun k _ hk => setRow_other w g k _ (fun e => hk (by simp [Value.ownBlock, e]))⟩, fun g' hg' => ?_⟩
      · simp only [List.size_toArray, List.length_append, List.length_take, List.length_drop, Array.length_toList]
        rw [hsize] at hfit
        omega
      · rw [htake, ← hlen]
        exact List.take_left
      · cases hg'
        refine ⟨_, setRow_heap w g cur' _ e _ hg, noS_list fun x hx n => ?_⟩
        rw [List.mem_append, List.mem_append, List.mem_singleton] at hx
        rcases hx with (hx | hx) | hx
        · exact hcn x (List.mem_of_mem_take hx) n
        · rw [hx]; exact hun n
        · exact hcn x (List.mem_of_mem_drop hx) n
    · have holds : ∀ j x, xs[j]? = some x → w.cell? ((⟨g, 0, none⟩ : Addr).add j) = some x := hown.cells (g := g) rfl
      have hr := run_append_grow (P := P) w t ty e i z ht hi hz ⟨g, 0, none⟩ n cap xs (by rw [hsize]; exact hown.1) holds a 1 c [u] hl hnews (by omega) (by omega) (growslice_fits (by omega) hbytes)
      have hgr := grown cap (by omega) hxn (Value.ownBlock (.slice (some ⟨g, 0, none⟩) n cap))
      exact ⟨_, _, hr, hgr.1, hgr.2.1, hgr.2.2⟩
theorem wpList_append_nos {P : Program} {w : World} {ops : Array Oper} {rest : List Oper} {o : Oper} {ac : Act} {Q : Exit → Act → World → Prop} (hgd : o.guard = none) (s x : Operand) (t : TypeId)
    (ho : o.op = .call { callee := .builtin .append, args := #[s, x], argTypes := #[t, t] })
    (base : Nat) (e : TypeId) (i : TypeInfo) (z : Value) (bytes : Nat) (ht : P.underlying t = some (.slice e)) (hi : P.info? e = some i) (hz : i.zero = some z)
    (hsize : i.size = 1) (hby : i.bytes = bytes) (hzs : z.cells = #[z]) (hzn : ∀ n, z ≠ .string n)
    (v : Value) (n : Nat) (xs : List Value) (hs : ac.eval s = v) (hown : w.ownsRow base e 1 v n xs) (hno : NoSR w e v)
    (a : Addr) (c : Nat) (u : Value) (hx : ac.eval x = .slice (some a) 1 c) (hnews : ∀ j x, ([u] : List Value)[j]? = some x → w.cell? (a.add j) = some x) (h1 : u.oneCell' = true) (hun : ∀ n, u ≠ .string n)
    (h63 : n + 1 ≤ maxLen) (hbytes : (n + 1) * bytes ≤ 140737488355328) (hbase : base ≤ w.heap.size)
    (h : ∀ v' w', w'.ownsRow base e 1 v' (n + 1) (xs ++ [u]) → w.grownBy w' v.ownBlock → NoSR w' e v' → wpList P ops Q rest (ac.put o.dst v') w') : wpList P ops Q (o :: rest) ac w := by
  refine wpList_plain hgd fun K hK => ?_
  obtain ⟨v', w', hr, h2, h3, h4⟩ := run_append_nos (P := P) w base t o.type e i z bytes ht hi hz hsize hby hzs hzn v n xs hown hno a c u hnews h1 hun h63 hbytes hbase
  unfold Oper.wp execOp
  simp only [ho, resolve, invoke, builtin, Sem.run_bind, Sem.run_pure, Result.andThen_ok, List.map_toArray, List.map_cons, List.map_nil, hs, hx, hr]
  exact hK _ _ (h v' w' h2 h3 h4)
theorem sh_grown2 {w w' : World} {h B : Nat} {K : Ly} {S : Sd} {e : TypeId} {v : Value} {n : Nat} {xs : List Value} (s : Sh w h K S) (ho : w.ownsRow B e 1 v n xs) (hB : h < B) (hno : NoSR w e v) (g : w.grownBy w' v.ownBlock) : Sh w' h K S := by
  rcases ho.2 with ⟨h1, _⟩ | ⟨b, cap, cur, h1, h2, h3, h4⟩
  · subst h1
    exact s.low ⟨g.os, g.tape, g.output, g.size, fun i hi => g.block i hi (fun e => by cases e)⟩
  · subst h1
    obtain ⟨cur', hb, hns⟩ := hno b rfl
    exact sh_ch1 s hb hns (by omega) ⟨g.os, g.tape, g.output, g.size, fun i hi hx => g.block i hi (fun e => by cases e; exact hx rfl)⟩
end Go.Proofs.Ytjjanogfcfapcaa.D
