/- The number of slots behind deeds (for ShardRoom). -/
import Derived.Test.YtjjanogfcfapcaaVfa
import Derived.Test.YtjjanogfcfapcaaVdv
import Derived.Test.YtjjanogfcfapcaaVdz
namespace Go.Proofs.Ytjjanogfcfapcaa.D
set_option linter.unusedVariables false

theorem doS_ok {S : Sd} (ok : S.Ok) (D : Dd) : (doS S D).Ok := by
  unfold doS
  split
  · exact insS_ok ok _ _
  · split
    · exact lookS_ok ok _ _
    · split
      · exact evS_ok ok _
      · exact advS_ok ok _
theorem run_len : ∀ (l : List Dd) (S : Sd), S.Ok → (l.foldl doS S).P.c.length = S.P.c.length
  | [], S, _ => rfl
  | D :: l, S, ok => by
    show (l.foldl doS (doS S D)).P.c.length = _
    rw [run_len l _ (doS_ok ok D), doS_len ok]
theorem runS4 (l : List Dd) : (runS 4 l).P.c.length = 4 := by
  unfold runS
  rw [run_len l _ (newS_ok (by omega) (by omega))]
  simp [newS, newM]
theorem ins_len {S : Sd} (ok : S.Ok) (e : En) (now : Nat) : (insS S e now).1.P.c.length = S.P.c.length := by
  have := doS_len ok ⟨0, ⟨e, none, 0⟩, now⟩
  exact this
theorem nw_up {w : World} {h : Nat} {K : Ly} {S : Sd} {A : Option Addr} (s : Sh w h K S) (n : Nw w.heap.size A) : ∀ b off, A = some ⟨b, off, none⟩ → h < b := fun b off e => Nat.lt_of_lt_of_le (sh_lt s).1 (n b off e)
theorem up_ch {α : Type} {f : α → List Value} {w w' : World} {h : Nat} {K : Ly} {S : Sd} {A : Option Addr} {c : Nat} {l : List α} (s : Sh w h K S) (sl : Sl f w A c l) (u : ∀ b off, A = some ⟨b, off, none⟩ → h < b) (hc : Ch K.X w w') : Sl f w' A c l := sl.ch hc (fun b off e _ hX => by have := u b off e; have := (sh_lt s).2 b hX; omega)
end Go.Proofs.Ytjjanogfcfapcaa.D
