/- The walks with their arguments in the cards' order. -/
import Derived.Test.YtbcgkjfhfegeaaaDoorRkc
import Derived.Test.YtbcgkjfhfegeaaaDoorRkd
import Derived.Test.YtbcgkjfhfegeaaaDoorRke
namespace Go.Proofs.YtbcgkjfhfegeaaaDoor
open Go.RowKit
set_option linter.unusedVariables false
theorem never_card (n0 : ByteArray) (t0 c0 : Nat) (sl0 : Value) (rc0 rk0 : Int) (ex0 : Nat) (n1 : ByteArray) (t1 c1 : Nat) (sl1 : Value) (rc1 rk1 : Int) (ex1 : Nat) (now : Nat)
    (_ : t0 < 65536) (_ : c0 < 65536) (_ : ex0 < 18446744073709551616) (_ : t1 < 65536) (_ : c1 < 65536) (_ : ex1 < 18446744073709551616) (_ : now < 18446744073709551616) (w : World) (hL : Lay w) :
    Calls Tryd.prog 5 #[entV n0 t0 c0 sl0 rc0 rk0 ex0, entV n1 t1 c1 sl1 rc1 rk1 ex1, .int .u64 (now : Nat)] w fun x w' => x = .returned (.bool true) ∧ Below w.heap.size w w' :=
  never_walk n0 n1 t0 c0 t1 c1 sl0 sl1 rc0 rc1 rk0 rk1 ex0 ex1 now w hL
theorem chain_card (n0 : ByteArray) (t0 c0 : Nat) (sl0 : Value) (rc0 rk0 : Int) (ex0 : Nat) (n1 : ByteArray) (t1 c1 : Nat) (sl1 : Value) (rc1 rk1 : Int) (ex1 : Nat) (n2 : ByteArray) (t2 c2 : Nat) (sl2 : Value) (rc2 rk2 : Int) (ex2 : Nat) (now later : Nat)
    (_ : t0 < 65536) (_ : c0 < 65536) (_ : ex0 < 18446744073709551616) (_ : t1 < 65536) (_ : c1 < 65536) (_ : ex1 < 18446744073709551616) (_ : t2 < 65536) (_ : c2 < 65536) (_ : ex2 < 18446744073709551616) (hn : now < 18446744073709551616) (hl : later < 4294967296) (w : World) (hL : Lay w) :
    Calls Tryd.prog 6 #[entV n0 t0 c0 sl0 rc0 rk0 ex0, entV n1 t1 c1 sl1 rc1 rk1 ex1, entV n2 t2 c2 sl2 rc2 rk2 ex2, .int .u64 (now : Nat), .int .u32 (later : Nat)] w fun x w' => x = .returned (.bool true) ∧ Below w.heap.size w w' :=
  chain_walk n0 n1 n2 t0 c0 t1 c1 t2 c2 sl0 sl1 sl2 rc0 rc1 rc2 rk0 rk1 rk2 ex0 ex1 ex2 now later hn hl w hL
theorem tells_card (s : Int) (aa : Bool) (r : Int) (a b : Nat) (e : Int) (now : Nat) (_ : (Lit.int .i64 s).wf = true) (_ : (Lit.int .i64 r).wf = true) (ha : a < 18446744073709551616) (_ : b < 18446744073709551616) (_ : (Lit.int .i64 e).wf = true) (_ : now < 18446744073709551616) (w : World) (hL : Lay w) :
    Calls Tryd.prog 3 #[.int .i64 s, .bool aa, .int .i64 r, .agg #[.int .u64 (a : Nat), .int .u64 (b : Nat)], .int .i64 e, .int .u64 (now : Nat)] w fun x w' => x = .returned (.bool true) ∧ Below w.heap.size w w' :=
  tells_walk s aa r a b e now ha w hL
end Go.Proofs.YtbcgkjfhfegeaaaDoor
