/-
  What the small functions of package regex do: which repeat a byte is, whether it is a mark, what some parts make. Conditions: no more parts than 100000.
-/
import Derived.Test.YtdbffbdpofodmaaCls
import Derived.Test.YtdbffbdpofodmaaRow0
import Derived.Lib.Bytealg
set_option linter.unusedSimpArgs false
namespace Go.Proofs.Ytdbffbdpofodmaa
open Go Go.RowKit Kit
theorem re6_form (op : Nat) (x : BitVec 256) (sl : Value) : re6 op x sl = .agg #[.int .i64 op, .int .u64 (wdN x 0), .int .u64 (wdN x 1), .int .u64 (wdN x 2), .int .u64 (wdN x 3), sl] := rfl
theorem zre_eq : zre = re6 0 0#256 (.slice none 0 0) := by unfold zre re6; simp only [wd_zero]; rfl
end Go.Proofs.Ytdbffbdpofodmaa
