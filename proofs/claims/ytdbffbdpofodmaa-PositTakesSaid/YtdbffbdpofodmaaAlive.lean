/-
  The examples of the document run as it says. Conditions: none.
-/
import Derived.Test.YtdbffbdpofodmaaParse
set_option linter.unusedSimpArgs false
namespace Go.Proofs.Ytdbffbdpofodmaa
open Go Go.RowKit Kit
def Re.op : Re → Nat | .mk o _ _ => o
def Re.set : Re → BitVec 256 | .mk _ x _ => x
end Go.Proofs.Ytdbffbdpofodmaa
