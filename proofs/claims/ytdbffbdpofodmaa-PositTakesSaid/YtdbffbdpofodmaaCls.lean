/-
  What regex.class reads: a set of bytes. Conditions: the text is no longer than 200 bytes, and the reader stands at a byte of it.
-/
import Derived.Test.YtdbffbdpofodmaaSets
import Derived.Deep.LoopGhost
set_option linter.unusedSimpArgs false
namespace Go.Proofs.Ytdbffbdpofodmaa
open Go Go.RowKit Kit
def zre : Value := .agg #[.int .i64 0, .int .u64 0, .int .u64 0, .int .u64 0, .int .u64 0, .slice none 0 0]
def clsOut (n : Bool) (R : Res (BitVec 256)) : Res Re := match R with | .err e j => .err e j | .ok x j => .ok (.mk 1 (if n then ~~~ x else x) []) j
end Go.Proofs.Ytdbffbdpofodmaa
