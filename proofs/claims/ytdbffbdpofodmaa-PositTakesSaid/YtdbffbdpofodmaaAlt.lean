/-
  What regex.alternative reads. Conditions: the text is no longer than 200 bytes, and the reader stands within it.
-/
import Derived.Test.YtdbffbdpofodmaaSeq
set_option linter.unusedSimpArgs false
namespace Go.Proofs.Ytdbffbdpofodmaa
open Go Go.RowKit Kit
theorem altL_eq {G : Nat → Res Re} {s : ByteArray} {acc : List Re} {k : Nat} : altL G s acc k = match seqL G s [] k with | .err e j => .err e j | .ok x j => if byteAt s j = some 124 then if k ≤ j then altL G s (acc ++ [x]) (j + 1) else .err 0 0 else .ok (gather 3 (acc ++ [x])) j := by
  rw [altL]
  cases seqL G s [] k <;> rfl
end Go.Proofs.Ytdbffbdpofodmaa
