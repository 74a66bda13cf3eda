/-
  What every row of this seat asks: the program is laid out, and owes nothing to the environment.
-/
import Derived.Test.YtpnmcinbohdmhaaRows
import Derived.Test.YtpnmcinbohdmhaaBytes
import Derived.ProofKit
import Derived.OpenShut
import Derived.ChangeOld
import Derived.Lib.SmallJoins
namespace Go.Proofs.Ytpnmcinbohdmhaa
open Go Go.RowKit Go.ChangeShapes Go.WideShapes Go.ChangeAt Go.Joins Kit
theorem own : ownKnob Try.prog.godebug = none := by kernel_rfl
theorem laidOut : laidOutB Try.prog = true := by kernel_rfl
end Go.Proofs.Ytpnmcinbohdmhaa
