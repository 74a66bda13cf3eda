/-
  The inner function alive of the laws of chapter 6 gives true: a run of it in the model. Conditions: none.
-/
import Derived.Test.YtjlhopfmhhafoaaLits
import Derived.Test.YtjlhopfmhhafoaaBytes
import Derived.KernelRfl
set_option linter.unusedSimpArgs false
namespace Go.Proofs.Ytjlhopfmhhafoaa
open Go Go.RowKit Kit Ev
set_option maxRecDepth 100000
noncomputable def gaveB (b : Bool) : Option (MV × MH) → Bool
  | some (.b c, _) => c == b
  | _ => false
theorem gave_some {b : Bool} {r : Option (MV × MH)} (h : gaveB b r = true) : ∃ M', r = some (.b b, M') := by
  unfold gaveB at h
  split at h
  · rename_i c M'
    simp only [beq_iff_eq] at h
    subst h
    exact ⟨M', rfl⟩
  · cases h
noncomputable def M0 : MH := ⟨.lf, 0, 0⟩
theorem alive_run : gaveB true (callK fns 4000 6 [] M0 fun m M => some (m, M)) = true := by kernel_rfl
theorem glob0 : GlobOk fun _ => none := by
  intro g id cap e
  cases e
theorem alive_any (w : World) : Calls Try.prog 6 #[] w fun e w' => e = .returned (.bool true) ∧ Kept w w' := by
  obtain ⟨M', h⟩ := gave_some (show gaveB true (callF fns 4000 6 [] M0) = true from (congrArg (gaveB true) (callK_eq fns 4000 6 [] M0)).symm.trans alive_run)
  have hm : Try.prog.follows .mixedOrders = true := by kernel_rfl
  refine Calls.mono (calls_run (P := Try.prog) hm fns_ok 4000 6 [] [] (.b true) M' h (DenL.nil _) glob0 w) ?_
  rintro e w' ⟨v, β', rfl, hd, hk⟩
  cases hd
  exact ⟨rfl, hk⟩
end Go.Proofs.Ytjlhopfmhhafoaa
