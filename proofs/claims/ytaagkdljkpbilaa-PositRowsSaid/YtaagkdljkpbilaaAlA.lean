/-
  The inner functions alive of the laws of chapter 10 give true, and the law GrammarLimits for its twelve inputs: runs in the model. Conditions: none.
-/
import Derived.Test.YtaagkdljkpbilaaLitA
import Derived.Test.YtaagkdljkpbilaaAx
import Derived.KernelRfl
set_option linter.unusedSimpArgs false
namespace Go.Proofs.Ytaagkdljkpbilaa
open Go Go.RowKit Kit Ev
set_option maxRecDepth 1000000
noncomputable def gaveB (b : Bool) : Option (MV × MH) → Bool
  | some (.b c, _) => c == b
  | _ => false
theorem gave_some {b : Bool} {r : Option (MV × MH)} (h : gaveB b r = true) : ∃ M', r = some (.b b, M') := by
  unfold gaveB at h
  split at h
  · rename_i c M'
    simp only [beq_iff_eq] at h
    subst h
    exact ⟨M', rfl⟩
  · cases h
theorem globs : ∀ g, gtab g = none := fun _ => rfl
theorem openedz (w : World) : Opened Try.prog w Bz Mz := opened_none globs
theorem mixed : Try.prog.follows .mixedOrders = true := by kernel_rfl
theorem alive_of {g : Nat} (hr : gaveB true (callK fns 30000 g [] Mz fun m M => some (m, M)) = true) (w : World) : Calls Try.prog g #[] w fun e w' => e = .returned (.bool true) ∧ Kept w w' := by
  obtain ⟨M', h⟩ := gave_some (show gaveB true (callF fns 30000 g [] Mz) = true from (congrArg (gaveB true) (callK_eq fns 30000 g [] Mz)).symm.trans hr)
  have hO := openedz w
  refine (calls_run_at (P := Try.prog) mixed fns_ok 30000 g [] [] (.b true) Bz Mz M' w hO.glob hO.inv hO.ro h (DenL.nil _)).mono ?_
  rintro e w' ⟨v, β', rfl, hd, hk⟩
  cases hd
  exact ⟨rfl, hk⟩
theorem run7 : gaveB true (callK fns 30000 7 [] Mz fun m M => some (m, M)) = true := by kernel_rfl
theorem sem_alive7 : SemF Try.prog 7 Ftrue := by
  obtain ⟨c, hc⟩ : ∃ c, Try.f7.body = some c := Option.isSome_iff_exists.1 (by kernel_rfl)
  exact sem_true Try.func7 (by kernel_rfl) hc (alive_of run7)
end Go.Proofs.Ytaagkdljkpbilaa
