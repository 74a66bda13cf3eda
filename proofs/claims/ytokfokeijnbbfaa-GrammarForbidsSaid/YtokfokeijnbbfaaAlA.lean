/-
  The inner functions alive of the laws of chapter 10 give true, and the law GrammarLimits for its twelve inputs: runs in the model. Conditions: none.
-/
import Derived.Test.YtokfokeijnbbfaaLitA
import Derived.Test.YtokfokeijnbbfaaAx
import Derived.KernelRfl
set_option linter.unusedSimpArgs false
namespace Go.Proofs.Ytokfokeijnbbfaa
open Go Go.RowKit Kit Ev
set_option maxRecDepth 1000000
noncomputable def gaveB (b : Bool) : Option (MV × MH) → Bool
  | some (.b c, _) => c == b
  | _ => false
theorem gave_some {b : Bool} {r : Option (MV × MH)} (h : gaveB b r = true) : ∃ M', r = some (.b b, M') := by
  unfold gaveB at h
  split at h
  · rename_i c M'
    simp only [beq_iff_eq] at h
    subst h
    exact ⟨M', rfl⟩
  · cases h
theorem globs : ∀ g, gtab g = none := fun _ => rfl
theorem openedz (w : World) : Opened Try.prog w Bz Mz := opened_none globs
theorem mixed : Try.prog.follows .mixedOrders = true := by kernel_rfl
theorem alive_of {g : Nat} (hr : gaveB true (callK fns 30000 g [] Mz fun m M => some (m, M)) = true) (w : World) : Calls Try.prog g #[] w fun e w' => e = .returned (.bool true) ∧ Kept w w' := by
  obtain ⟨M', h⟩ := gave_some (show gaveB true (callF fns 30000 g [] Mz) = true from (congrArg (gaveB true) (callK_eq fns 30000 g [] Mz)).symm.trans hr)
  have hO := openedz w
  refine (calls_run_at (P := Try.prog) mixed fns_ok 30000 g [] [] (.b true) Bz Mz M' w hO.glob hO.inv hO.ro h (DenL.nil _)).mono ?_
  rintro e w' ⟨v, β', rfl, hd, hk⟩
  cases hd
  exact ⟨rfl, hk⟩
theorem run6 : gaveB true (callK fns 30000 6 [] Mz fun m M => some (m, M)) = true := by kernel_rfl
theorem sem_alive6 : SemF Try.prog 6 Ftrue := by
  obtain ⟨c, hc⟩ : ∃ c, Try.f6.body = some c := Option.isSome_iff_exists.1 (by kernel_rfl)
  exact sem_true Try.func6 (by kernel_rfl) hc (alive_of run6)
theorem lim0_true : gaveB true (callK fns 30000 4 [.i .i64 0, .b true] Mz fun m M => some (m, M)) = true := by kernel_rfl
theorem lim0_false : gaveB true (callK fns 30000 4 [.i .i64 0, .b false] Mz fun m M => some (m, M)) = true := by kernel_rfl
theorem lim1_true : gaveB true (callK fns 30000 4 [.i .i64 1, .b true] Mz fun m M => some (m, M)) = true := by kernel_rfl
theorem lim1_false : gaveB true (callK fns 30000 4 [.i .i64 1, .b false] Mz fun m M => some (m, M)) = true := by kernel_rfl
theorem lim2_true : gaveB true (callK fns 30000 4 [.i .i64 2, .b true] Mz fun m M => some (m, M)) = true := by kernel_rfl
theorem lim2_false : gaveB true (callK fns 30000 4 [.i .i64 2, .b false] Mz fun m M => some (m, M)) = true := by kernel_rfl
theorem lim3_true : gaveB true (callK fns 30000 4 [.i .i64 3, .b true] Mz fun m M => some (m, M)) = true := by kernel_rfl
theorem lim3_false : gaveB true (callK fns 30000 4 [.i .i64 3, .b false] Mz fun m M => some (m, M)) = true := by kernel_rfl
theorem lim4_true : gaveB true (callK fns 30000 4 [.i .i64 4, .b true] Mz fun m M => some (m, M)) = true := by kernel_rfl
theorem lim4_false : gaveB true (callK fns 30000 4 [.i .i64 4, .b false] Mz fun m M => some (m, M)) = true := by kernel_rfl
theorem lim5_true : gaveB true (callK fns 30000 4 [.i .i64 5, .b true] Mz fun m M => some (m, M)) = true := by kernel_rfl
theorem lim5_false : gaveB true (callK fns 30000 4 [.i .i64 5, .b false] Mz fun m M => some (m, M)) = true := by kernel_rfl
end Go.Proofs.Ytokfokeijnbbfaa
