/-
  The inner function alive of the laws of chapter 8 gives true: a run of it in the model. Conditions: the table of math/bits reads as the text lays it.
-/
import Derived.Test.YtnplnpemnadpoaaGreatDoorLits
import Derived.Test.YtnplnpemnadpoaaGreatDoorAx
import Derived.KernelRfl
set_option linter.unusedSimpArgs false
namespace Go.Proofs.YtnplnpemnadpoaaGreatDoor
open Go Go.RowKit Kit Ev
set_option maxRecDepth 1000000
def tabZ : List Int := [0, 1, 56, 2, 57, 49, 28, 3, 61, 58, 42, 50, 38, 29, 17, 4, 62, 47, 59, 36, 45, 43, 51, 22, 53, 39, 33, 30, 24, 18, 12, 5, 63, 55, 48, 27, 60, 41, 37, 16, 46, 35, 44, 21, 52, 32, 23, 11, 54, 26, 40, 15, 34, 20, 31, 10, 25, 14, 19, 9, 13, 8, 7, 6]
def Tab (w : World) : Prop := ∀ i, i < tabZ.length → w.cell? ⟨0, i, none⟩ = some (.int .u8 (tabZ.getD i 0))
noncomputable def gaveB (b : Bool) : Option (MV × MH) → Bool
  | some (.b c, _) => c == b
  | _ => false
theorem gave_some {b : Bool} {r : Option (MV × MH)} (h : gaveB b r = true) : ∃ M', r = some (.b b, M') := by
  unfold gaveB at h
  split at h
  · rename_i c M'
    simp only [beq_iff_eq] at h
    subst h
    exact ⟨M', rfl⟩
  · cases h
theorem alive_run : gaveB true (callK fns 30000 7 [] (Mtab tabZ) fun m M => some (m, M)) = true := by kernel_rfl
theorem opened0 {w : World} (h : Tab w) : Opened Tryz.prog w (Btab 64) (Mtab tabZ) := opened_tab (fun g id cap e => by
  unfold gtab at e
  split at e
  · rename_i hg
    injection e with e
    injection e with e1 e2
    exact ⟨hg, e1.symm, e2.symm⟩
  · cases e) (by decide) h
theorem mixed : Tryz.prog.follows .mixedOrders = true := by kernel_rfl
theorem alive_any (w : World) (ht : Tab w) : Calls Tryz.prog 7 #[] w fun e w' => e = .returned (.bool true) ∧ Kept w w' := by
  obtain ⟨M', h⟩ := gave_some (show gaveB true (callF fns 30000 7 [] (Mtab tabZ)) = true from (congrArg (gaveB true) (callK_eq fns 30000 7 [] (Mtab tabZ))).symm.trans alive_run)
  have hO := opened0 ht
  refine (calls_run_at (P := Tryz.prog) mixed fns_ok 30000 7 [] [] (.b true) (Btab 64) (Mtab tabZ) M' w hO.glob hO.inv hO.ro h (DenL.nil _)).mono ?_
  rintro e w' ⟨v, β', rfl, hd, hk⟩
  cases hd
  exact ⟨rfl, hk⟩
theorem sem_alive : SemF Tryz.prog 7 (Ftab tabZ) := by
  obtain ⟨c, hc⟩ : ∃ c, Tryz.f7.body = some c := Option.isSome_iff_exists.1 (by kernel_rfl)
  exact sem_tab (q := 64) rfl Tryz.func7 (by kernel_rfl) hc alive_any
end Go.Proofs.YtnplnpemnadpoaaGreatDoor
