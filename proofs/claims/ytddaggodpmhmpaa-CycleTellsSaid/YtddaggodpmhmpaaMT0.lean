/-
  For every grammar the law CycleTells returns true, and its argument reads as before. Conditions: none.
-/
import Derived.Test.YtddaggodpmhmpaaRows
import Derived.Test.YtddaggodpmhmpaaMT6
import Derived.ProofKit
import Derived.OpenShut
import Derived.ChangeOld
import Derived.Lib.SmallJoins
import Derived.Deep.Slices
set_option linter.unusedSimpArgs false
set_option linter.unusedVariables false
namespace Go.Proofs.Ytddaggodpmhmpaa
open Go Go.RowKit Go.ChangeShapes Go.WideShapes Go.ChangeAt Kit Ev
theorem cycleTells_own : ownKnob Try.prog.godebug = none := by kernel_rfl
theorem cycleTells_laidOut : laidOutB Try.prog = true := by kernel_rfl
theorem cycleTells_closed : Closed Try.prog [26, 3, 22, 23, 24, 39, 53] := fun t ht => List.all_eq_true.1 (show ([26, 3, 22, 23, 24, 39, 53] : List Nat).all (typeOk Try.prog [26, 3, 22, 23, 24, 39, 53]) = true by kernel_rfl) t ht
set_option maxRecDepth 100000 in
set_option maxHeartbeats 2000000 in
theorem cycleTells_lifted (os : Os) (started : os.Started) (H : Type) (enc : TypeId × Value → H) :
    ReturnsInHanded {} Try.checked os 3 .any (Rows.cycleTellsSpec.pre6 enc Try.prog Try.f3 Rows.cycleTellsRow.domain false) (Rows.cycleTellsSpec.post enc Try.prog Try.f3 false true false false) := by
  refine returnsInHanded_of_change (C := Try.checked) cycleTells_own started (by kernel_rfl) Try.func3
    (ChangeSpec.witness6 (enc := enc) (C := Try.checked) false ⟨#[], #[.agg #[.int .i64 0, .int .i64 0, .int .i64 0, .slice none 0 0, .slice none 0 0, .slice none 0 0, .slice none 0 0]], []⟩ 8 (by kernel_rfl) (by kernel_rfl) (by kernel_rfl) (by kernel_rfl)) ?_
  intro W base args ds gs before hval0 hW hcnd _
  have hval : ∀ (j : Nat) t v, Try.f3.params[j]? = some t → args[j]? = some v → Value.okWide Try.prog W .any base t v := hval0
  have hW' := hW
  obtain ⟨p, q, hA0, hV, rfl, hfz, hnd⟩ := hW
  have hA : DataW.TrodAll enc Try.prog W 0 (fun _ => true) true Try.f3.params.toList args.toList ds p := hA0
  have hA2 : DataW.TrodAll enc Try.prog W 0 (fun _ => true) true [26] args.toList ds p := by rw [Try.params3] at hA; exact hA
  rw [Try.params3] at hA hval
  have hlaw := law_in (r := .any) (base := base) mixed K.fns_ok cycleTells_closed (show ∀ t ∈ ([26] : List Nat), t ∈ ([26, 3, 22, 23, 24, 39, 53] : List Nat) by decide) hA2 (fun j t v h1 h2 => hval j t v (by simpa using h1) (by simpa using h2)) (openedz W) K.tells_model
  obtain ⟨v0, vs0, d0, ds0, p0, q0, hargs, rfl, rfl, h0, r0⟩ := trodAll_cons hA
  obtain ⟨rfl, rfl, rfl⟩ := trodAll_nil r0
  obtain rfl : args = #[v0] := by cases args; simp_all
  obtain ⟨rfl, rfl⟩ := trodVars_none hV
  have lt0 : ∀ x ∈ p0, x.block < W.heap.size := by obtain ⟨m, hm⟩ := h0; exact DataW.trod_lt m _ _ _ hm
  clear hA0 hval0 hA2
  refine Calls.mono hlaw fun e W' ⟨he, bel⟩ => ?_
  subst he
  exact ⟨_, rfl, _, _, _, [], _, [], hW', trodAll_mk1 (shut_bool Try.underlying4 _), (trodAll_cons_mk (Below.trod cycleTells_laidOut (by kernel_rfl) (of_decide_eq_true (by kernel_rfl)) h0 bel lt0) trodAll_mk0), rfl, Below.frame bel _, fun h => by cases h⟩
theorem cycleTells_holds : Rows.CycleTellsSaid :=
  OpenClaim.holds_of_wide 3 Try.f3 rfl rfl rfl rfl rfl rfl rfl ⟨rfl, rfl, rfl, rfl, rfl⟩ rfl rfl rfl rfl rfl (by kernel_rfl) Try.func3 (by kernel_rfl)
    (of_decide_eq_true (by kernel_rfl)) (by unfold Func.isWrapper; first | (rw [if_pos (by decide +kernel)]; kernel_rfl) | (rw [if_neg (by decide +kernel)]; exact ⟨rfl, rfl⟩))
    (fun os started H enc _ => cycleTells_lifted os started H enc)
end Go.Proofs.Ytddaggodpmhmpaa
