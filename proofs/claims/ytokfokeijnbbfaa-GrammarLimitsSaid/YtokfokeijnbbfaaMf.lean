/-
  The law GrammarForm, for whatever grammar. Conditions: none.
-/
import Derived.Test.YtokfokeijnbbfaaLf
import Derived.Test.YtokfokeijnbbfaaOg
import Derived.Test.YtokfokeijnbbfaaPe
import Derived.Test.YtokfokeijnbbfaaLitK
import Derived.Test.YtokfokeijnbbfaaSw
import Derived.Test.YtokfokeijnbbfaaBx
set_option linter.unusedSimpArgs false
set_option linter.unusedVariables false
namespace Go.Proofs.Ytokfokeijnbbfaa.K
open Go Ev
set_option maxRecDepth 100000
set_option maxHeartbeats 4000000

theorem Cp_true {fns : Nat → Option IFn} {g : Nat} {M : MH} (hg : fns g = some Ftrue) : Cp fns g [] M fun m M' => m = .b true ∧ M' = M := by
  refine Cp_call hg (Nat.le_refl _) ?_
  show Wp fns (.reg [⟨some (.k1 .d0), none, .mov (.c (.b true))⟩]) _ M _
  simp only [Wp_reg_iff, Wl_op_iff, Wl_nil_iff, bindP_some, ev_mov, ev_c, setD_some, retQ_norm, show Ftrue.res = [.tmp (.k1 .d0)] from rfl, resL_1, res_set, if_true, Option.some.injEq, exists_eq_left']
  simp [packM]
theorem form_model (M : MH) (ms : List MV) (hx : Ext Mz M) (hlo : M.lo ≤ M.n) (ha : ArgsTyped Try.prog M [26] ms) : Cp fns 3 ms M fun m _ => m = .b true := by
  obtain ⟨m, r, rfl, h, rfl⟩ := ha
  obtain ⟨g, vr, vf, vc, vk, es, rfl, hg⟩ := gram_of h
  exact law_form hg hlo (fun M => Cp_true (by kernel_rfl)) (fun h1 h2 => prog_form h1 h2)
end Go.Proofs.Ytokfokeijnbbfaa.K
