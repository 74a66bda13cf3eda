/-
  The law PositLimits from its arguments. Conditions: none.
-/
import Derived.Test.YtaagkdljkpbilaaL2
import Derived.Test.YtaagkdljkpbilaaProg
set_option maxRecDepth 100000
set_option linter.unusedVariables false
namespace Go.Proofs.Ytaagkdljkpbilaa.Ev
open Go
theorem wf_of {z : Int} (h : (Lit.int .i64 z).wf = true) : -9223372036854775808 ≤ z ∧ z ≤ 9223372036854775807 := by
  simp only [Lit.wf, Bool.and_eq_true, decide_eq_true_eq] at h
  exact h
theorem typed_int {P : Program} {M : MH} {n : Nat} {e : TypeId} (hu : P.underlying e = some (.int .i64)) {x : List MV} (h : Typed P M n e x) : ∃ z, x = [.i .i64 z] ∧ -9223372036854775808 ≤ z ∧ z ≤ 9223372036854775807 := by
  cases n with
  | zero => exact h.elim
  | succ n =>
    simp only [Typed, hu] at h
    obtain ⟨z, rfl, hz⟩ := h
    exact ⟨z, rfl, wf_of hz⟩
theorem typed_bool {P : Program} {M : MH} {n : Nat} {e : TypeId} (hu : P.underlying e = some .bool) {x : List MV} (h : Typed P M n e x) : ∃ z, x = [.b z] := by
  cases n with
  | zero => exact h.elim
  | succ n =>
    simp only [Typed, hu] at h
    exact h
end Go.Proofs.Ytaagkdljkpbilaa.Ev
namespace Go.Proofs.Ytaagkdljkpbilaa.K
open Go Ev
theorem limits_model (M : MH) (ms : List MV) (hx : Ext Mz M) (hlo : M.lo ≤ M.n) (ha : ArgsTyped Try.prog M [3, 4] ms) : Cp fns 5 ms M fun m _ => m = .b true := by
  obtain ⟨m1, r1, rfl, ⟨n1, c1, t1, e1⟩, m2, r2, rfl, ⟨n2, c2, t2, e2⟩, rfl⟩ := ha
  simp only [Try.underlying3] at e1
  simp only [Try.underlying4] at e2
  subst e1 e2
  obtain ⟨a, e, wa⟩ := typed_int Try.underlying3 t1
  cases e
  obtain ⟨b, e⟩ := typed_bool Try.underlying4 t2
  cases e
  exact law_limits hlo
end Go.Proofs.Ytaagkdljkpbilaa.K
