/-
  The law TokensKept in the model, for whatever tokens. Conditions: none.
-/
import Derived.Test.YtnplnpemnadpoaaGreatDoorLk
set_option linter.unusedSimpArgs false
set_option linter.unusedVariables false
set_option maxRecDepth 100000
namespace Go.Proofs.YtnplnpemnadpoaaGreatDoor.K
open Go Ev
theorem tok_of {M : MH} {n : Nat} {x : List MV} (h : Typed Tryz.prog M n 44 x) : IsTok x := by
  cases n with
  | zero => exact h.elim
  | succ n =>
    simp only [Typed, Tryz.underlying44] at h
    cases n with
    | zero => obtain ⟨a, b, _, h, _⟩ := h; exact h.elim
    | succ n =>
      simp only [TypedFs, Typed, Tryz.underlying3] at h
      obtain ⟨_, _, rfl, ⟨a, rfl, _⟩, _, _, rfl, ⟨b, rfl, _⟩, _, _, rfl, ⟨c, rfl, _⟩, _, _, rfl, ⟨d, rfl, _⟩, _, _, rfl, ⟨e, rfl, _⟩, rfl⟩ := h
      exact ⟨a, b, c, d, e, rfl⟩
theorem law_model (M : MH) (ms : List MV) (hx : Ext (Mtab tabZ) M) (hlo : M.lo ≤ M.n) (ha : ArgsTyped Tryz.prog M [28] ms) : Cp fns 5 ms M fun m _ => m = .b true := by
  obtain ⟨m, r, rfl, ⟨n, cs, h1, h2⟩, rfl⟩ := ha
  simp only [Tryz.underlying28] at h2
  subst h2
  cases n with
  | zero => exact h1.elim
  | succ n =>
    simp only [Typed, Tryz.underlying28] at h1
    obtain ⟨v, es, e, hr, _, ht⟩ := h1
    injection e with e _
    subst e
    rw [show Tryz.prog.cellsOf 44 = 5 from by kernel_rfl] at hr
    refine law_any hr (fun e he => tok_of (ht e he)) hlo ((Cp_tab (tab := tabZ) (by kernel_rfl) hx).mono ?_)
    rintro m M' ⟨rfl, rfl⟩
    exact ⟨rfl, Ext.refl _⟩
end Go.Proofs.YtnplnpemnadpoaaGreatDoor.K
