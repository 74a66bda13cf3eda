/-
  The inner function alive of the laws of chapter 4 gives true: a run of it in the model. Conditions: none.
-/
import Derived.Test.YtdbffbdpofodmaaEvB
import Derived.Test.YtdbffbdpofodmaaBytes
import Derived.Test.YtdbffbdpofodmaaProg
import Derived.KernelRfl
set_option linter.unusedSimpArgs false
namespace Go.Proofs.Ytdbffbdpofodmaa
open Go Go.RowKit Kit Ev
set_option maxRecDepth 100000
noncomputable def fns : Nat → Option IFn
  | 8 => cmpF Try.prog Try.f8
  | 10 => cmpF Try.prog Try.f10
  | 13 => cmpF Try.prog Try.f13
  | 15 => cmpF Try.prog Try.f15
  | 19 => cmpF Try.prog Try.f19
  | 20 => cmpF Try.prog Try.f20
  | 21 => cmpF Try.prog Try.f21
  | 22 => cmpF Try.prog Try.f22
  | 29 => cmpF Try.prog Try.f29
  | 30 => cmpF Try.prog Try.f30
  | 31 => cmpF Try.prog Try.f31
  | 34 => cmpF Try.prog Try.f34
  | 35 => cmpF Try.prog Try.f35
  | 36 => cmpF Try.prog Try.f36
  | 37 => cmpF Try.prog Try.f37
  | 38 => cmpF Try.prog Try.f38
  | 39 => cmpF Try.prog Try.f39
  | 40 => cmpF Try.prog Try.f40
  | 41 => cmpF Try.prog Try.f41
  | 42 => cmpF Try.prog Try.f42
  | 46 => cmpF Try.prog Try.f46
  | 47 => cmpF Try.prog Try.f47
  | 48 => cmpF Try.prog Try.f48
  | 49 => cmpF Try.prog Try.f49
  | 50 => cmpF Try.prog Try.f50
  | 51 => cmpF Try.prog Try.f51
  | 52 => cmpF Try.prog Try.f52
  | 53 => cmpF Try.prog Try.f53
  | 55 => cmpF Try.prog Try.f55
  | _ => none
theorem fns_ok : ∀ g fn, fns g = some fn → FitsF Try.prog g fn := by
  intro g fn h
  unfold fns at h
  split at h
  · exact cmpF_fits Try.func8 h
  · exact cmpF_fits Try.func10 h
  · exact cmpF_fits Try.func13 h
  · exact cmpF_fits Try.func15 h
  · exact cmpF_fits Try.func19 h
  · exact cmpF_fits Try.func20 h
  · exact cmpF_fits Try.func21 h
  · exact cmpF_fits Try.func22 h
  · exact cmpF_fits Try.func29 h
  · exact cmpF_fits Try.func30 h
  · exact cmpF_fits Try.func31 h
  · exact cmpF_fits Try.func34 h
  · exact cmpF_fits Try.func35 h
  · exact cmpF_fits Try.func36 h
  · exact cmpF_fits Try.func37 h
  · exact cmpF_fits Try.func38 h
  · exact cmpF_fits Try.func39 h
  · exact cmpF_fits Try.func40 h
  · exact cmpF_fits Try.func41 h
  · exact cmpF_fits Try.func42 h
  · exact cmpF_fits Try.func46 h
  · exact cmpF_fits Try.func47 h
  · exact cmpF_fits Try.func48 h
  · exact cmpF_fits Try.func49 h
  · exact cmpF_fits Try.func50 h
  · exact cmpF_fits Try.func51 h
  · exact cmpF_fits Try.func52 h
  · exact cmpF_fits Try.func53 h
  · exact cmpF_fits Try.func55 h
  · cases h
noncomputable def gaveB (b : Bool) : Option (MV × MH) → Bool
  | some (.b c, _) => c == b
  | _ => false
theorem alive_run : gaveB true (callF fns 3000 8 [] ⟨.lf, 0, 0⟩) = true := by kernel_rfl
theorem alive_any (w : World) : Calls Try.prog 8 #[] w fun e w' => e = .returned (.bool true) ∧ Kept w w' := by
  obtain ⟨M', h⟩ : ∃ M', callF fns 3000 8 [] ⟨.lf, 0, 0⟩ = some (.b true, M') := by
    have h := alive_run
    unfold gaveB at h
    split at h
    · rename_i c M' h2
      simp only [beq_iff_eq] at h
      subst h
      exact ⟨M', h2⟩
    · cases h
  refine (calls_run (by kernel_rfl) fns_ok 3000 8 [] [] (.b true) M' h (DenL.nil _) w).mono ?_
  rintro e w' ⟨v, β', rfl, hd, hk⟩
  cases hd
  exact ⟨rfl, hk⟩
end Go.Proofs.Ytdbffbdpofodmaa
