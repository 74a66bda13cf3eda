/-
  The law PositRows from its arguments. Conditions: none.
-/
import Derived.Test.YtaagkdljkpbilaaR5
import Derived.Test.YtaagkdljkpbilaaProg
import Derived.KernelRfl
set_option maxRecDepth 100000
set_option linter.unusedVariables false
namespace Go.Proofs.Ytaagkdljkpbilaa.Ev
open Go
theorem wf_of {z : Int} (h : (Lit.int .i64 z).wf = true) : -9223372036854775808 ≤ z ∧ z ≤ 9223372036854775807 := by
  simp only [Lit.wf, Bool.and_eq_true, decide_eq_true_eq] at h
  exact h
theorem typed_int {P : Program} {M : MH} {n : Nat} {e : TypeId} (hu : P.underlying e = some (.int .i64)) {x : List MV} (h : Typed P M n e x) : ∃ z, x = [.i .i64 z] ∧ -9223372036854775808 ≤ z ∧ z ≤ 9223372036854775807 := by
  cases n with
  | zero => exact h.elim
  | succ n =>
    simp only [Typed, hu] at h
    obtain ⟨z, rfl, hz⟩ := h
    exact ⟨z, rfl, wf_of hz⟩
end Go.Proofs.Ytaagkdljkpbilaa.Ev
namespace Go.Proofs.Ytaagkdljkpbilaa.Ev
open Go
theorem list_of {α : Type} {F : α → List MV} {W : α → Prop} : ∀ {es : List (List MV)}, (∀ x ∈ es, ∃ a, x = F a ∧ W a) → ∃ l : List α, es = l.map F ∧ ∀ a ∈ l, W a
  | [], _ => ⟨[], rfl, fun a ha => by cases ha⟩
  | x :: es, h => by
    obtain ⟨a, rfl, wa⟩ := h x List.mem_cons_self
    obtain ⟨l, rfl, hl⟩ := list_of fun y hy => h y (List.mem_cons_of_mem _ hy)
    exact ⟨a :: l, rfl, fun b hb => (List.mem_cons.1 hb).elim (fun e => e ▸ wa) (hl b)⟩
theorem typed_ints {P : Program} {M : MH} {n : Nat} {t e : TypeId} (ht : P.underlying t = some (.slice e)) (hu : P.underlying e = some (.int .i64)) (hc : P.cellsOf e = 1) {x : List MV} (h : Typed P M n t x) : ∃ (v : MV) (l : List Int), x = [v] ∧ RowAt M 1 v (l.map fun (z : Int) => [MV.i .i64 z]) ∧ (∀ z ∈ l, -9223372036854775808 ≤ z ∧ z ≤ 9223372036854775807) ∧ l.length ≤ 9223372036854775807 := by
  cases n with
  | zero => exact h.elim
  | succ n =>
    simp only [Typed, ht] at h
    obtain ⟨v, es, rfl, hr, hm, hl⟩ := h
    obtain ⟨l, rfl, hw⟩ := list_of (F := fun z => [MV.i .i64 z]) (W := fun z => -9223372036854775808 ≤ z ∧ z ≤ 9223372036854775807) fun x hx => typed_int hu (hl x hx)
    rw [hc] at hr
    rw [List.length_map] at hm
    exact ⟨v, l, rfl, hr, hw, hm⟩
end Go.Proofs.Ytaagkdljkpbilaa.Ev
namespace Go.Proofs.Ytaagkdljkpbilaa.K
open Go Ev
theorem rows_model (M : MH) (ms : List MV) (hx : Ext Mz M) (hlo : M.lo ≤ M.n) (ha : ArgsTyped Try.prog M [32] ms) : Cp fns 4 ms M fun m _ => m = .b true := by
  obtain ⟨m1, r1, rfl, ⟨n1, c1, t1, e1⟩, rfl⟩ := ha
  simp only [Try.underlying32] at e1
  subst e1
  obtain ⟨v, l, e, hr, hw, hm⟩ := typed_ints Try.underlying32 Try.underlying3 (by kernel_rfl) t1
  cases e
  have hn : 1 ≤ M.n := hx.n
  refine law_rows hlo hr ?_ hw hm
  obtain ⟨_, ⟨rfl, _⟩ | ⟨id, off, e, ro, s, c, rfl, _, h3, _⟩⟩ := hr
  · exact hn
  · exact h3
end Go.Proofs.Ytaagkdljkpbilaa.K
