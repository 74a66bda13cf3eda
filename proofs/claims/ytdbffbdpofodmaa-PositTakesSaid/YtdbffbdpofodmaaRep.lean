/-
  What regex.repeated reads. Conditions: the text is no longer than 200 bytes, and the reader stands at a byte of it.
-/
import Derived.Test.YtdbffbdpofodmaaSm
set_option linter.unusedSimpArgs false
namespace Go.Proofs.Ytdbffbdpofodmaa
open Go Go.RowKit Kit
theorem Kit.ReAt.wrap {S : Nat → Prop} {w : World} {o1 n1 p1 nb : Nat} {s1 : BitVec 256} {A1 : Option Addr} {y : Re} (h : ReAt S w (re6 o1 s1 (.slice A1 n1 p1)) y) (hb : w.heap[nb]? = some (.cells #[.int .i64 o1, wd s1 0, wd s1 1, wd s1 2, wd s1 3, .slice A1 n1 p1] 26 (0, 0))) (hS : S nb) (op : Nat) :
    ReAt S w (re6 op 0#256 (.slice (some ⟨nb, 0, none⟩) 1 1)) (.mk op 0#256 [y]) := by
  obtain ⟨⟨c0, c1, c2, c3, c4, c5⟩, -⟩ := box6 hb
  refine .mk op 0#256 [y] (some ⟨nb, 0, none⟩) 1 (fun _ => re6 o1 s1 (.slice A1 n1 p1)) (by simp) (by decide) (fun j z hj => ?_) (fun j z hj => ?_)
  · match j, hj with
    | 0, _ => exact ⟨nb, rfl, hS, _, _, _, _, _, _, rfl, c0, c1, c2, c3, c4, c5⟩
  · match j, hj with
    | 0, hj => simp at hj; subst hj; exact h
theorem repL_in {s : ByteArray} {k : Nat} {c : UInt8} (h : byteAt s k = some c) (x : Re) : repL s x k = if repOp c = 0 then (x, k) else repL s (.mk (repOp c) 0#256 [x]) (k + 1) := by
  rw [repL]
  split
  · rename_i h2; rw [h] at h2; cases h2
  · rename_i d h2; rw [h] at h2; cases h2; rfl
theorem repL_out {s : ByteArray} {k : Nat} (h : byteAt s k = none) (x : Re) : repL s x k = (x, k) := by
  rw [repL]
  split
  · rfl
  · rename_i d h2; rw [h] at h2; cases h2
theorem Kit.ReAt.set {S : Nat → Prop} {w : World} {u : Value} {x : Re} (h : ReAt S w u x) {p : Addr} (hp : ¬ S p.block) (v : Value) : ReAt S (w.setCell p v) u x :=
  h.keep (fun _ _ h => h) fun a y ha hc => by
    rw [World.cell?_setCell_other _ _ _ _ (fun e => hp (by rw [e]; exact ha))]
    exact hc
end Go.Proofs.Ytdbffbdpofodmaa
