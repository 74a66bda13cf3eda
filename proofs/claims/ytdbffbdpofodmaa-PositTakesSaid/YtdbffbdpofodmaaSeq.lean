/-
  What regex.sequence reads. Conditions: the text is no longer than 200 bytes, and the reader stands within it.
-/
import Derived.Test.YtdbffbdpofodmaaRep
set_option linter.unusedSimpArgs false
namespace Go.Proofs.Ytdbffbdpofodmaa
open Go Go.RowKit Kit
theorem seqL_on {G : Nat → Res Re} {s : ByteArray} {acc : List Re} {k : Nat} (h : goesOn s k = true) : seqL G s acc k = match repP G s k with | .err e j => .err e j | .ok x j => if _h2 : k < j then seqL G s (acc ++ [x]) j else .err 0 0 := by
  rw [seqL, dif_pos h]
  cases repP G s k <;> rfl
theorem seqL_off {G : Nat → Res Re} {s : ByteArray} {acc : List Re} {k : Nat} (h : goesOn s k = false) : seqL G s acc k = .ok (gather 2 acc) k := by
  rw [seqL, dif_neg (by rw [h]; simp)]
theorem six_re (op n cap : Nat) (x : BitVec 256) (A : Option Addr) : Six (re6 op x (.slice A n cap)) := ⟨_, _, _, _, _, rfl⟩
theorem six_cells {w : World} {k o1 n1 p1 : Nat} {s1 : BitVec 256} {A1 : Option Addr} (hb : w.heap[k]? = some (.cells #[.int .i64 o1, .int .u64 (wdN s1 0), .int .u64 (wdN s1 1), .int .u64 (wdN s1 2), .int .u64 (wdN s1 3), .slice A1 n1 p1] 26 (0, 0))) :
    ∀ (j : Nat) (c : Value), (cellsOf (re6 o1 s1 (.slice A1 n1 p1)))[j]? = some c → w.cell? ⟨k, j, none⟩ = some c := by
  intro j c hj
  rw [blk_cell hb]
  have e : cellsOf (re6 o1 s1 (.slice A1 n1 p1)) = [.int .i64 o1, .int .u64 (wdN s1 0), .int .u64 (wdN s1 1), .int .u64 (wdN s1 2), .int .u64 (wdN s1 3), .slice A1 n1 p1] := rfl
  rw [e] at hj
  rw [← Array.getElem?_toList]
  exact hj
end Go.Proofs.Ytdbffbdpofodmaa
