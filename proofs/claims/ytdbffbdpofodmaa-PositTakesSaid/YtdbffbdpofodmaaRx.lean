/-
  Patterns that come in, in memory, whatever their Op is: what a value reads as; how many places the document counts, and how deep it finds a pattern. Conditions: as the theorems say.
-/
import Derived.Test.YtdbffbdpofodmaaPp
import Derived.Test.YtdbffbdpofodmaaReg2
import Derived.Test.YtdbffbdpofodmaaRParse
set_option linter.unusedSimpArgs false
namespace Go.Proofs.Ytdbffbdpofodmaa
open Go Go.RowKit Kit
/-- A pattern as a value. -/
def rx6 (op : Int) (x : BitVec 256) (sl : Value) : Value := .agg #[.int .i64 op, .int .u64 (wdN x 0), .int .u64 (wdN x 1), .int .u64 (wdN x 2), .int .u64 (wdN x 3), sl]
/-- The value reads as the pattern x; what it holds lies in blocks of which S. -/
inductive RxAt (S : Nat → Prop) (w : World) : Value → Rx → Prop where
  | mk (op : Int) (x : BitVec 256) (kids : List Rx) (A : Option Addr) (cap : Nat) (vs : Nat → Value) (h1 : kids.length ≤ cap) (h2 : cap ≤ maxLen)
      (hc : ∀ (j : Nat) (y : Rx), kids[j]? = some y → ∃ k o, A = some ⟨k, o, none⟩ ∧ S k ∧ ∃ a b c d e f, vs j = .agg #[a, b, c, d, e, f] ∧ w.cell? ⟨k, o + j * 6, none⟩ = some a ∧ w.cell? ⟨k, o + j * 6 + 1, none⟩ = some b ∧ w.cell? ⟨k, o + j * 6 + 2, none⟩ = some c ∧ w.cell? ⟨k, o + j * 6 + 3, none⟩ = some d ∧ w.cell? ⟨k, o + j * 6 + 4, none⟩ = some e ∧ w.cell? ⟨k, o + j * 6 + 5, none⟩ = some f)
      (hk : ∀ (j : Nat) (y : Rx), kids[j]? = some y → RxAt S w (vs j) y) : RxAt S w (rx6 op x (.slice A kids.length cap)) (.mk op x kids)
theorem RxAt.keep {S S' : Nat → Prop} {w w' : World} (hS : ∀ k, k < w.heap.size → S k → S' k ∧ w'.heap[k]? = w.heap[k]?) {u : Value} {x : Rx} (hr : RxAt S w u x) : RxAt S' w' u x := by
  have h : ∀ (a : Addr) (v : Value), S a.block → w.cell? a = some v → w'.cell? a = some v := fun a v ha hc => (World.cell?_of_block (hS a.block (World.block_lt_of_cell? w _ hc) ha).2).trans hc
  induction hr with
  | mk op x kids A cap vs h1 h2 hc hk ih =>
    refine .mk op x kids A cap vs h1 h2 (fun j y hj => ?_) (fun j y hj => ih j y hj)
    obtain ⟨k, o, e, hgk, a, b, c, d, e', f, hv, c0, c1, c2, c3, c4, c5⟩ := hc j y hj
    exact ⟨k, o, e, (hS k (World.block_lt_of_cell? w _ c0) hgk).1, a, b, c, d, e', f, hv, h _ _ hgk c0, h _ _ hgk c1, h _ _ hgk c2, h _ _ hgk c3, h _ _ hgk c4, h _ _ hgk c5⟩
theorem RxAt.kept {S : Nat → Prop} {w w' : World} {u : Value} {x : Rx} (hr : RxAt S w u x) (h : Kept w w') : RxAt S w' u x := hr.keep fun k hk hs => ⟨hs, h.block k hk⟩
theorem RxAt.weak {S S' : Nat → Prop} {w : World} {u : Value} {x : Rx} (hr : RxAt S w u x) (h : ∀ k, k < w.heap.size → S k → S' k) : RxAt S' w u x := hr.keep fun k hk hs => ⟨h k hk hs, rfl⟩
mutual
def Re.rx : Re → Rx
  | .mk op set kids => .mk op set (rxL kids)
def rxL : List Re → List Rx
  | [] => []
  | k :: r => k.rx :: rxL r
end
theorem rxL_get : ∀ (l : List Re) (j : Nat) (y : Rx), (rxL l)[j]? = some y → ∃ z, l[j]? = some z ∧ z.rx = y
  | [], j, y, h => by rw [rxL] at h; simp at h
  | k :: r, 0, y, h => by rw [rxL] at h; simp only [List.getElem?_cons_zero, Option.some.injEq] at h; exact ⟨k, rfl, h⟩
  | k :: r, j + 1, y, h => by rw [rxL] at h; simp only [List.getElem?_cons_succ] at h ⊢; exact rxL_get r j y h
theorem rxL_len : ∀ (l : List Re), (rxL l).length = l.length
  | [] => by rw [rxL]; rfl
  | k :: r => by rw [rxL]; simp [rxL_len r]
theorem RxAt.ofRe {S : Nat → Prop} {w : World} {u : Value} {x : Re} (h : ReAt S w u x) : RxAt S w u x.rx := by
  induction h with
  | mk op x kids A cap vs h1 h2 hc hk ih =>
    have := RxAt.mk (S := S) (w := w) op x (rxL kids) A cap vs (by rw [rxL_len]; exact h1) h2 (fun j y hj => by
      obtain ⟨z, hz, -⟩ := rxL_get kids j y hj
      obtain ⟨k, e, hs, a, b, c, d, e', f, hv, c0, c1, c2, c3, c4, c5⟩ := hc j z hz
      exact ⟨k, 0, e, hs, a, b, c, d, e', f, hv, by simpa using c0, by simpa using c1, by simpa using c2, by simpa using c3, by simpa using c4, by simpa using c5⟩) (fun j y hj => by
      obtain ⟨z, hz, rfl⟩ := rxL_get kids j y hj
      exact ih j z hz)
    rw [rxL_len] at this
    rw [Re.rx]
    exact this
/-- The kids that are looked at. -/
def lk (op : Int) (kids : List Rx) : List Rx := if op = 2 ∨ op = 3 then kids else if op = 4 ∨ op = 5 ∨ op = 6 then kids.take 1 else []
theorem cnt1_eq (kids : List Rx) : cnt1 kids = cntL (kids.take 1) := by
  match kids with
  | [] => rw [cnt1]; simp [cntL]
  | k :: r => rw [cnt1]; simp [cntL]
theorem deep1_eq (kids : List Rx) : deep1 kids = deepL (kids.take 1) := by
  match kids with
  | [] => rw [deep1]; simp [deepL]
  | k :: r => rw [deep1]; simp [deepL]
theorem cnt_eq (op : Int) (s : BitVec 256) (kids : List Rx) (h : ¬ op = 1) : cnt (.mk op s kids) = cntL (lk op kids) := by
  rw [cnt, if_neg h, lk]
  split
  · rfl
  · split
    · exact cnt1_eq kids
    · rw [cntL]
theorem deep_eq (op : Int) (s : BitVec 256) (kids : List Rx) : deep (.mk op s kids) = deepL (lk op kids) + 1 := by
  rw [deep, lk]
  split
  · rfl
  · split
    · rw [deep1_eq]
    · rw [deepL]
theorem cntL_snoc : ∀ (l : List Rx) (x : Rx), cntL (l ++ [x]) = cntL l + cnt x
  | [], x => by simp [cntL]
  | k :: r, x => by rw [List.cons_append, cntL, cntL, cntL_snoc r x]; omega
theorem deepL_snoc : ∀ (l : List Rx) (x : Rx), deepL (l ++ [x]) = max (deepL l) (deep x)
  | [], x => by simp [deepL]
  | k :: r, x => by rw [List.cons_append, deepL, deepL, deepL_snoc r x]; omega
theorem cntL_take_le (l : List Rx) : ∀ i, cntL (l.take i) ≤ cntL l := by
  induction l with
  | nil => intro i; simp
  | cons k r ih =>
    intro i
    match i with
    | 0 => simp [cntL]
    | i + 1 => rw [List.take_succ_cons, cntL, cntL]; have := ih i; omega
theorem deepL_take_le (l : List Rx) : ∀ i, deepL (l.take i) ≤ deepL l := by
  induction l with
  | nil => intro i; simp
  | cons k r ih =>
    intro i
    match i with
    | 0 => simp [deepL]
    | i + 1 => rw [List.take_succ_cons, deepL, deepL]; have := ih i; omega
theorem deepL_mem {l : List Rx} {i : Nat} {x : Rx} (h : l[i]? = some x) : deep x ≤ deepL l := by
  obtain ⟨hlt, rfl⟩ := List.getElem?_eq_some_iff.1 h
  have := deepL_take_le l (i + 1)
  rw [List.take_succ_eq_append_getElem hlt, deepL_snoc] at this
  omega
theorem take_at {α : Type} {l : List α} {i : Nat} {x : α} (h : l[i]? = some x) : l.take (i + 1) = l.take i ++ [x] := by
  obtain ⟨hlt, rfl⟩ := List.getElem?_eq_some_iff.1 h
  exact List.take_succ_eq_append_getElem hlt
theorem lk_pre (op : Int) (kids : List Rx) : ∀ (j : Nat) (y : Rx), (lk op kids)[j]? = some y → kids[j]? = some y := by
  intro j y h
  unfold lk at h
  split at h
  · exact h
  · split at h
    · rw [List.getElem?_take] at h
      split at h
      · exact h
      · simp at h
    · simp at h
theorem lk_len_le (op : Int) (kids : List Rx) : (lk op kids).length ≤ kids.length := by
  unfold lk
  split
  · exact Nat.le_refl _
  · split
    · rw [List.length_take]; omega
    · simp
end Go.Proofs.Ytdbffbdpofodmaa
