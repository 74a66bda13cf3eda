/-
  The places of a row of sets, each of which may be repeated, or left out. Conditions: none.
-/
import Derived.Test.YtaagkdljkpbilaaL1
import Derived.Test.YtaagkdljkpbilaaLitK
import Derived.Test.YtaagkdljkpbilaaSw
import Derived.Test.YtaagkdljkpbilaaBx
set_option linter.unusedSimpArgs false
set_option linter.unusedVariables false
namespace Go.Proofs.Ytaagkdljkpbilaa.K
open Go Ev
set_option maxRecDepth 100000
set_option maxHeartbeats 4000000

def leaf1 : Rx := .mk 1 0 0 0 0 []
def zRe : List MV := [.i .i64 0, .i .u64 0, .i .u64 0, .i .u64 0, .i .u64 0, .nils]
def nl (o : Nat) : Bool := o == 1 || o == 3
def lp (o : Nat) : Bool := o == 1 || o == 2
def kidR (o : Nat) : Rx := if o = 0 then leaf1 else .mk (3 + (o : Int)) 0 0 0 0 [leaf1]
theorem leaf_part (st : Bs) : partM leaf1 st = placeM (st4 0 0 0 0) st := by
  have : cnt leaf1 ≠ 0 := by unfold leaf1; rw [cnt, if_pos rfl]; omega
  unfold leaf1 at this ⊢
  rw [partM, if_neg this, if_pos rfl]
theorem link_self {fol : List Nat} {n : Nat} (h : fol.length = n) : linkM (fol ++ [0]) (2 ^ n) (2 ^ n) = fol ++ [2 ^ n] := by
  refine List.ext_getElem? fun j => ?_
  unfold linkM
  rw [List.getElem?_mapIdx]
  by_cases hj : j < n
  · rw [List.getElem?_append_left (by omega), List.getElem?_append_left (by omega)]
    cases fol[j]? with
    | none => rfl
    | some f =>
      rw [Option.map_some, Nat.testBit_two_pow, decide_eq_false (by omega)]
      rfl
  · rw [List.getElem?_append_right (by omega), List.getElem?_append_right (by omega)]
    by_cases e : j = n
    · subst e
      rw [h, Nat.sub_self]
      simp [Nat.testBit_two_pow]
    · have : j - fol.length = (j - fol.length - 1) + 1 := by omega
      rw [this]
      simp
theorem kid_part {o : Nat} (ho : o < 4) {st : Bs} (h : st.fol.length = st.sets.length) : partM (kidR o) st = (⟨nl o, 2 ^ st.sets.length, 2 ^ st.sets.length⟩, ⟨st.sets ++ [st4 0 0 0 0], st.fol ++ [if lp o = true then 2 ^ st.sets.length else 0]⟩) := by
  have hl := link_self (n := st.sets.length) h
  have hc : ∀ op : Int, op = 4 ∨ op = 5 ∨ op = 6 → partM (.mk op 0 0 0 0 [leaf1]) st = repP op (placeM (st4 0 0 0 0) st) := fun op hop => by
    have : cnt (.mk op 0 0 0 0 [leaf1]) ≠ 0 := by
      rw [cnt, if_neg (by omega), if_neg (by omega), if_pos hop, cnt1]
      unfold leaf1
      rw [cnt, if_pos rfl]; omega
    rw [partM, if_neg this, if_neg (by omega), if_neg (by omega), if_neg (by omega), rep1M, leaf_part]
  have ho' : o = 0 ∨ o = 1 ∨ o = 2 ∨ o = 3 := by omega
  rcases ho' with rfl | rfl | rfl | rfl
  · unfold kidR
    rw [if_pos rfl, leaf_part]
    rfl
  · unfold kidR
    rw [if_neg (by omega)]
    rw [show partM (.mk (3 + ((1 : Nat) : Int)) 0 0 0 0 [leaf1]) st = partM (.mk 4 0 0 0 0 [leaf1]) st from rfl, hc _ (.inl rfl)]
    unfold repP placeM linkB
    simp only
    rw [hl]
    rfl
  · unfold kidR
    rw [if_neg (by omega)]
    rw [show partM (.mk (3 + ((2 : Nat) : Int)) 0 0 0 0 [leaf1]) st = partM (.mk 5 0 0 0 0 [leaf1]) st from rfl, hc _ (.inr (.inl rfl))]
    unfold repP placeM linkB
    simp only
    rw [hl]
    rfl
  · unfold kidR
    rw [if_neg (by omega)]
    rw [show partM (.mk (3 + ((3 : Nat) : Int)) 0 0 0 0 [leaf1]) st = partM (.mk 6 0 0 0 0 [leaf1]) st from rfl, hc _ (.inr (.inr rfl))]
    rfl
/-- All between two places may be left out. -/
def anull (os : List Nat) (a b : Nat) : Prop := ∀ m o, a ≤ m → m < b → os[m]? = some o → nl o = true
/-- What follows a place, of those ahead of k. -/
def inW (os : List Nat) (k i j : Nat) : Prop := j < k ∧ ((j = i ∧ ∃ o, os[i]? = some o ∧ lp o = true) ∨ (i < j ∧ anull os (i + 1) j))
structure RInv (os : List Nat) (k : Nat) (p : Pm) (b : Bs) : Prop where
  sl : b.sets.length = k
  fl : b.fol.length = k
  nu : p.null = true ↔ anull os 0 k
  la : ∀ i, p.la.testBit i = true ↔ i < k ∧ anull os (i + 1) k
  fo : ∀ (i N : Nat), b.fol[i]? = some N → ∀ j, N.testBit j = true ↔ inW os k i j
theorem anull_succ {os : List Nat} {a k o : Nat} (hk : os[k]? = some o) (ha : a ≤ k) : anull os a (k + 1) ↔ anull os a k ∧ nl o = true :=
  ⟨fun h => ⟨fun m o' h1 h2 h3 => h m o' h1 (by omega) h3, h k o ha (by omega) hk⟩, fun h m o' h1 h2 h3 => by
    by_cases e : m = k
    · subst e
      rw [hk] at h3
      cases h3
      exact h.2
    · exact h.1 m o' h1 (by omega) h3⟩
theorem anull_nil {os : List Nat} {a k : Nat} (h : k ≤ a) : anull os a k := fun m o h1 h2 _ => by omega
theorem rinv_step {os : List Nat} {k o : Nat} {p : Pm} {b : Bs} (h : RInv os k p b) (ho : os[k]? = some o) (ho4 : o < 4) :
    RInv os (k + 1) (catP p (partM (kidR o) b).1) (linkB (partM (kidR o) b).2 p.la (partM (kidR o) b).1.fi) := by
  rw [kid_part ho4 (by rw [h.fl, h.sl]), h.sl]
  simp only
  have hlk : p.la.testBit k = false := by
    cases e : p.la.testBit k with
    | false => rfl
    | true => have := (h.la k).1 e; omega
  refine ⟨by show (b.sets ++ _).length = _; rw [List.length_append, h.sl]; rfl, by show (linkM _ _ _).length = _; rw [linkM_len, List.length_append, h.fl]; rfl, ?_, fun i => ?_, fun i N hN j => ?_⟩
  · show (p.null && nl o) = true ↔ _
    rw [Bool.and_eq_true, h.nu, anull_succ ho (Nat.zero_le _)]
  · show (if nl o = true then p.la ||| 2 ^ k else 2 ^ k).testBit i = true ↔ _
    by_cases hi : i < k
    · rw [anull_succ ho (by omega)]
      split
      · rename_i hn
        rw [Nat.testBit_or, Nat.testBit_two_pow, decide_eq_false (show ¬ k = i by omega), Bool.or_false, h.la i]
        constructor
        · rintro ⟨h1, h2⟩; exact ⟨by omega, h2, hn⟩
        · rintro ⟨h1, h2, _⟩; exact ⟨hi, h2⟩
      · rename_i hn
        rw [Nat.testBit_two_pow, decide_eq_false (show ¬ k = i by omega)]
        constructor
        · intro e; cases e
        · rintro ⟨_, _, e⟩; exact (hn e).elim
    · have hla : p.la.testBit i = false := by
        cases e : p.la.testBit i with
        | false => rfl
        | true => have := (h.la i).1 e; omega
      have : (if nl o = true then p.la ||| 2 ^ k else 2 ^ k).testBit i = decide (k = i) := by
        split
        · rw [Nat.testBit_or, hla, Bool.false_or, Nat.testBit_two_pow]
        · rw [Nat.testBit_two_pow]
      rw [this, decide_eq_true_eq]
      constructor
      · rintro rfl; exact ⟨by omega, anull_nil (Nat.le_refl _)⟩
      · rintro ⟨h1, _⟩; omega
  · have hN : (linkM (b.fol ++ [if lp o = true then 2 ^ k else 0]) p.la (2 ^ k))[i]? = some N := hN
    unfold linkM at hN
    rw [List.getElem?_mapIdx] at hN
    by_cases hi : i < k
    · rw [List.getElem?_append_left (by rw [h.fl]; exact hi)] at hN
      cases hf : b.fol[i]? with
      | none => rw [hf] at hN; cases hN
      | some f =>
        rw [hf, Option.map_some, Option.some.injEq] at hN
        have hfo := h.fo i f hf j
        subst hN
        by_cases hj : j = k
        · subst hj
          have hfk : f.testBit j = false := by
            cases e : f.testBit j with
            | false => rfl
            | true => have := hfo.1 e; unfold inW at this; omega
          have : (if p.la.testBit i = true then f ||| 2 ^ j else f).testBit j = p.la.testBit i := by
            split
            · rename_i e; rw [Nat.testBit_or, Nat.testBit_two_pow, decide_eq_true rfl, Bool.or_true, e]
            · rename_i e; rw [hfk]; simpa using e
          rw [this, h.la i]
          unfold inW
          constructor
          · rintro ⟨h1, h2⟩; exact ⟨by omega, .inr ⟨h1, h2⟩⟩
          · rintro ⟨h1, h2 | h2⟩
            · omega
            · exact ⟨hi, h2.2⟩
        · have : (if p.la.testBit i = true then f ||| 2 ^ k else f).testBit j = f.testBit j := by
            split
            · rw [Nat.testBit_or, Nat.testBit_two_pow, decide_eq_false (show ¬ k = j from fun e => hj e.symm), Bool.or_false]
            · rfl
          rw [this, hfo]
          unfold inW
          constructor
          · rintro ⟨h1, h2⟩; exact ⟨by omega, h2⟩
          · rintro ⟨h1, h2⟩; exact ⟨by omega, h2⟩
    · rw [List.getElem?_append_right (by rw [h.fl]; omega), h.fl] at hN
      have hik : i = k := by
        by_cases e : i = k
        · exact e
        · rw [show i - k = (i - k - 1) + 1 from by omega] at hN
          simp at hN
      subst hik
      rw [Nat.sub_self] at hN
      simp only [List.getElem?_cons_zero, Option.map_some, Option.some.injEq, hlk, Bool.false_eq_true, if_false] at hN
      subst hN
      unfold inW
      constructor
      · intro e
        split at e
        · rename_i hlo
          rw [Nat.testBit_two_pow, decide_eq_true_eq] at e
          exact ⟨by omega, .inl ⟨e.symm, o, ho, hlo⟩⟩
        · simp at e
      · rintro ⟨h1, ⟨rfl, o', e1, e2⟩ | h2⟩
        · rw [ho] at e1
          cases e1
          rw [if_pos e2, Nat.testBit_two_pow, decide_eq_true rfl]
        · omega
theorem rinv_all {os : List Nat} (h4 : ∀ o ∈ os, o < 4) : ∀ (n k : Nat) (p : Pm) (b : Bs), os.length - k = n → k ≤ os.length → RInv os k p b → RInv os os.length (catM ((os.drop k).map kidR) p b).1 (catM ((os.drop k).map kidR) p b).2
  | 0, k, p, b, hn, hk, h => by
    have : k = os.length := by omega
    subst this
    rw [List.drop_length, List.map_nil, catM]
    exact h
  | n + 1, k, p, b, hn, hk, h => by
    have hlt : k < os.length := by omega
    rw [List.drop_eq_getElem_cons hlt, List.map_cons, catM]
    exact rinv_all h4 n (k + 1) _ _ (by omega) (by omega) (rinv_step h (List.getElem?_eq_getElem hlt) (h4 _ (List.getElem_mem hlt)))
theorem rinv_zero (os : List Nat) : RInv os 0 p0M ⟨[], []⟩ := ⟨rfl, rfl, ⟨fun _ => anull_nil (Nat.le_refl _), fun _ => rfl⟩, fun i => by
  show Nat.testBit 0 i = true ↔ _
  simp, fun i N h => by simp at h⟩
end Go.Proofs.Ytaagkdljkpbilaa.K
