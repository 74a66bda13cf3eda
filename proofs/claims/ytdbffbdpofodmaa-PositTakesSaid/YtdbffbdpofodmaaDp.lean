/-
  How deep a pattern is that a text is: no deeper than 21 times its length and three more. Conditions: none.
-/
import Derived.Test.YtdbffbdpofodmaaRx
set_option linter.unusedSimpArgs false
namespace Go.Proofs.Ytdbffbdpofodmaa
open Go Go.RowKit Kit
theorem dp_leaf (op : Nat) (x : BitVec 256) : deep (Re.mk op x []).rx ≤ 1 := by
  rw [Re.rx, deep_eq]
  have : deepL (lk op (rxL [])) = 0 := by
    rw [rxL]
    unfold lk
    split
    · simp [deepL]
    · split <;> simp [deepL]
  omega
theorem dp_kids (op : Nat) (x : BitVec 256) (l : List Re) (B : Nat) (h : ∀ y ∈ l, deep y.rx ≤ B) : deep (Re.mk op x l).rx ≤ B + 1 := by
  rw [Re.rx, deep_eq]
  have h1 : ∀ (l : List Re), (∀ y ∈ l, deep y.rx ≤ B) → deepL (rxL l) ≤ B := by
    intro l
    induction l with
    | nil => intro _; rw [rxL]; simp [deepL]
    | cons y r ih =>
      intro h
      rw [rxL, deepL]
      have := h y (by simp)
      have := ih fun z hz => h z (by simp [hz])
      omega
  have h2 : deepL (lk op (rxL l)) ≤ deepL (rxL l) := by
    unfold lk
    split
    · exact Nat.le_refl _
    · split
      · exact deepL_take_le _ _
      · simp [deepL]
  have := h1 l h
  omega
theorem dp_rep (s : ByteArray) : ∀ (n : Nat) (x : Re) (k : Nat), s.size - k ≤ n → deep (repL s x k).1.rx ≤ deep x.rx + n := by
  intro n
  induction n with
  | zero =>
    intro x k hn
    rw [repL]
    split
    · show deep x.rx ≤ _
      omega
    · rename_i c h; have := byteAt_lt h; omega
  | succ n ih =>
    intro x k hn
    rw [repL]
    split
    · show deep x.rx ≤ _
      omega
    · rename_i c h
      have := byteAt_lt h
      split
      · show deep x.rx ≤ _
        omega
      · have h1 := ih (.mk (repOp c) 0#256 [x]) (k + 1) (by omega)
        have h2 := dp_kids (repOp c) 0#256 [x] (deep x.rx) (fun y hy => by rw [List.mem_singleton.1 hy]; exact Nat.le_refl _)
        omega
def Dp (B : Nat) (r : Res Re) : Prop := ∀ x j, r = .ok x j → deep x.rx ≤ B
theorem dp_gather (op : Nat) (l : List Re) (B : Nat) (h : ∀ y ∈ l, deep y.rx ≤ B) : deep (gather op l).rx ≤ B + 1 := by
  match l, h with
  | [], _ => exact Nat.le_trans (dp_leaf 0 _) (by omega)
  | [x], h => exact Nat.le_trans (h x (by simp)) (by omega)
  | x :: y :: r, h => exact dp_kids op _ _ B h
theorem dp_atom (g : Nat → Res Re) (s : ByteArray) (D k : Nat) (hg : ∀ k, Dp D (g k)) : Dp (D + 1) (atomP g s k) := by
  intro x j h
  unfold atomP at h
  cases hb : byteAt s k with
  | none => rw [hb] at h; cases h
  | some c =>
    rw [hb] at h
    simp only at h
    split at h
    · have := hg k x j h; omega
    split at h
    · unfold classP at h
      split at h
      · cases h
      · cases hc : classL s 0#256 (classB s k) with
        | err e i => rw [hc] at h; cases h
        | ok y i =>
          rw [hc] at h
          injection h with h1 h2
          subst h1
          exact Nat.le_trans (dp_leaf _ _) (by omega)
    split at h
    · injection h with h1 h2
      subst h1
      exact Nat.le_trans (dp_leaf _ _) (by omega)
    split at h
    · cases h
    · cases hl : litP s k with
      | err e i => rw [hl] at h; cases h
      | ok y i =>
        rw [hl] at h
        injection h with h1 h2
        subst h1
        exact Nat.le_trans (dp_leaf _ _) (by omega)
theorem dp_repP (g : Nat → Res Re) (s : ByteArray) (D k : Nat) (hg : ∀ k, Dp D (g k)) : Dp (D + 1 + s.size) (repP g s k) := by
  intro x j h
  unfold repP at h
  cases ha : atomP g s k with
  | err e i => rw [ha] at h; cases h
  | ok y i =>
    rw [ha] at h
    injection h with h1 h2
    subst h1
    have h3 := dp_rep s s.size y i (by omega)
    have h4 := dp_atom g s D k hg y i ha
    omega
theorem dp_seq (g : Nat → Res Re) (s : ByteArray) (D : Nat) (hg : ∀ k, Dp D (g k)) : ∀ (n : Nat) (acc : List Re) (k : Nat), s.size - k ≤ n → (∀ y ∈ acc, deep y.rx ≤ D + 1 + s.size) → Dp (D + 2 + s.size) (seqL g s acc k) := by
  intro n
  induction n with
  | zero =>
    intro acc k hn hacc x j h
    rw [seqL] at h
    split at h
    · rename_i hgo; simp [goesOn] at hgo; omega
    · injection h with h1 h2
      subst h1
      have := dp_gather 2 acc _ hacc
      omega
  | succ n ih =>
    intro acc k hn hacc x j h
    rw [seqL] at h
    split at h
    · rename_i hgo
      have hlt : k < s.size := by simp [goesOn] at hgo; omega
      cases hr : repP g s k with
      | err e i => rw [hr] at h; cases h
      | ok y i =>
        rw [hr] at h
        simp only at h
        split at h
        · refine ih (acc ++ [y]) i (by omega) (fun z hz => ?_) x j h
          rcases List.mem_append.1 hz with hz | hz
          · exact hacc z hz
          · rw [List.mem_singleton.1 hz]; exact dp_repP g s D k hg y i hr
        · cases h
    · injection h with h1 h2
      subst h1
      have := dp_gather 2 acc _ hacc
      omega
theorem dp_alt (g : Nat → Res Re) (s : ByteArray) (D : Nat) (hg : ∀ k, Dp D (g k)) : ∀ (n : Nat) (acc : List Re) (k : Nat), s.size - k ≤ n → (∀ y ∈ acc, deep y.rx ≤ D + 2 + s.size) → Dp (D + 3 + s.size) (altL g s acc k) := by
  intro n
  induction n with
  | zero =>
    intro acc k hn hacc x j h
    rw [altL] at h
    cases hs : seqL g s [] k with
    | err e i => rw [hs] at h; cases h
    | ok y i =>
      rw [hs] at h
      simp only at h
      have hy := dp_seq g s D hg s.size [] k (by omega) (fun z hz => by cases hz) y i hs
      have hall : ∀ z ∈ acc ++ [y], deep z.rx ≤ D + 2 + s.size := fun z hz => by
        rcases List.mem_append.1 hz with hz | hz
        · exact hacc z hz
        · rw [List.mem_singleton.1 hz]; exact hy
      split at h
      · rename_i hb
        have := byteAt_lt hb
        split at h
        · omega
        · cases h
      · injection h with h1 h2
        subst h1
        have := dp_gather 3 _ _ hall
        omega
  | succ n ih =>
    intro acc k hn hacc x j h
    rw [altL] at h
    cases hs : seqL g s [] k with
    | err e i => rw [hs] at h; cases h
    | ok y i =>
      rw [hs] at h
      simp only at h
      have hy := dp_seq g s D hg s.size [] k (by omega) (fun z hz => by cases hz) y i hs
      have hall : ∀ z ∈ acc ++ [y], deep z.rx ≤ D + 2 + s.size := fun z hz => by
        rcases List.mem_append.1 hz with hz | hz
        · exact hacc z hz
        · rw [List.mem_singleton.1 hz]; exact hy
      split at h
      · rename_i hb
        have := byteAt_lt hb
        split at h
        · exact ih (acc ++ [y]) (i + 1) (by omega) hall x j h
        · cases h
      · injection h with h1 h2
        subst h1
        have := dp_gather 3 _ _ hall
        omega
theorem dp_grp (s : ByteArray) : ∀ (d k : Nat), Dp (d * (s.size + 3)) (grp s d k)
  | 0, k => by intro x j h; rw [grp] at h; cases h
  | d + 1, k => by
    intro x j h
    rw [grp] at h
    cases ha : altL (grp s d) s [] (k + 1) with
    | err e i => rw [ha] at h; cases h
    | ok y i =>
      rw [ha] at h
      simp only at h
      have := dp_alt (grp s d) s (d * (s.size + 3)) (dp_grp s d) s.size [] (k + 1) (by omega) (fun z hz => by cases hz) y i ha
      rw [Nat.succ_mul]
      split at h
      · injection h with h1 h2
        subst h1
        omega
      · cases h
theorem dp_parse (s : ByteArray) : deep (parseP s).1.rx ≤ 5000 := by
  unfold parseP
  split
  · exact Nat.le_trans (dp_leaf _ _) (by omega)
  · rename_i hs
    cases ha : altL (grp s 20) s [] 0 with
    | err e i => exact Nat.le_trans (dp_leaf _ _) (by omega)
    | ok y i =>
      simp only
      have := dp_alt (grp s 20) s (20 * (s.size + 3)) (dp_grp s 20) s.size [] 0 (by omega) (fun z hz => by cases hz) y i ha
      split
      · exact Nat.le_trans (dp_leaf _ _) (by omega)
      · show deep y.rx ≤ 5000
        omega
end Go.Proofs.Ytdbffbdpofodmaa
