/-
  The document's patterns as plain functions: which pattern a text is, or where and why it is none. Conditions: none.
-/
namespace Go.Proofs.Ytjlhopfmhhafoaa
/-- A pattern. -/
inductive Re where
  | mk (op : Nat) (set : BitVec 256) (kids : List Re)
/-- What is read, and the place behind it; or why not, and where. -/
inductive Res (α : Type) where
  | ok (x : α) (k : Nat)
  | err (e k : Nat)
def byteAt (s : ByteArray) (k : Nat) : Option UInt8 := s.data[k]?
theorem byteAt_lt {s : ByteArray} {k : Nat} {c : UInt8} (h : byteAt s k = some c) : k < s.size := (Array.getElem?_eq_some_iff.1 h).1
theorem byteAt_some {s : ByteArray} {k : Nat} (h : k < s.size) : byteAt s k = some s[k] := Array.getElem?_eq_getElem h
theorem byteAt_none {s : ByteArray} {k : Nat} (h : ¬ k < s.size) : byteAt s k = none := Array.getElem?_eq_none (Nat.le_of_not_lt h)

def litB (s : ByteArray) (k : Nat) : Nat := if byteAt s k = some 92 then k + 1 else k
def litP (s : ByteArray) (k : Nat) : Res UInt8 :=
  match byteAt s (litB s k) with
  | none => .err 2 (litB s k)
  | some c => .ok c (litB s k + 1)
/-- A '-' that stands between two bytes. -/
def betw (s : ByteArray) (j : Nat) : Bool := byteAt s j == some 45 && (decide (j + 1 < s.size) && byteAt s (j + 1) != some 93)
def itemP (s : ByteArray) (k : Nat) : Res (UInt8 × UInt8) :=
  match litP s k with
  | .err e j => .err e j
  | .ok a j =>
    if betw s j then
      match litP s (j + 1) with
      | .err e i => .err e i
      | .ok b i => if b < a then .err 2 (j + 1) else .ok (a, b) i
    else .ok (a, a) j
def putN (x : BitVec 256) (a : Nat) : Nat → BitVec 256
  | 0 => x
  | n + 1 => putN x a n ||| (1#256 <<< (a + n))
def putR (x : BitVec 256) (a b : UInt8) : BitVec 256 := putN x a.toNat (b.toNat + 1 - a.toNat)
def single (c : UInt8) : BitVec 256 := putR 0#256 c c
def dot : BitVec 256 := ~~~ single 10
def classL (s : ByteArray) (x : BitVec 256) (k : Nat) : Res (BitVec 256) :=
  if byteAt s k = some 93 then .ok x (k + 1)
  else match itemP s k with
    | .err e j => .err e j
    | .ok (a, b) j => if k < j ∧ k < s.size then classL s (putR x a b) j else .err 0 0
termination_by s.size - k
decreasing_by omega
def notAt (s : ByteArray) (k : Nat) : Bool := byteAt s (k + 1) == some 94
def classB (s : ByteArray) (k : Nat) : Nat := if notAt s k then k + 2 else k + 1
def classP (s : ByteArray) (k : Nat) : Res Re :=
  if byteAt s (classB s k) = some 93 then .err 2 (classB s k)
  else match classL s 0#256 (classB s k) with
    | .err e j => .err e j
    | .ok x j => .ok (.mk 1 (if notAt s k then ~~~ x else x) []) j
def marks : List UInt8 := [124, 42, 43, 63, 40, 41, 91, 93]
def atomP (g : Nat → Res Re) (s : ByteArray) (k : Nat) : Res Re :=
  match byteAt s k with
  | none => .err 0 0
  | some c =>
    if c = 40 then g k
    else if c = 91 then classP s k
    else if c = 46 then .ok (.mk 1 dot []) (k + 1)
    else if marks.contains c then .err 2 k
    else match litP s k with
      | .err e j => .err e j
      | .ok c j => .ok (.mk 1 (single c) []) j
def repOp (c : UInt8) : Nat := if c = 42 then 4 else if c = 43 then 5 else if c = 63 then 6 else 0
def repL (s : ByteArray) (x : Re) (k : Nat) : Re × Nat :=
  match h : byteAt s k with
  | none => (x, k)
  | some c => if repOp c = 0 then (x, k) else repL s (.mk (repOp c) 0#256 [x]) (k + 1)
termination_by s.size - k
decreasing_by have := byteAt_lt h; omega
def repP (g : Nat → Res Re) (s : ByteArray) (k : Nat) : Res Re :=
  match atomP g s k with
  | .err e j => .err e j
  | .ok x j => .ok (repL s x j).1 (repL s x j).2
def gather (op : Nat) : List Re → Re
  | [] => .mk 0 0#256 []
  | [x] => x
  | x :: y :: r => .mk op 0#256 (x :: y :: r)
def goesOn (s : ByteArray) (k : Nat) : Bool := decide (k < s.size) && (byteAt s k != some 124 && byteAt s k != some 41)
def seqL (g : Nat → Res Re) (s : ByteArray) (acc : List Re) (k : Nat) : Res Re :=
  if _h : goesOn s k = true then
    match repP g s k with
    | .err e j => .err e j
    | .ok x j => if _h2 : k < j then seqL g s (acc ++ [x]) j else .err 0 0
  else .ok (gather 2 acc) k
termination_by s.size - k
decreasing_by simp [goesOn] at _h; omega
def altL (g : Nat → Res Re) (s : ByteArray) (acc : List Re) (k : Nat) : Res Re :=
  match seqL g s [] k with
  | .err e j => .err e j
  | .ok x j =>
    if h : byteAt s j = some 124 then
      if h2 : k ≤ j then altL g s (acc ++ [x]) (j + 1) else .err 0 0
    else .ok (gather 3 (acc ++ [x])) j
termination_by s.size - k
decreasing_by have := byteAt_lt h; omega
/-- An alternative in brackets, within d others fewer than may be. -/
def grp (s : ByteArray) : Nat → Nat → Res Re
  | 0, k => .err 4 k
  | d + 1, k => match altL (grp s d) s [] (k + 1) with
    | .err e j => .err e j
    | .ok x j => if byteAt s j = some 41 then .ok x (j + 1) else .err 2 j
def zeroRe : Re := .mk 0 0#256 []
def parseP (s : ByteArray) : Re × Nat × Nat :=
  if 200 < s.size then (zeroRe, 0, 3)
  else match altL (grp s 20) s [] 0 with
    | .err e k => (zeroRe, k, e)
    | .ok x k => if k < s.size then (zeroRe, k, 2) else (x, k, 0)

/-- Reading goes forward, and not beyond the end. -/
def Fw (s : ByteArray) (k : Nat) {α : Type} : Res α → Prop
  | .ok _ j => k < j ∧ j ≤ s.size
  | .err e j => 0 < e ∧ e ≤ 11 ∧ j ≤ s.size
theorem litB_le {s : ByteArray} {k : Nat} (h : k ≤ s.size) : k ≤ litB s k ∧ litB s k ≤ s.size := by
  unfold litB
  split
  · rename_i h1; have := byteAt_lt h1; omega
  · omega
theorem litP_fw (s : ByteArray) (k : Nat) (h : k ≤ s.size) : Fw s k (litP s k) := by
  have h0 := litB_le h
  unfold litP
  cases h1 : byteAt s (litB s k) with
  | none => exact ⟨by omega, by omega, h0.2⟩
  | some c => have := byteAt_lt h1; exact ⟨by omega, by omega⟩
theorem itemP_fw (s : ByteArray) (k : Nat) (h : k ≤ s.size) : Fw s k (itemP s k) := by
  have h0 := litP_fw s k h
  unfold itemP
  cases h1 : litP s k with
  | err e j => rw [h1] at h0; exact h0
  | ok a j =>
    rw [h1] at h0
    obtain ⟨h2, h3⟩ := h0
    simp only
    split
    · rename_i hb
      have hj : j + 1 ≤ s.size := by simp [betw] at hb; omega
      have h4 := litP_fw s (j + 1) hj
      cases h5 : litP s (j + 1) with
      | err e i => rw [h5] at h4; exact h4
      | ok b i =>
        rw [h5] at h4
        simp only
        split
        · exact ⟨by omega, by omega, hj⟩
        · exact ⟨by have := h4.1; omega, h4.2⟩
    · exact ⟨h2, h3⟩
theorem itemP_at_end (s : ByteArray) (k : Nat) (h : ¬ k < s.size) : ∃ j, itemP s k = .err 2 j := by
  have e : litB s k = k := by unfold litB; rw [byteAt_none h]; simp
  have : litP s k = .err 2 k := by unfold litP; rw [e, byteAt_none h]
  exact ⟨k, by unfold itemP; rw [this]⟩
theorem classL_fw (s : ByteArray) : ∀ (n : Nat) (x : BitVec 256) (k : Nat), s.size - k ≤ n → k ≤ s.size → Fw s k (classL s x k) := by
  intro n
  induction n with
  | zero =>
    intro x k hn hk
    rw [classL]
    split
    · rename_i h; have := byteAt_lt h; omega
    · obtain ⟨j, hj⟩ := itemP_at_end s k (by omega)
      have h0 := itemP_fw s k hk
      rw [hj] at h0 ⊢
      exact h0
  | succ n ih =>
    intro x k hn hk
    rw [classL]
    split
    · rename_i h; have := byteAt_lt h; exact ⟨by omega, by omega⟩
    · have h0 := itemP_fw s k hk
      cases h1 : itemP s k with
      | err e j => rw [h1] at h0; exact h0
      | ok ab j =>
        rw [h1] at h0
        obtain ⟨h2, h3⟩ := h0
        simp only
        rw [if_pos ⟨h2, by omega⟩]
        have := ih (putR x ab.1 ab.2) j (by omega) h3
        revert this
        cases classL s (putR x ab.1 ab.2) j with
        | ok y i => exact fun ⟨a, b⟩ => ⟨by omega, b⟩
        | err e i => exact id
theorem classB_le {s : ByteArray} {k : Nat} (h : k < s.size) : k < classB s k ∧ classB s k ≤ s.size := by
  unfold classB notAt
  split
  · rename_i h1; have := byteAt_lt (beq_iff_eq.1 h1); omega
  · omega
theorem classP_fw (s : ByteArray) (k : Nat) (h : k < s.size) : Fw s k (classP s k) := by
  have h0 := classB_le h
  unfold classP
  split
  · exact ⟨by omega, by omega, h0.2⟩
  · have h1 := classL_fw s _ 0#256 (classB s k) (Nat.le_refl _) h0.2
    cases h2 : classL s 0#256 (classB s k) with
    | err e j => rw [h2] at h1; exact h1
    | ok x j => rw [h2] at h1; exact ⟨by have := h1.1; omega, h1.2⟩
theorem atomP_fw (g : Nat → Res Re) (s : ByteArray) (k : Nat) (hg : ∀ k, k < s.size → Fw s k (g k)) (h : k < s.size) : Fw s k (atomP g s k) := by
  unfold atomP
  rw [byteAt_some h]
  simp only
  split
  · exact hg k h
  split
  · exact classP_fw s k h
  split
  · exact ⟨by omega, by omega⟩
  split
  · exact ⟨by omega, by omega, by omega⟩
  · have h1 := litP_fw s k (by omega)
    cases h2 : litP s k with
    | err e j => rw [h2] at h1; exact h1
    | ok x j => rw [h2] at h1; exact h1
theorem repL_le (s : ByteArray) : ∀ (n : Nat) (x : Re) (k : Nat), s.size - k ≤ n → k ≤ s.size → k ≤ (repL s x k).2 ∧ (repL s x k).2 ≤ s.size := by
  intro n
  induction n with
  | zero =>
    intro x k hn hk
    rw [repL]
    split
    · exact ⟨Nat.le_refl _, hk⟩
    · rename_i c h; have := byteAt_lt h; omega
  | succ n ih =>
    intro x k hn hk
    rw [repL]
    split
    · exact ⟨Nat.le_refl _, hk⟩
    · rename_i c h
      have := byteAt_lt h
      split
      · exact ⟨Nat.le_refl _, hk⟩
      · have := ih (.mk (repOp c) 0#256 [x]) (k + 1) (by omega) (by omega)
        omega
theorem repP_fw (g : Nat → Res Re) (s : ByteArray) (k : Nat) (hg : ∀ k, k < s.size → Fw s k (g k)) (h : k < s.size) : Fw s k (repP g s k) := by
  have h0 := atomP_fw g s k hg h
  unfold repP
  cases h1 : atomP g s k with
  | err e j => rw [h1] at h0; exact h0
  | ok x j =>
    rw [h1] at h0
    have := repL_le s _ x j (Nat.le_refl _) h0.2
    exact ⟨by have := h0.1; omega, this.2⟩
/-- .. or it stays where it is. -/
def Fz (s : ByteArray) (k : Nat) {α : Type} : Res α → Prop
  | .ok _ j => k ≤ j ∧ j ≤ s.size
  | .err e j => 0 < e ∧ e ≤ 11 ∧ j ≤ s.size
theorem seqL_fz (g : Nat → Res Re) (s : ByteArray) (hg : ∀ k, k < s.size → Fw s k (g k)) : ∀ (n : Nat) (acc : List Re) (k : Nat), s.size - k ≤ n → k ≤ s.size → Fz s k (seqL g s acc k) := by
  intro n
  induction n with
  | zero =>
    intro acc k hn hk
    rw [seqL]
    split
    · rename_i h; simp [goesOn] at h; omega
    · exact ⟨Nat.le_refl _, hk⟩
  | succ n ih =>
    intro acc k hn hk
    rw [seqL]
    split
    · rename_i h
      have hlt : k < s.size := by simp [goesOn] at h; omega
      have h0 := repP_fw g s k hg hlt
      split
      · rename_i e j h1; rw [h1] at h0; exact h0
      · rename_i x j h1
        rw [h1] at h0
        obtain ⟨h2, h3⟩ := h0
        rw [dif_pos h2]
        have := ih (acc ++ [x]) j (by omega) h3
        revert this
        cases seqL g s (acc ++ [x]) j with
        | ok y i => exact fun ⟨a, b⟩ => ⟨by omega, b⟩
        | err e i => exact id
    · exact ⟨Nat.le_refl _, hk⟩
theorem altL_fz (g : Nat → Res Re) (s : ByteArray) (hg : ∀ k, k < s.size → Fw s k (g k)) : ∀ (n : Nat) (acc : List Re) (k : Nat), s.size - k ≤ n → k ≤ s.size → Fz s k (altL g s acc k) := by
  intro n
  induction n with
  | zero =>
    intro acc k hn hk
    have h0 := seqL_fz g s hg _ [] k (Nat.le_refl _) hk
    rw [altL]
    split
    · rename_i e j h1; rw [h1] at h0; exact h0
    · rename_i x j h1
      rw [h1] at h0
      obtain ⟨h2, h3⟩ := h0
      split
      · rename_i h; have := byteAt_lt h; omega
      · exact ⟨h2, h3⟩
  | succ n ih =>
    intro acc k hn hk
    have h0 := seqL_fz g s hg _ [] k (Nat.le_refl _) hk
    rw [altL]
    split
    · rename_i e j h1; rw [h1] at h0; exact h0
    · rename_i x j h1
      rw [h1] at h0
      obtain ⟨h2, h3⟩ := h0
      split
      · rename_i h
        have := byteAt_lt h
        have := ih (acc ++ [x]) (j + 1) (by omega) (by omega)
        revert this
        cases altL g s (acc ++ [x]) (j + 1) with
        | ok y i => exact fun ⟨a, b⟩ => ⟨by omega, b⟩
        | err e i => exact id
      · exact ⟨h2, h3⟩
theorem grp_fw (s : ByteArray) : ∀ (d k : Nat), k < s.size → Fw s k (grp s d k)
  | 0, k, h => ⟨by omega, by omega, by omega⟩
  | d + 1, k, h => by
    have h0 := altL_fz (grp s d) s (grp_fw s d) _ [] (k + 1) (Nat.le_refl _) (by omega)
    unfold grp
    cases h1 : altL (grp s d) s [] (k + 1) with
    | err e j => rw [h1] at h0; exact h0
    | ok x j =>
      rw [h1] at h0
      obtain ⟨h2, h3⟩ := h0
      simp only
      split
      · rename_i h; have := byteAt_lt h; exact ⟨by omega, by omega⟩
      · exact ⟨by omega, by omega, h3⟩
end Go.Proofs.Ytjlhopfmhhafoaa
