/-
  Patterns in memory, their sizes, and what a survey of them knows. Conditions: none.
-/
import Derived.Test.YtaagkdljkpbilaaSt
set_option linter.unusedSimpArgs false
set_option linter.unusedVariables false
namespace Go.Proofs.Ytaagkdljkpbilaa.Ev
open Go
/-- A pattern, whatever its Op is. -/
inductive Rx where
  | mk (op : Int) (a b c d : Int) (kids : List Rx)
def Rx.op : Rx → Int
  | .mk op _ _ _ _ _ => op
def Rx.kids : Rx → List Rx
  | .mk _ _ _ _ _ k => k
/-- The kids that are looked at. -/
def Rx.lk : Rx → List Rx
  | .mk op _ _ _ _ k => if op = 2 ∨ op = 3 then k else if op = 4 ∨ op = 5 ∨ op = 6 then k.take 1 else []
mutual
def cnt : Rx → Nat
  | .mk op _ _ _ _ kids => if op = 1 then 1 else if op = 2 ∨ op = 3 then cntL kids else if op = 4 ∨ op = 5 ∨ op = 6 then cnt1 kids else 0
def cntL : List Rx → Nat
  | [] => 0
  | k :: r => cnt k + cntL r
def cnt1 : List Rx → Nat
  | [] => 0
  | k :: _ => cnt k
end
mutual
def deep : Rx → Nat
  | .mk op _ _ _ _ kids => (if op = 2 ∨ op = 3 then deepL kids else if op = 4 ∨ op = 5 ∨ op = 6 then deep1 kids else 0) + 1
def deepL : List Rx → Nat
  | [] => 0
  | k :: r => max (deep k) (deepL r)
def deep1 : List Rx → Nat
  | [] => 0
  | k :: _ => deep k
end
mutual
/-- How much there is to look at. -/
def wei : Rx → Nat
  | .mk _ _ _ _ _ kids => 2 + weiL kids
def weiL : List Rx → Nat
  | [] => 0
  | k :: r => wei k + weiL r
end
theorem lk_mk (op a b c d : Int) (k : List Rx) : (Rx.mk op a b c d k).lk = if op = 2 ∨ op = 3 then k else if op = 4 ∨ op = 5 ∨ op = 6 then k.take 1 else [] := rfl
theorem op_mk (op a b c d : Int) (k : List Rx) : (Rx.mk op a b c d k).op = op := rfl
theorem cnt_lk {x : Rx} (h : x.lk ≠ []) : cnt x = cntL x.lk := by
  obtain ⟨op, a, b, c, d, k⟩ := x
  unfold cnt
  rw [lk_mk] at h ⊢
  by_cases h2 : op = 2 ∨ op = 3
  · rw [if_pos h2] at h
    rw [if_pos h2, if_neg (by omega), if_pos h2]
  · rw [if_neg h2] at h
    by_cases h4 : op = 4 ∨ op = 5 ∨ op = 6
    · rw [if_pos h4] at h
      rw [if_neg h2, if_pos h4, if_neg (by omega), if_neg h2, if_pos h4]
      cases k with
      | nil => simp at h
      | cons x r => simp [cnt1, cntL]
    · rw [if_neg h4] at h
      exact (h rfl).elim
theorem cnt_leaf {x : Rx} (h : x.lk = []) : cnt x = if x.op = 1 then 1 else 0 := by
  obtain ⟨op, a, b, c, d, k⟩ := x
  unfold cnt
  rw [lk_mk] at h
  rw [show (if (Rx.mk op a b c d k).op = 1 then 1 else 0) = if op = 1 then 1 else 0 from rfl]
  by_cases h1 : op = 1
  · rw [if_pos h1, if_pos h1]
  · rw [if_neg h1, if_neg h1]
    by_cases h2 : op = 2 ∨ op = 3
    · rw [if_pos h2] at h
      rw [if_pos h2, h]; rfl
    · rw [if_neg h2] at h
      rw [if_neg h2]
      by_cases h4 : op = 4 ∨ op = 5 ∨ op = 6
      · rw [if_pos h4] at h
        rw [if_pos h4]
        cases k with
        | nil => rfl
        | cons x r => simp at h
      · rw [if_neg h4]
theorem deep_lk (x : Rx) : deep x = deepL x.lk + 1 := by
  obtain ⟨op, a, b, c, d, k⟩ := x
  rw [lk_mk]
  unfold deep
  by_cases h2 : op = 2 ∨ op = 3
  · rw [if_pos h2, if_pos h2]
  · rw [if_neg h2, if_neg h2]
    by_cases h4 : op = 4 ∨ op = 5 ∨ op = 6
    · rw [if_pos h4, if_pos h4]
      cases k with
      | nil => rfl
      | cons x r => simp [deep1, deepL]
    · rw [if_neg h4, if_neg h4]; rfl
theorem wei_lk (x : Rx) : weiL x.lk + 2 ≤ wei x := by
  obtain ⟨op, a, b, c, d, k⟩ := x
  rw [lk_mk]
  unfold wei
  split
  · omega
  · split
    · cases k with
      | nil => simp [weiL]
      | cons x r => simp [weiL]; omega
    · simp [weiL]
theorem cntL_app : ∀ (l r : List Rx), cntL (l ++ r) = cntL l + cntL r
  | [], r => by simp [cntL]
  | x :: l, r => by rw [List.cons_append, cntL, cntL, cntL_app l r]; omega
theorem deepL_app : ∀ (l r : List Rx), deepL (l ++ r) = max (deepL l) (deepL r)
  | [], r => by simp [deepL]
  | x :: l, r => by rw [List.cons_append, deepL, deepL, deepL_app l r]; omega
theorem weiL_drop : ∀ {l : List Rx} {i : Nat} {x : Rx}, l[i]? = some x → weiL (l.drop i) = wei x + weiL (l.drop (i + 1))
  | [], i, x, h => by simp at h
  | a :: l, 0, x, h => by simp at h; subst h; simp [weiL]
  | a :: l, i + 1, x, h => by simp at h; simpa using weiL_drop h
theorem wei_mem {l : List Rx} {i : Nat} {x : Rx} (h : l[i]? = some x) : wei x ≤ weiL l := by
  induction l generalizing i with
  | nil => simp at h
  | cons a l ih =>
    cases i with
    | zero => simp at h; subst h; rw [weiL]; omega
    | succ i => have := ih (i := i) (by simpa using h); rw [weiL]; omega
mutual
/-- A pattern that lies at a place of a block of one's own kind. -/
def NodeAt (M : MH) : Rx → Nat → Nat → Prop
  | .mk op a b c d kids, id, off => ∃ t kv, M.get id = some (.cs false 6 t) ∧ id < M.n ∧ At t off [.i .i64 op, .i .u64 a, .i .u64 b, .i .u64 c, .i .u64 d, kv] ∧ isSl kv = true ∧ slen kv = kids.length ∧ NodesAt M kids (sid kv) (soff kv)
def NodesAt (M : MH) : List Rx → Nat → Nat → Prop
  | [], _, _ => True
  | x :: r, id, off => NodeAt M x id off ∧ NodesAt M r id (off + 6)
end
/-- All that was there is there as it was, whatever may be written. -/
structure Sub (M M' : MH) : Prop where
  n : M.n ≤ M'.n
  old : ∀ id, id < M.n → M'.get id = M.get id
theorem Ext.sub {M M' : MH} (k : Ext M M') : Sub M M' := ⟨k.n, k.old⟩
theorem Sub.lift (M : MH) : Sub M M.lift := ⟨Nat.le_refl _, fun _ _ => rfl⟩
theorem Sub.unlift (M : MH) : Sub M.lift M := ⟨Nat.le_refl _, fun _ _ => rfl⟩
theorem Sub.down (M : MH) (lo : Nat) : Sub M (M.down lo) := ⟨Nat.le_refl _, fun _ _ => rfl⟩
theorem Sub.trans {a b c : MH} (h : Sub a b) (k : Sub b c) : Sub a c := ⟨Nat.le_trans h.n k.n, fun j hj => (k.old j (Nat.lt_of_lt_of_le hj h.n)).trans (h.old j hj)⟩
theorem Sub.ext {a b : MH} (h : Sub a b) (e : b.lo = a.lo) : Ext a b := ⟨h.n, e, h.old⟩
theorem RowAt.sub {M M' : MH} {sz : Nat} {v : MV} {es : List (List MV)} (h : RowAt M sz v es) (k : Sub M M') : RowAt M' sz v es := by
  obtain ⟨hs, h | ⟨id, off, e, ro, s, c, h1, h2, h3, h4⟩⟩ := h
  · exact ⟨hs, .inl h⟩
  · exact ⟨hs, .inr ⟨id, off, e, ro, s, c, h1, (k.old id h3).trans h2, Nat.lt_of_lt_of_le h3 k.n, h4⟩⟩
mutual
theorem NodeAt.sub {M M' : MH} (k : Sub M M') : ∀ {x : Rx} {id off : Nat}, NodeAt M x id off → NodeAt M' x id off
  | .mk op a b c d kids, id, off, h => by
    unfold NodeAt at h ⊢
    obtain ⟨t, kv, h1, h2, h3, h4, h5, h6⟩ := h
    exact ⟨t, kv, (k.old id h2).trans h1, Nat.lt_of_lt_of_le h2 k.n, h3, h4, h5, NodesAt.sub k h6⟩
theorem NodesAt.sub {M M' : MH} (k : Sub M M') : ∀ {l : List Rx} {id off : Nat}, NodesAt M l id off → NodesAt M' l id off
  | [], id, off, h => trivial
  | x :: r, id, off, h => by
    unfold NodesAt at h ⊢
    exact ⟨NodeAt.sub k h.1, NodesAt.sub k h.2⟩
end
theorem NodeAt.ext {M M' : MH} (k : Ext M M') {x : Rx} {id off : Nat} (h : NodeAt M x id off) : NodeAt M' x id off := NodeAt.sub k.sub h
theorem NodesAt.ext {M M' : MH} (k : Ext M M') {l : List Rx} {id off : Nat} (h : NodesAt M l id off) : NodesAt M' l id off := NodesAt.sub k.sub h
theorem NodesAt.get {M : MH} : ∀ {l : List Rx} {id off i : Nat} {x : Rx}, NodesAt M l id off → l[i]? = some x → NodeAt M x id (off + i * 6)
  | [], id, off, i, x, h, hi => by simp at hi
  | a :: l, id, off, 0, x, h, hi => by
    unfold NodesAt at h
    simp at hi; subst hi; simpa using h.1
  | a :: l, id, off, i + 1, x, h, hi => by
    unfold NodesAt at h
    have := NodesAt.get (i := i) (x := x) h.2 (by simpa using hi)
    rwa [show off + 6 + i * 6 = off + (i + 1) * 6 from by omega] at this
theorem NodesAt.take {M : MH} : ∀ {l : List Rx} {id off : Nat} (n : Nat), NodesAt M l id off → NodesAt M (l.take n) id off
  | l, id, off, 0, h => by simp only [List.take_zero]; unfold NodesAt; trivial
  | [], id, off, n + 1, h => by simpa using h
  | a :: l, id, off, n + 1, h => by
    rw [List.take_succ_cons]
    unfold NodesAt at h ⊢
    exact ⟨h.1, NodesAt.take n h.2⟩
mutual
/-- At one place lies one pattern. -/
theorem NodeAt.uniq {M : MH} : ∀ {x y : Rx} {id off : Nat}, NodeAt M x id off → NodeAt M y id off → x = y
  | .mk op a b c d kids, .mk op' a' b' c' d' kids', id, off, h, h' => by
    unfold NodeAt at h h'
    obtain ⟨t, kv, h1, h2, h3, h4, h5, h6⟩ := h
    obtain ⟨t', kv', h1', h2', h3', h4', h5', h6'⟩ := h'
    obtain rfl : t = t' := by rw [h1] at h1'; injection h1' with e; injection e
    have e0 := (h3 0 _ rfl).symm.trans (h3' 0 _ rfl)
    have e1 := (h3 1 _ rfl).symm.trans (h3' 1 _ rfl)
    have e2 := (h3 2 _ rfl).symm.trans (h3' 2 _ rfl)
    have e3 := (h3 3 _ rfl).symm.trans (h3' 3 _ rfl)
    have e4 := (h3 4 _ rfl).symm.trans (h3' 4 _ rfl)
    have e5 := (h3 5 _ rfl).symm.trans (h3' 5 _ rfl)
    simp only [Option.some.injEq, MV.i.injEq, true_and] at e0 e1 e2 e3 e4 e5
    subst e0 e1 e2 e3 e4 e5
    rw [NodesAt.uniq (by rw [← h5, ← h5']) h6 h6']
theorem NodesAt.uniq {M : MH} : ∀ {l r : List Rx} {id off : Nat}, l.length = r.length → NodesAt M l id off → NodesAt M r id off → l = r
  | [], [], id, off, _, h, h' => rfl
  | [], _ :: _, id, off, e, h, h' => by simp at e
  | _ :: _, [], id, off, e, h, h' => by simp at e
  | x :: l, y :: r, id, off, e, h, h' => by
    unfold NodesAt at h h'
    rw [NodeAt.uniq h.1 h'.1, NodesAt.uniq (by simpa using e) h.2 h'.2]
end
end Go.Proofs.Ytaagkdljkpbilaa.Ev
