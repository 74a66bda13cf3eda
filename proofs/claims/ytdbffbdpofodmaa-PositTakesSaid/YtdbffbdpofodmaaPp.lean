/-
  Places of patterns as plain functions: how many sets a pattern has, how deep it is, and the document's own walk over it. Conditions: none.
-/
import Derived.Test.YtdbffbdpofodmaaUni
namespace Go.Proofs.Ytdbffbdpofodmaa
open Go Go.RowKit Kit
/-- A pattern, whatever its Op is. -/
inductive Rx where
  | mk (op : Int) (set : BitVec 256) (kids : List Rx)
mutual
/-- How many sets are places. -/
def cnt : Rx → Nat
  | .mk op _ kids => if op = 1 then 1 else if op = 2 ∨ op = 3 then cntL kids else if op = 4 ∨ op = 5 ∨ op = 6 then cnt1 kids else 0
def cntL : List Rx → Nat
  | [] => 0
  | k :: r => cnt k + cntL r
def cnt1 : List Rx → Nat
  | [] => 0
  | k :: _ => cnt k
end
mutual
/-- How deep it is. -/
def deep : Rx → Nat
  | .mk op _ kids => (if op = 2 ∨ op = 3 then deepL kids else if op = 4 ∨ op = 5 ∨ op = 6 then deep1 kids else 0) + 1
def deepL : List Rx → Nat
  | [] => 0
  | k :: r => max (deep k) (deepL r)
def deep1 : List Rx → Nat
  | [] => 0
  | k :: _ => deep k
end
structure Pt where
  null : Bool
  first : List Nat
  last : List Nat
structure Ps where
  sets : List (BitVec 256)
  fol : List (List Nat)
def linkP (fol : List (List Nat)) : List Nat → List Nat → List (List Nat)
  | [], _ => fol
  | i :: r, l => linkP (fol.set i (uni (fol.getD i []) l)) r l
def nullP : Pt := ⟨true, [], []⟩
mutual
def wk : Rx → Ps → Pt × Ps
  | .mk op set kids, st =>
    if op = 1 then (⟨false, [st.sets.length], [st.sets.length]⟩, ⟨st.sets ++ [set], st.fol ++ [[]]⟩)
    else if op = 2 then wkCat kids nullP st
    else if op = 3 then (if kids = [] then (nullP, st) else wkAlt kids ⟨false, [], []⟩ st)
    else if op = 4 ∨ op = 5 ∨ op = 6 then wk1 op kids st
    else (nullP, st)
def wkCat : List Rx → Pt → Ps → Pt × Ps
  | [], p, st => (p, st)
  | k :: r, p, st =>
    let q := (wk k st).1
    let st1 := (wk k st).2
    wkCat r ⟨p.null && q.null, if p.null then uni p.first q.first else p.first, if q.null then uni p.last q.last else q.last⟩ ⟨st1.sets, linkP st1.fol p.last q.first⟩
def wkAlt : List Rx → Pt → Ps → Pt × Ps
  | [], p, st => (p, st)
  | k :: r, p, st =>
    let q := (wk k st).1
    wkAlt r ⟨p.null || q.null, uni p.first q.first, uni p.last q.last⟩ (wk k st).2
def wk1 : Int → List Rx → Ps → Pt × Ps
  | _, [], st => (nullP, st)
  | op, k :: _, st =>
    let q := (wk k st).1
    let st1 := (wk k st).2
    (⟨if op = 5 then q.null else true, q.first, q.last⟩, if op = 6 then st1 else ⟨st1.sets, linkP st1.fol q.last q.first⟩)
end
/-- A rising list of places that there are. -/
def Up (n : Nat) (l : List Nat) : Prop := l.Pairwise (· < ·) ∧ ∀ i ∈ l, i < n
theorem Up.mono {n m : Nat} {l : List Nat} (h : Up n l) (hm : n ≤ m) : Up m l := ⟨h.1, fun i hi => Nat.lt_of_lt_of_le (h.2 i hi) hm⟩
theorem Up.nil (n : Nat) : Up n [] := ⟨List.Pairwise.nil, fun i hi => by simp at hi⟩
theorem mem_uni {x : Nat} (xs ys : List Nat) : x ∈ uni xs ys ↔ x ∈ xs ∨ x ∈ ys := by
  induction xs, ys using uni.induct with
  | case1 => rw [uni_nil]; simp
  | case2 => rw [uni_nil2]; simp
  | case3 a s b t h ih => rw [uni_lt _ _ h, List.mem_cons, ih]; simp [or_assoc]
  | case4 a s b t h1 h2 ih => rw [uni_gt _ _ h2, List.mem_cons, ih]; simp only [List.mem_cons]; constructor <;> (intro h; rcases h with h | h | h <;> simp_all)
  | case5 a s b t h1 h2 ih =>
    have e : a = b := by omega
    rw [uni_eq _ _ e, List.mem_cons, ih]
    subst e
    simp only [List.mem_cons]
    constructor
    · rintro (h | h | h)
      · exact .inl (.inl h)
      · exact .inl (.inr h)
      · exact .inr (.inr h)
    · rintro ((h | h) | (h | h))
      · exact .inl h
      · exact .inr (.inl h)
      · exact .inl h
      · exact .inr (.inr h)
theorem uni_sorted (xs ys : List Nat) (h1 : xs.Pairwise (· < ·)) (h2 : ys.Pairwise (· < ·)) : (uni xs ys).Pairwise (· < ·) := by
  induction xs, ys using uni.induct with
  | case1 => rw [uni_nil]; exact h2
  | case2 => rw [uni_nil2]; exact h1
  | case3 a s b t h ih =>
    rw [uni_lt _ _ h]
    rw [List.pairwise_cons] at h1
    refine List.pairwise_cons.2 ⟨fun x hx => ?_, ih h1.2 h2⟩
    rcases (mem_uni _ _).1 hx with hx | hx
    · exact h1.1 x hx
    · rcases List.mem_cons.1 hx with rfl | hx
      · exact h
      · exact Nat.lt_trans h ((List.pairwise_cons.1 h2).1 x hx)
  | case4 a s b t hh h ih =>
    rw [uni_gt _ _ h]
    rw [List.pairwise_cons] at h2
    refine List.pairwise_cons.2 ⟨fun x hx => ?_, ih h1 h2.2⟩
    rcases (mem_uni _ _).1 hx with hx | hx
    · rcases List.mem_cons.1 hx with rfl | hx
      · exact h
      · exact Nat.lt_trans h ((List.pairwise_cons.1 h1).1 x hx)
    · exact h2.1 x hx
  | case5 a s b t hh h ih =>
    have e : a = b := by omega
    rw [uni_eq _ _ e]
    subst e
    rw [List.pairwise_cons] at h1 h2
    refine List.pairwise_cons.2 ⟨fun x hx => ?_, ih h1.2 h2.2⟩
    rcases (mem_uni _ _).1 hx with hx | hx
    · exact h1.1 x hx
    · exact h2.1 x hx
theorem Up.uni {n : Nat} {xs ys : List Nat} (h1 : Up n xs) (h2 : Up n ys) : Up n (uni xs ys) :=
  ⟨uni_sorted xs ys h1.1 h2.1, fun i hi => ((mem_uni _ _).1 hi).elim (h1.2 i) (h2.2 i)⟩
theorem Up.len {n : Nat} : ∀ {l : List Nat}, Up n l → l.length ≤ n := by
  induction n with
  | zero =>
    intro l h
    match l, h with
    | [], _ => simp
    | a :: r, h => exact absurd (h.2 a (by simp)) (by omega)
  | succ n ih =>
    intro l h
    rcases List.eq_nil_or_concat l with rfl | ⟨r, a, rfl⟩
    · simp
    · have h1 := h.1
      rw [List.concat_eq_append] at h h1 ⊢
      rw [List.pairwise_append] at h1
      have : Up n r := ⟨h1.1, fun i hi => by have := h1.2.2 i hi a (by simp); have := h.2 a (by simp); omega⟩
      have := ih this
      simp; omega
/-- What holds of a maker's lists. -/
def Ok (st : Ps) : Prop := st.fol.length = st.sets.length ∧ ∀ l ∈ st.fol, Up st.sets.length l
def OkP (n : Nat) (p : Pt) : Prop := Up n p.first ∧ Up n p.last
theorem linkP_len (l : List Nat) : ∀ (fr : List Nat) (fol : List (List Nat)), (linkP fol fr l).length = fol.length
  | [], fol => rfl
  | i :: r, fol => by rw [linkP, linkP_len l r, List.length_set]
theorem linkP_up {n : Nat} {l : List Nat} (hl : Up n l) : ∀ (fr : List Nat) (fol : List (List Nat)), (∀ x ∈ fol, Up n x) → ∀ x ∈ linkP fol fr l, Up n x
  | [], fol, h, x, hx => h x hx
  | i :: r, fol, h, x, hx => by
    rw [linkP] at hx
    refine linkP_up hl r _ (fun y hy => ?_) x hx
    rcases List.mem_or_eq_of_mem_set hy with hy | rfl
    · exact h y hy
    · refine Up.uni ?_ hl
      rw [List.getD_eq_getElem?_getD]
      cases hi : fol[i]? with
      | none => exact Up.nil n
      | some z => exact h z (List.mem_of_getElem? hi)
theorem Ok.link {st : Ps} (h : Ok st) {fr l : List Nat} (hl : Up st.sets.length l) : Ok ⟨st.sets, linkP st.fol fr l⟩ :=
  ⟨by rw [linkP_len]; exact h.1, linkP_up hl fr st.fol h.2⟩
mutual
theorem wk_ok : ∀ (x : Rx) (st : Ps), Ok st → Ok (wk x st).2 ∧ (wk x st).2.sets.length = st.sets.length + cnt x ∧ OkP (st.sets.length + cnt x) (wk x st).1
  | .mk op set kids, st, h => by
    by_cases h1 : op = 1
    · rw [wk, if_pos h1, cnt, if_pos h1]
      refine ⟨⟨by simp [h.1], fun l hl => ?_⟩, by simp, ⟨?_, ?_⟩⟩
      · simp only [List.mem_append, List.mem_singleton] at hl
        rcases hl with hl | rfl
        · exact (h.2 l hl).mono (by simp)
        · exact Up.nil _
      all_goals exact ⟨List.pairwise_singleton _ _, fun i hi => by simp at hi; omega⟩
    by_cases h2 : op = 2
    · rw [wk, if_neg h1, if_pos h2, cnt, if_neg h1, if_pos (.inl h2)]
      exact wkCat_ok kids nullP st h ⟨Up.nil _, Up.nil _⟩
    by_cases h3 : op = 3
    · rw [wk, if_neg h1, if_neg h2, if_pos h3, cnt, if_neg h1, if_pos (show op = 2 ∨ op = 3 from .inr h3)]
      by_cases hk : kids = []
      · rw [if_pos hk, hk]; exact ⟨h, by simp [cntL], Up.nil _, Up.nil _⟩
      · rw [if_neg hk]; exact wkAlt_ok kids _ st h ⟨Up.nil _, Up.nil _⟩
    have h23 : ¬ (op = 2 ∨ op = 3) := fun h => h.elim h2 h3
    by_cases h4 : op = 4 ∨ op = 5 ∨ op = 6
    · rw [wk, if_neg h1, if_neg h2, if_neg h3, if_pos h4, cnt, if_neg h1, if_neg h23, if_pos h4]
      exact wk1_ok op kids st h
    · rw [wk, if_neg h1, if_neg h2, if_neg h3, if_neg h4, cnt, if_neg h1, if_neg h23, if_neg h4]
      exact ⟨h, by simp, Up.nil _, Up.nil _⟩
theorem wkCat_ok : ∀ (kids : List Rx) (p : Pt) (st : Ps), Ok st → OkP st.sets.length p → Ok (wkCat kids p st).2 ∧ (wkCat kids p st).2.sets.length = st.sets.length + cntL kids ∧ OkP (st.sets.length + cntL kids) (wkCat kids p st).1
  | [], p, st, h, hp => by rw [wkCat, cntL]; exact ⟨h, by simp, hp⟩
  | k :: r, p, st, h, hp => by
    rw [wkCat, cntL]
    obtain ⟨h1, h2, h3⟩ := wk_ok k st h
    have hp' : OkP (wk k st).2.sets.length p := by rw [h2]; exact ⟨hp.1.mono (by omega), hp.2.mono (by omega)⟩
    have hq : OkP (wk k st).2.sets.length (wk k st).1 := by rw [h2]; exact h3
    have := wkCat_ok r ⟨p.null && (wk k st).1.null, if p.null then uni p.first (wk k st).1.first else p.first, if (wk k st).1.null then uni p.last (wk k st).1.last else (wk k st).1.last⟩ ⟨(wk k st).2.sets, linkP (wk k st).2.fol p.last (wk k st).1.first⟩ (h1.link hq.1) ⟨by
      simp only []
      split
      · exact hp'.1.uni hq.1
      · exact hp'.1, by
      simp only []
      split
      · exact hp'.2.uni hq.2
      · exact hq.2⟩
    simp only [h2] at this
    rw [Nat.add_assoc] at this
    exact this
theorem wkAlt_ok : ∀ (kids : List Rx) (p : Pt) (st : Ps), Ok st → OkP st.sets.length p → Ok (wkAlt kids p st).2 ∧ (wkAlt kids p st).2.sets.length = st.sets.length + cntL kids ∧ OkP (st.sets.length + cntL kids) (wkAlt kids p st).1
  | [], p, st, h, hp => by rw [wkAlt, cntL]; exact ⟨h, by simp, hp⟩
  | k :: r, p, st, h, hp => by
    rw [wkAlt, cntL]
    obtain ⟨h1, h2, h3⟩ := wk_ok k st h
    have hp' : OkP (wk k st).2.sets.length p := by rw [h2]; exact ⟨hp.1.mono (by omega), hp.2.mono (by omega)⟩
    have hq : OkP (wk k st).2.sets.length (wk k st).1 := by rw [h2]; exact h3
    have := wkAlt_ok r ⟨p.null || (wk k st).1.null, uni p.first (wk k st).1.first, uni p.last (wk k st).1.last⟩ (wk k st).2 h1 ⟨hp'.1.uni hq.1, hp'.2.uni hq.2⟩
    simp only [h2] at this
    rw [Nat.add_assoc] at this
    exact this
theorem wk1_ok : ∀ (op : Int) (kids : List Rx) (st : Ps), Ok st → Ok (wk1 op kids st).2 ∧ (wk1 op kids st).2.sets.length = st.sets.length + cnt1 kids ∧ OkP (st.sets.length + cnt1 kids) (wk1 op kids st).1
  | op, [], st, h => by rw [wk1, cnt1]; exact ⟨h, by simp, Up.nil _, Up.nil _⟩
  | op, k :: r, st, h => by
    rw [wk1, cnt1]
    obtain ⟨h1, h2, h3⟩ := wk_ok k st h
    have hq : OkP (wk k st).2.sets.length (wk k st).1 := by rw [h2]; exact h3
    by_cases h6 : op = 6
    · simp only [if_pos h6]
      exact ⟨h1, h2, h3⟩
    · simp only [if_neg h6]
      exact ⟨h1.link hq.1, h2, h3⟩
end
end Go.Proofs.Ytdbffbdpofodmaa
