/-
  What a pattern's places are, and that all within it is known. Conditions: none.
-/
import Derived.Test.YtaagkdljkpbilaaP4
import Derived.Test.YtaagkdljkpbilaaLitK
import Derived.Test.YtaagkdljkpbilaaSw
import Derived.Test.YtaagkdljkpbilaaBx
set_option linter.unusedSimpArgs false
set_option linter.unusedVariables false
namespace Go.Proofs.Ytaagkdljkpbilaa.K
open Go Ev
set_option maxRecDepth 100000
set_option maxHeartbeats 4000000

def p0M : Pm := ⟨true, 0, 0⟩
def placeM (s : List MV) (st : Bs) : Pm × Bs := (⟨false, 2 ^ st.sets.length, 2 ^ st.sets.length⟩, ⟨st.sets ++ [s], st.fol ++ [0]⟩)
def catP (p q : Pm) : Pm := ⟨p.null && q.null, if p.null = true then p.fi ||| q.fi else p.fi, if q.null = true then p.la ||| q.la else q.la⟩
def altP (p q : Pm) : Pm := ⟨p.null || q.null, p.fi ||| q.fi, p.la ||| q.la⟩
def linkB (st : Bs) (la fi : Nat) : Bs := ⟨st.sets, linkM st.fol la fi⟩
def repP (op : Int) (q : Pm × Bs) : Pm × Bs := (⟨if op = 5 then q.1.null else true, q.1.fi, q.1.la⟩, if op = 6 then q.2 else linkB q.2 q.1.la q.1.fi)
mutual
def partM : Rx → Bs → Pm × Bs
  | .mk op a b c d kids, st => if cnt (.mk op a b c d kids) = 0 then (p0M, st) else if op = 1 then placeM (st4 a b c d) st else if op = 2 then catM kids p0M st else if op = 3 then altM kids ⟨false, 0, 0⟩ st else rep1M op kids st
def catM : List Rx → Pm → Bs → Pm × Bs
  | [], p, st => (p, st)
  | k :: r, p, st => catM r (catP p (partM k st).1) (linkB (partM k st).2 p.la (partM k st).1.fi)
def altM : List Rx → Pm → Bs → Pm × Bs
  | [], p, st => (p, st)
  | k :: r, p, st => altM r (altP p (partM k st).1) (partM k st).2
def rep1M : Int → List Rx → Bs → Pm × Bs
  | _, [], st => (p0M, st)
  | op, k :: _, st => repP op (partM k st)
end
theorem repP_sets (op : Int) (q : Pm × Bs) : (repP op q).2.sets = q.2.sets := by
  show (if op = 6 then q.2 else linkB q.2 q.1.la q.1.fi).sets = _
  split <;> rfl
theorem linkB_len (st : Bs) (la fi : Nat) : (linkB st la fi).sets.length = st.sets.length := rfl
mutual
theorem partM_len : ∀ (x : Rx) (st : Bs), (partM x st).2.sets.length = st.sets.length + cnt x
  | .mk op a b c d kids, st => by
    rw [partM]
    by_cases h0 : cnt (.mk op a b c d kids) = 0
    · rw [if_pos h0, h0]; rfl
    rw [if_neg h0]
    rw [cnt] at h0 ⊢
    by_cases h1 : op = 1
    · rw [if_pos h1, if_pos h1]; simp [placeM]
    rw [if_neg h1] at h0
    rw [if_neg h1, if_neg h1]
    by_cases h2 : op = 2
    · rw [if_pos h2, if_pos (.inl h2)]; exact catM_len kids _ st
    by_cases h3 : op = 3
    · rw [if_neg h2, if_pos h3, if_pos (.inr h3)]; exact altM_len kids _ st
    have h23 : ¬ (op = 2 ∨ op = 3) := fun h => h.elim h2 h3
    rw [if_neg h23] at h0
    rw [if_neg h2, if_neg h3, if_neg h23]
    by_cases h4 : op = 4 ∨ op = 5 ∨ op = 6
    · rw [if_pos h4]; exact rep1M_len op kids st
    · rw [if_neg h4] at h0; exact (h0 rfl).elim
theorem catM_len : ∀ (l : List Rx) (p : Pm) (st : Bs), (catM l p st).2.sets.length = st.sets.length + cntL l
  | [], p, st => by rw [catM, cntL]; rfl
  | k :: r, p, st => by rw [catM, cntL, catM_len r, linkB_len, partM_len k st, Nat.add_assoc]
theorem altM_len : ∀ (l : List Rx) (p : Pm) (st : Bs), (altM l p st).2.sets.length = st.sets.length + cntL l
  | [], p, st => by rw [altM, cntL]; rfl
  | k :: r, p, st => by rw [altM, cntL, altM_len r, partM_len k st, Nat.add_assoc]
theorem rep1M_len : ∀ (op : Int) (l : List Rx) (st : Bs), (rep1M op l st).2.sets.length = st.sets.length + cnt1 l
  | op, [], st => by rw [rep1M, cnt1]; rfl
  | op, k :: r, st => by
    rw [rep1M, cnt1, repP_sets]
    exact partM_len k st
end
/-- A pattern that was gone through. -/
def Reg (ms : List Mk) (x : Rx) (id off : Nat) : Prop := x.lk = [] ∨ ∃ j mj, findK id off ms = some j ∧ ms[j]? = some mj ∧ mj.x = x
theorem reg_done {ms : List Mk} (h : SInv ms []) {n : Nat} {m : Mk} (hm : ms[n]? = some m) : m.done = true := by
  cases hd : m.done with
  | true => rfl
  | false => have := h.und n m hm hd; cases this
theorem reg_known {ms : List Mk} (h : SInv ms []) {x : Rx} {id off : Nat} (hr : Reg ms x id off) : Known ms x id off := by
  rcases hr with hr | ⟨j, mj, h1, h2, h3⟩
  · exact .inl hr
  · have := h.dn mj (List.mem_of_getElem? h2) (reg_done h h2)
    rw [h3] at this
    exact .inr ⟨j, mj, h1, h2, this.2.1, this.2.2⟩
/-- What is within is gone through, too. -/
theorem reg_kid {Mb : MH} {mid : Nat} {mv : MV} {ms : List Mk} (h : SvB Mb mid mv ms) {op a b c d : Int} {kids : List Rx} {id off : Nat} {t : T MV} {kv : MV} (hg : Mb.get id = some (.cs false 6 t)) (hc : cget t (off + 5) = some kv) (hr : Reg ms (.mk op a b c d kids) id off) {i : Nat} {y : Rx} (hy : (Rx.mk op a b c d kids).lk[i]? = some y) : Reg ms y (sid kv) (soff kv + i * 6) := by
  rcases hr with hr | ⟨j, mj, h1, h2, h3⟩
  · rw [hr] at hy; simp at hy
  · obtain ⟨m', e1, e2, e3⟩ := findK_some h1
    rw [h2] at e1
    cases e1
    have hmem := List.mem_of_getElem? h2
    have hdn := h.inv.dn mj hmem (reg_done h.inv h2)
    obtain ⟨_, k1, k2, k3, k4⟩ := h.nodes mj hmem
    rw [h3] at hdn k4
    obtain ⟨t', kv', q1, q2, q3, q4⟩ := k4 (fun e => by rw [e] at hy; simp at hy)
    rw [e2, hg] at q1
    cases q1
    rw [e3, hc] at q2
    cases q2
    have := h.inv.reg mj hmem i y (by rw [hdn.1]; exact (List.getElem?_eq_some_iff.1 hy).1) (by rw [h3]; exact hy)
    unfold place at this
    rw [q3, q4] at this
    exact this
end Go.Proofs.Ytaagkdljkpbilaa.K
