/-
  Each step of a survey keeps what holds, and there is less to look at. Conditions: none.
-/
import Derived.Test.YtaagkdljkpbilaaS7
import Derived.Test.YtaagkdljkpbilaaLitK
import Derived.Test.YtaagkdljkpbilaaSw
import Derived.Test.YtaagkdljkpbilaaBx
set_option linter.unusedSimpArgs false
set_option linter.unusedVariables false
namespace Go.Proofs.Ytaagkdljkpbilaa.K
open Go Ev
set_option maxRecDepth 100000
set_option maxHeartbeats 4000000

theorem plus_same (m : Mk) (a b : Int) : Same (m.next.plus a b) m := ⟨rfl, rfl, rfl, rfl⟩
theorem mem_set' {ms : List Mk} {n : Nat} {a x : Mk} (h : x ∈ ms.set n a) : x ∈ ms ∨ x = a := List.mem_or_eq_of_mem_set h
theorem rem_set {ms : List Mk} {n q : Nat} {a : Mk} (h : q ≠ n) : rem1 (ms.set n a) q = rem1 ms q := by unfold rem1; rw [set_other h]
theorem nodup_tail {n : Nat} {r : List Nat} (h : (n :: r).Pairwise (· > ·)) : ∀ q ∈ r, q ≠ n := fun q hq => by
  have := (List.pairwise_cons.1 h).1 q hq
  omega
/-- A kid's size is added. -/
theorem step_add {ms : List Mk} {n : Nat} {r : List Nat} {m : Mk} {y : Rx} (h : SInv ms (n :: r)) (hm : ms[n]? = some m) (hy : m.x.lk[m.k]? = some y) (hreg : y.lk = [] ∨ ∃ j mj, findK m.kid.1 m.kid.2 ms = some j ∧ ms[j]? = some mj ∧ mj.x = y) :
    SInv (ms.set n (m.next.plus (szP y) (szD y))) (n :: r) ∧ mz (ms.set n (m.next.plus (szP y) (szD y))) (n :: r) < mz ms (n :: r) := by
  have hmm := List.mem_of_getElem? hm
  have hnd := h.pnd n List.mem_cons_self m hm
  have hkl := (List.getElem?_eq_some_iff.1 hy).1
  obtain ⟨⟨m0, e0, hacc⟩, hbel⟩ := h.top n r rfl
  rw [hm] at e0
  cases e0
  have hne := nodup_tail h.pw
  refine ⟨⟨?_, ?_, h.pw, ?_, ?_, ?_, ?_, ?_, ?_⟩, ?_⟩
  · intro x hx
    rcases mem_set' hx with hx | rfl
    · exact h.bnd x hx
    · exact pl_bnd m.next (h.bnd m hmm) (szP_nn y) (szD_nn y)
  · intro x hx
    rcases mem_set' hx with hx | rfl
    · exact h.kle x hx
    · exact ⟨hkl, (h.kle m hmm).2⟩
  · intro q hq
    rw [List.length_set]
    exact h.lt q hq
  · intro i x hi hx
    rcases set_cases hi with ⟨rfl, _, _⟩ | ⟨_, hi⟩
    · exact List.mem_cons_self
    · exact h.und i x hi hx
  · intro q hq x hx
    rcases set_cases hx with ⟨_, rfl, _⟩ | ⟨_, hx⟩
    · exact hnd
    · exact h.pnd q hq x hx
  · intro x hx hd
    rcases mem_set' hx with hx | rfl
    · exact h.dn x hx hd
    · have : m.done = true := hd
      rw [hnd] at this; cases this
  · intro n' r' e
    cases e
    refine ⟨⟨_, set_self hm, acc_plus (m := m) hacc hy (m.k + 1)⟩, hbel.mono (fun x hx => ?_) fun q hq x hx => ?_⟩
    · rw [hm] at hx
      cases hx
      exact ⟨_, set_self hm, plus_same m _ _⟩
    · rw [set_other (hne q hq)]; exact hx
  · intro x hx k z hk hz
    rcases mem_set' hx with hx | rfl
    · rcases h.reg x hx k z hk hz with e | e
      · exact .inl e
      · exact .inr (reg_set hm (plus_same m _ _) e)
    · have hk : k < m.k + 1 := hk
      have hz : m.x.lk[k]? = some z := hz
      by_cases e : k = m.k
      · subst e
        rw [hy] at hz
        cases hz
        rcases hreg with e | e
        · exact .inl e
        · exact .inr (reg_set hm (plus_same m _ _) e)
      · rcases h.reg m hmm k z (by omega) hz with e | e
        · exact .inl e
        · exact .inr (reg_set hm (plus_same m _ _) e)
  · rw [mz_cons, mz_cons, mz_same (ms := ms) fun q hq => rem_set (hne q hq)]
    have e1 : rem1 (ms.set n (m.next.plus (szP y) (szD y))) n = 1 + weiL (m.x.lk.drop (m.k + 1)) := by unfold rem1; rw [set_self hm]; rfl
    have e2 : rem1 ms n = 1 + weiL (m.x.lk.drop m.k) := by unfold rem1; rw [hm]
    rw [e1, e2, weiL_drop hy]
    obtain ⟨op, a, b, c, d, kk⟩ := y
    unfold wei
    omega
theorem findK_app {id off : Nat} : ∀ {l : List Mk} {a : Mk} {j : Nat}, findK id off l = some j → findK id off (l ++ [a]) = some j
  | [], a, j, h => by cases h
  | b :: l, a, j, h => by
    rw [List.cons_append]
    unfold findK at h ⊢
    split
    · rename_i e
      rw [if_pos e] at h
      exact h
    · rename_i e
      rw [if_neg e] at h
      cases hf : findK id off l with
      | none => rw [hf] at h; cases h
      | some k => rw [hf] at h; rw [findK_app hf]; exact h
theorem findK_new {id off : Nat} : ∀ {l : List Mk} {a : Mk}, findK id off l = none → a.id = id → a.off = off → findK id off (l ++ [a]) = some l.length
  | [], a, h, h1, h2 => by rw [List.nil_append]; unfold findK; rw [if_pos ⟨h1, h2⟩]; rfl
  | b :: l, a, h, h1, h2 => by
    rw [List.cons_append]
    unfold findK at h ⊢
    split at h
    · cases h
    · rename_i e
      rw [if_neg e]
      cases hf : findK id off l with
      | some k => rw [hf] at h; cases h
      | none => rw [findK_new hf h1 h2]; rfl
theorem next_same (m : Mk) : Same m.next m := ⟨rfl, rfl, rfl, rfl⟩
theorem app_cases {ms : List Mk} {i : Nat} {a m : Mk} (h : (ms ++ [a])[i]? = some m) : (i = ms.length ∧ m = a) ∨ ms[i]? = some m := by
  rw [List.getElem?_append] at h
  split at h
  · exact .inr h
  · rename_i hlt
    have hi : i - ms.length = 0 := by
      have := (List.getElem?_eq_some_iff.1 h).1
      simp at this; omega
    rw [hi] at h
    cases h
    exact .inl ⟨by omega, rfl⟩
theorem app_old {ms : List Mk} {i : Nat} {a m : Mk} (h : ms[i]? = some m) : (ms ++ [a])[i]? = some m := by
  rw [List.getElem?_append_left (List.getElem?_eq_some_iff.1 h).1]; exact h
/-- A kid is opened. -/
theorem step_open {ms : List Mk} {n : Nat} {r : List Nat} {m : Mk} {y : Rx} {kv : MV} (h : SInv ms (n :: r)) (hm : ms[n]? = some m) (hy : m.x.lk[m.k]? = some y) (hl : y.lk ≠ []) (hf : findK m.kid.1 m.kid.2 ms = none) :
    SInv (ms.set n m.next ++ [⟨m.kid.1, m.kid.2, y, kv, 0, false, 0, 0⟩]) (ms.length :: n :: r) ∧ mz (ms.set n m.next ++ [⟨m.kid.1, m.kid.2, y, kv, 0, false, 0, 0⟩]) (ms.length :: n :: r) < mz ms (n :: r) := by
  have hmm := List.mem_of_getElem? hm
  have hnd := h.pnd n List.mem_cons_self m hm
  have hkl := (List.getElem?_eq_some_iff.1 hy).1
  obtain ⟨⟨m0, e0, hacc⟩, hbel⟩ := h.top n r rfl
  rw [hm] at e0
  cases e0
  have hne := nodup_tail h.pw
  have hsl : (ms.set n m.next).length = ms.length := List.length_set
  generalize hA : (⟨m.kid.1, m.kid.2, y, kv, 0, false, 0, 0⟩ : Mk) = a
  have ha1 : a.id = m.kid.1 := by rw [← hA]
  have ha2 : a.off = m.kid.2 := by rw [← hA]
  have ha3 : a.x = y := by rw [← hA]
  have ha4 : a.k = 0 := by rw [← hA]
  have ha5 : a.done = false := by rw [← hA]
  have ha6 : a.pl = 0 := by rw [← hA]
  have ha7 : a.dp = 0 := by rw [← hA]
  clear hA
  have hnew : (ms.set n m.next ++ [a])[ms.length]? = some a := by rw [List.getElem?_append_right (by omega), hsl, Nat.sub_self]; rfl
  have hfn : findK m.kid.1 m.kid.2 (ms.set n m.next) = none := (findK_ids (ids_set (m' := m.next) hm rfl rfl)).trans hf
  have hnn : (ms.set n m.next ++ [a])[n]? = some m.next := app_old (set_self hm)
  have oth : ∀ q, q ≠ n → ∀ x, ms[q]? = some x → (ms.set n m.next ++ [a])[q]? = some x := fun q hq x hx => app_old (by rw [set_other hq]; exact hx)
  have mem : ∀ x ∈ ms.set n m.next ++ [a], x ∈ ms ∨ x = m.next ∨ x = a := fun x hx => by
    rcases List.mem_append.1 hx with hx | hx
    · rcases mem_set' hx with hx | hx
      · exact .inl hx
      · exact .inr (.inl hx)
    · simp only [List.mem_cons, List.not_mem_nil, or_false] at hx
      exact .inr (.inr hx)
  have rg : ∀ {id off : Nat} {z : Rx}, (∃ j mj, findK id off ms = some j ∧ ms[j]? = some mj ∧ mj.x = z) → ∃ j mj, findK id off (ms.set n m.next ++ [a]) = some j ∧ (ms.set n m.next ++ [a])[j]? = some mj ∧ mj.x = z := fun e => by
    obtain ⟨j, mj, h1, h2, h3⟩ := reg_set hm (next_same m) e
    exact ⟨j, mj, findK_app h1, app_old h2, h3⟩
  have hltn := h.lt n List.mem_cons_self
  refine ⟨⟨?_, ?_, ?_, ?_, ?_, ?_, ?_, ?_, ?_⟩, ?_⟩
  · intro x hx
    rcases mem x hx with hx | rfl | rfl
    · exact h.bnd x hx
    · exact h.bnd m hmm
    · omega
  · intro x hx
    rcases mem x hx with hx | rfl | rfl
    · exact h.kle x hx
    · exact ⟨hkl, (h.kle m hmm).2⟩
    · exact ⟨by omega, by rw [ha3]; exact hl⟩
  · refine List.pairwise_cons.2 ⟨fun q hq => h.lt q hq, h.pw⟩
  · intro q hq
    rw [List.length_append, hsl]
    rcases List.mem_cons.1 hq with rfl | hq
    · simp
    · have := h.lt q hq; omega
  · intro i x hi hx
    rcases app_cases hi with ⟨rfl, _⟩ | hi
    · rw [hsl]; exact List.mem_cons_self
    · rcases set_cases hi with ⟨rfl, _, _⟩ | ⟨_, hi⟩
      · exact List.mem_cons_of_mem _ List.mem_cons_self
      · exact List.mem_cons_of_mem _ (h.und i x hi hx)
  · intro q hq x hx
    rcases app_cases hx with ⟨_, rfl⟩ | hx
    · exact ha5
    · rcases set_cases hx with ⟨_, rfl, _⟩ | ⟨_, hx⟩
      · exact hnd
      · rcases List.mem_cons.1 hq with rfl | hq
        · have := (List.getElem?_eq_some_iff.1 hx).1; omega
        · exact h.pnd q hq x hx
  · intro x hx hd
    rcases mem x hx with hx | rfl | rfl
    · exact h.dn x hx hd
    · have : m.done = true := hd
      rw [hnd] at this; cases this
    · rw [ha5] at hd; cases hd
  · intro n' r' e
    cases e
    refine ⟨⟨a, hnew, ?_⟩, a, m.next, hnew, hnn, m.k, rfl, by rw [ha3]; exact hy, by rw [ha1, ha2]; rfl, hacc, hbel.mono (fun x hx => ?_) fun q hq x hx => oth q (hne q hq) x hx⟩
    · unfold acc
      rw [ha4, ha6, ha7]
      exact ⟨by simp [cntL], rfl⟩
    · rw [hm] at hx
      cases hx
      exact ⟨_, hnn, next_same m⟩
  · intro x hx k z hk hz
    rcases mem x hx with hx | rfl | rfl
    · rcases h.reg x hx k z hk hz with e | e
      · exact .inl e
      · exact .inr (rg e)
    · have hk : k < m.k + 1 := hk
      have hz : m.x.lk[k]? = some z := hz
      by_cases e : k = m.k
      · subst e
        rw [hy] at hz
        cases hz
        exact .inr ⟨ms.length, a, by have := findK_new (a := a) hfn ha1 ha2; rw [hsl] at this; exact this, hnew, ha3⟩
      · rcases h.reg m hmm k z (by omega) hz with e | e
        · exact .inl e
        · exact .inr (rg e)
    · omega
  · rw [mz_cons, mz_cons, mz_cons]
    have hrest : mz (ms.set n m.next ++ [a]) r = mz ms r := mz_same fun q hq => by
      unfold rem1
      obtain ⟨x, hx⟩ : ∃ x, ms[q]? = some x := ⟨_, List.getElem?_eq_getElem (h.lt q (List.mem_cons_of_mem _ hq))⟩
      rw [oth q (hne q hq) x hx, hx]
    have e0 : rem1 (ms.set n m.next ++ [a]) ms.length = 1 + weiL y.lk := by unfold rem1; rw [hnew]; simp only; rw [ha3, ha4, List.drop_zero]
    have e1 : rem1 (ms.set n m.next ++ [a]) n = 1 + weiL (m.x.lk.drop (m.k + 1)) := by unfold rem1; rw [hnn]; rfl
    have e2 : rem1 ms n = 1 + weiL (m.x.lk.drop m.k) := by unfold rem1; rw [hm]
    rw [hrest, e0, e1, e2, weiL_drop hy]
    have := wei_lk y
    omega
/-- A pattern is closed. -/
theorem step_close {ms : List Mk} {n : Nat} {r : List Nat} {m : Mk} (h : SInv ms (n :: r)) (hm : ms[n]? = some m) (hk : m.k = m.x.lk.length) :
    SInv (closeP ms r.reverse n m) r ∧ mz (closeP ms r.reverse n m) r < mz ms (n :: r) ∧ (closeP ms r.reverse n m).length = ms.length := by
  have hmm := List.mem_of_getElem? hm
  have hnd := h.pnd n List.mem_cons_self m hm
  obtain ⟨⟨m0, e0, hacc⟩, hbel⟩ := h.top n r rfl
  rw [hm] at e0
  cases e0
  have hne := nodup_tail h.pw
  rw [hk] at hacc
  have hfin := acc_done hacc (h.kle m hmm).2
  have hsame : Same { m with done := true } m := ⟨rfl, rfl, rfl, rfl⟩
  have e1 : rem1 ms n = 1 := by unfold rem1; rw [hm]; simp only; rw [hk, List.drop_length]; rfl
  cases r with
  | nil =>
    rw [show closeP ms [].reverse n m = ms.set n { m with done := true } from rfl]
    refine ⟨⟨?_, ?_, List.Pairwise.nil, fun q hq => (by cases hq), ?_, fun q hq => (by cases hq), ?_, fun n' r' e => (by cases e), ?_⟩, ?_, List.length_set⟩
    · intro x hx
      rcases mem_set' hx with hx | rfl
      · exact h.bnd x hx
      · exact h.bnd m hmm
    · intro x hx
      rcases mem_set' hx with hx | rfl
      · exact h.kle x hx
      · exact h.kle m hmm
    · intro i x hi hx
      rcases set_cases hi with ⟨rfl, rfl, _⟩ | ⟨hin, hi⟩
      · cases hx
      · have := h.und i x hi hx
        simp only [List.mem_cons, List.not_mem_nil, or_false] at this
        exact (hin this).elim
    · intro x hx hd
      rcases mem_set' hx with hx | rfl
      · exact h.dn x hx hd
      · exact ⟨hk, hfin⟩
    · intro x hx k z hk' hz
      rcases mem_set' hx with hx | rfl
      · rcases h.reg x hx k z hk' hz with e | e
        · exact .inl e
        · exact .inr (reg_set hm hsame e)
      · rcases h.reg m hmm k z hk' hz with e | e
        · exact .inl e
        · exact .inr (reg_set hm hsame e)
    · rw [mz_cons, e1]
      unfold mz
      simp
  | cons q r =>
    obtain ⟨m1, mq, b1, b2, k, b3, b4, b5, b6, b7⟩ := hbel
    rw [hm] at b1
    cases b1
    have hqn : q ≠ n := hne q List.mem_cons_self
    have hqr := nodup_tail (List.pairwise_cons.1 h.pw).2
    have hcl : closeP ms (q :: r).reverse n m = (ms.set n { m with done := true }).set q (mq.plus m.pl m.dp) := by
      unfold closeP
      rw [List.reverse_cons, List.getLast?_concat]
      simp only [b2]
    rw [show mq.plus m.pl m.dp = mq.plus (szP m.x) (szD m.x) from by rw [hfin.1, hfin.2]] at hcl
    rw [hcl]
    have hq1 : (ms.set n { m with done := true })[q]? = some mq := by rw [set_other hqn]; exact b2
    have hqs : Same (mq.plus (szP m.x) (szD m.x)) mq := ⟨rfl, rfl, rfl, rfl⟩
    have hmq := List.mem_of_getElem? b2
    have hqd := h.pnd q (List.mem_cons_of_mem _ List.mem_cons_self) mq b2
    have mem : ∀ x ∈ (ms.set n { m with done := true }).set q (mq.plus (szP m.x) (szD m.x)), x ∈ ms ∨ x = { m with done := true } ∨ x = mq.plus (szP m.x) (szD m.x) := fun x hx => by
      rcases mem_set' hx with hx | hx
      · rcases mem_set' hx with hx | hx
        · exact .inl hx
        · exact .inr (.inl hx)
      · exact .inr (.inr hx)
    have oth : ∀ i, i ≠ n → i ≠ q → ((ms.set n { m with done := true }).set q (mq.plus (szP m.x) (szD m.x)))[i]? = ms[i]? := fun i h1 h2 => by rw [set_other h2, set_other h1]
    have rg : ∀ {id off : Nat} {z : Rx}, (∃ j mj, findK id off ms = some j ∧ ms[j]? = some mj ∧ mj.x = z) → ∃ j mj, findK id off ((ms.set n { m with done := true }).set q (mq.plus (szP m.x) (szD m.x))) = some j ∧ ((ms.set n { m with done := true }).set q (mq.plus (szP m.x) (szD m.x)))[j]? = some mj ∧ mj.x = z := fun e => reg_set hq1 hqs (reg_set hm hsame e)
    refine ⟨⟨?_, ?_, (List.pairwise_cons.1 h.pw).2, ?_, ?_, ?_, ?_, ?_, ?_⟩, ?_, by rw [List.length_set, List.length_set]⟩
    · intro x hx
      rcases mem x hx with hx | rfl | rfl
      · exact h.bnd x hx
      · exact h.bnd m hmm
      · exact pl_bnd mq (h.bnd mq hmq) (szP_nn _) (szD_nn _)
    · intro x hx
      rcases mem x hx with hx | rfl | rfl
      · exact h.kle x hx
      · exact h.kle m hmm
      · exact h.kle mq hmq
    · intro i hi
      rw [List.length_set, List.length_set]
      exact h.lt i (List.mem_cons_of_mem _ hi)
    · intro i x hi hx
      rcases set_cases hi with ⟨rfl, _, _⟩ | ⟨h1, hi⟩
      · exact List.mem_cons_self
      · rcases set_cases hi with ⟨rfl, rfl, _⟩ | ⟨h2, hi⟩
        · cases hx
        · rcases List.mem_cons.1 (h.und i x hi hx) with e | e
          · exact (h2 e).elim
          · exact e
    · intro i hi x hx
      rcases set_cases hx with ⟨_, rfl, _⟩ | ⟨h1, hx⟩
      · exact hqd
      · rw [set_other (hne i hi)] at hx
        exact h.pnd i (List.mem_cons_of_mem _ hi) x hx
    · intro x hx hd
      rcases mem x hx with hx | rfl | rfl
      · exact h.dn x hx hd
      · exact ⟨hk, hfin⟩
      · have : mq.done = true := hd
        rw [hqd] at this; cases this
    · intro n' r' e
      cases e
      refine ⟨⟨_, set_self hq1, ?_⟩, b7.mono (fun x hx => ?_) fun i hi x hx => ?_⟩
      · show acc (mq.plus (szP m.x) (szD m.x)) mq.k
        rw [b3]
        exact acc_plus (m := mq) b6 b4 mq.k
      · rw [b2] at hx
        cases hx
        exact ⟨_, set_self hq1, hqs⟩
      · rw [oth i (hne i (List.mem_cons_of_mem _ hi)) (hqr i hi)]; exact hx
    · intro x hx k' z hk' hz
      rcases mem x hx with hx | rfl | rfl
      · rcases h.reg x hx k' z hk' hz with e | e
        · exact .inl e
        · exact .inr (rg e)
      · rcases h.reg m hmm k' z hk' hz with e | e
        · exact .inl e
        · exact .inr (rg e)
      · rcases h.reg mq hmq k' z hk' hz with e | e
        · exact .inl e
        · exact .inr (rg e)
    · rw [show mz ms (n :: q :: r) = rem1 ms n + mz ms (q :: r) from rfl, e1]
      have : mz ((ms.set n { m with done := true }).set q (mq.plus (szP m.x) (szD m.x))) (q :: r) = mz ms (q :: r) := by
        refine mz_same fun i hi => ?_
        by_cases e : i = q
        · subst e
          unfold rem1
          rw [set_self hq1, b2]
          rfl
        · unfold rem1
          rw [oth i (hne i hi) e]
      omega
end Go.Proofs.Ytaagkdljkpbilaa.K
