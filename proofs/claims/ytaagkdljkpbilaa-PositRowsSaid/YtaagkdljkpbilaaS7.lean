/-
  What holds while a survey is under way, and how each step keeps it. Conditions: none.
-/
import Derived.Test.YtaagkdljkpbilaaS6
import Derived.Test.YtaagkdljkpbilaaLitK
import Derived.Test.YtaagkdljkpbilaaSw
import Derived.Test.YtaagkdljkpbilaaBx
set_option linter.unusedSimpArgs false
set_option linter.unusedVariables false
namespace Go.Proofs.Ytaagkdljkpbilaa.K
open Go Ev
set_option maxRecDepth 100000
set_option maxHeartbeats 4000000

def place (m : Mk) (k : Nat) : Nat × Nat := (sid m.kv, soff m.kv + k * 6)
def acc (m : Mk) (k : Nat) : Prop := m.pl = ((min 151 (cntL (m.x.lk.take k)) : Nat) : Int) ∧ m.dp = ((if k = 0 then 0 else min 201 (deepL (m.x.lk.take k) + 1) : Nat) : Int)
theorem acc_plus {m : Mk} {k : Nat} {y : Rx} (h : acc m k) (hy : m.x.lk[k]? = some y) (k' : Nat) : acc ({ m with k := k' }.plus (szP y) (szD y)) (k + 1) := by
  obtain ⟨h1, h2⟩ := h
  have ht : m.x.lk.take (k + 1) = m.x.lk.take k ++ [y] := by rw [List.take_add_one, hy]; rfl
  refine ⟨?_, ?_⟩
  · show min (m.pl + szP y) 151 = _
    rw [show ({ m with k := k' } : Mk).plus (szP y) (szD y) = { m with k := k', pl := min (m.pl + szP y) 151, dp := min (max m.dp (szD y + 1)) 201 } from rfl]
    simp only
    rw [ht, cntL_app, h1]
    unfold szP
    simp only [cntL]
    omega
  · show min (max m.dp (szD y + 1)) 201 = _
    rw [show ({ m with k := k' } : Mk).plus (szP y) (szD y) = { m with k := k', pl := min (m.pl + szP y) 151, dp := min (max m.dp (szD y + 1)) 201 } from rfl]
    simp only
    rw [ht, deepL_app, h2, if_neg (Nat.succ_ne_zero k)]
    unfold szD
    simp only [deepL]
    split
    · rename_i e
      subst e
      simp only [List.take_zero, deepL]
      omega
    · omega
theorem acc_done {m : Mk} (h : acc m m.x.lk.length) (hl : m.x.lk ≠ []) : m.pl = szP m.x ∧ m.dp = szD m.x := by
  obtain ⟨h1, h2⟩ := h
  rw [List.take_length] at h1 h2
  have : m.x.lk.length ≠ 0 := fun e => hl (List.length_eq_zero_iff.1 e)
  rw [if_neg this] at h2
  unfold szP szD
  rw [cnt_lk hl, deep_lk]
  exact ⟨h1, h2⟩
def Below (ms : List Mk) : Nat → List Nat → Prop
  | _, [] => True
  | n, q :: r => ∃ m m', ms[n]? = some m ∧ ms[q]? = some m' ∧ ∃ k, m'.k = k + 1 ∧ m'.x.lk[k]? = some m.x ∧ (m.id, m.off) = place m' k ∧ acc m' k ∧ Below ms q r
/-- The same pattern at the same place. -/
def Same (a b : Mk) : Prop := a.id = b.id ∧ a.off = b.off ∧ a.x = b.x ∧ a.kv = b.kv
theorem Below.mono {ms ms' : List Mk} : ∀ {r : List Nat} {n : Nat}, Below ms n r → (∀ m, ms[n]? = some m → ∃ m', ms'[n]? = some m' ∧ Same m' m) → (∀ q ∈ r, ∀ m, ms[q]? = some m → ms'[q]? = some m) → Below ms' n r
  | [], n, h, _, _ => trivial
  | q :: r, n, h, hn, hr => by
    obtain ⟨m, m', h1, h2, k, h3, h4, h5, h6, h7⟩ := h
    obtain ⟨m2, e1, e2⟩ := hn m h1
    refine ⟨m2, m', e1, hr q List.mem_cons_self m' h2, k, h3, by rw [e2.2.2.1]; exact h4, by rw [e2.1, e2.2.1]; exact h5, h6, h7.mono (fun x hx => ⟨x, hr q List.mem_cons_self x hx, rfl, rfl, rfl, rfl⟩) fun z hz => hr z (List.mem_cons_of_mem _ hz)⟩
theorem lk_wei {x y : Rx} {k : Nat} (h : x.lk[k]? = some y) : wei y < wei x := by
  have := wei_mem h
  have := wei_lk x
  omega
theorem Below.wei {ms : List Mk} : ∀ {r : List Nat} {n : Nat} {m : Mk}, Below ms n r → ms[n]? = some m → ∀ q ∈ r, ∃ mq, ms[q]? = some mq ∧ wei m.x < wei mq.x
  | [], n, m, h, _, q, hq => by cases hq
  | p :: r, n, m, h, hm, q, hq => by
    obtain ⟨m1, m', h1, h2, k, h3, h4, h5, h6, h7⟩ := h
    rw [hm] at h1
    cases h1
    have hw := lk_wei h4
    rcases List.mem_cons.1 hq with rfl | hq
    · exact ⟨m', h2, hw⟩
    · obtain ⟨mq, e1, e2⟩ := Below.wei h7 h2 q hq
      exact ⟨mq, e1, by omega⟩
structure SInv (ms : List Mk) (rp : List Nat) : Prop where
  bnd : ∀ m ∈ ms, 0 ≤ m.pl ∧ m.pl ≤ 1000 ∧ 0 ≤ m.dp ∧ m.dp ≤ 1000
  kle : ∀ m ∈ ms, m.k ≤ m.x.lk.length ∧ m.x.lk ≠ []
  pw : rp.Pairwise (· > ·)
  lt : ∀ q ∈ rp, q < ms.length
  und : ∀ n m, ms[n]? = some m → m.done = false → n ∈ rp
  pnd : ∀ n ∈ rp, ∀ m, ms[n]? = some m → m.done = false
  dn : ∀ m ∈ ms, m.done = true → m.k = m.x.lk.length ∧ m.pl = szP m.x ∧ m.dp = szD m.x
  top : ∀ n r, rp = n :: r → (∃ m, ms[n]? = some m ∧ acc m m.k) ∧ Below ms n r
  reg : ∀ m ∈ ms, ∀ k y, k < m.k → m.x.lk[k]? = some y → y.lk = [] ∨ ∃ j mj, findK (place m k).1 (place m k).2 ms = some j ∧ ms[j]? = some mj ∧ mj.x = y
def rem1 (ms : List Mk) (n : Nat) : Nat := match ms[n]? with
  | some m => 1 + weiL (m.x.lk.drop m.k)
  | none => 0
def mz (ms : List Mk) (rp : List Nat) : Nat := (rp.map (rem1 ms)).sum
theorem mz_same {ms ms' : List Mk} {r : List Nat} (h : ∀ q ∈ r, rem1 ms' q = rem1 ms q) : mz ms' r = mz ms r := by
  unfold mz
  rw [List.map_congr_left h]
theorem mz_cons (ms : List Mk) (n : Nat) (r : List Nat) : mz ms (n :: r) = rem1 ms n + mz ms r := rfl
theorem pl_bnd (m : Mk) {a b : Int} (h : 0 ≤ m.pl ∧ m.pl ≤ 1000 ∧ 0 ≤ m.dp ∧ m.dp ≤ 1000) (ha : 0 ≤ a) (hb : 0 ≤ b) : 0 ≤ (m.plus a b).pl ∧ (m.plus a b).pl ≤ 1000 ∧ 0 ≤ (m.plus a b).dp ∧ (m.plus a b).dp ≤ 1000 := by
  show 0 ≤ min (m.pl + a) 151 ∧ min (m.pl + a) 151 ≤ 1000 ∧ 0 ≤ min (max m.dp (b + 1)) 201 ∧ min (max m.dp (b + 1)) 201 ≤ 1000
  omega
theorem szP_nn (x : Rx) : 0 ≤ szP x := by unfold szP; omega
theorem szD_nn (x : Rx) : 0 ≤ szD x := by unfold szD; omega
theorem set_cases {ms : List Mk} {n i : Nat} {a m : Mk} (h : (ms.set n a)[i]? = some m) : (i = n ∧ m = a ∧ n < ms.length) ∨ (i ≠ n ∧ ms[i]? = some m) := by
  rw [List.getElem?_set] at h
  by_cases e : n = i
  · rw [if_pos e] at h
    split at h
    · cases h; exact .inl ⟨e.symm, rfl, by omega⟩
    · cases h
  · rw [if_neg e] at h
    exact .inr ⟨fun x => e x.symm, h⟩
theorem set_self {ms : List Mk} {n : Nat} {a m : Mk} (h : ms[n]? = some m) : (ms.set n a)[n]? = some a := by
  rw [List.getElem?_set, if_pos rfl, if_pos (List.getElem?_eq_some_iff.1 h).1]
theorem set_other {ms : List Mk} {n i : Nat} {a : Mk} (h : i ≠ n) : (ms.set n a)[i]? = ms[i]? := by
  rw [List.getElem?_set, if_neg (fun e => h e.symm)]
/-- Where the same patterns are marked, the same is found. -/
theorem reg_set {ms : List Mk} {n : Nat} {a m : Mk} (hm : ms[n]? = some m) (hs : Same a m) {id off : Nat} {y : Rx} (h : ∃ j mj, findK id off ms = some j ∧ ms[j]? = some mj ∧ mj.x = y) : ∃ j mj, findK id off (ms.set n a) = some j ∧ (ms.set n a)[j]? = some mj ∧ mj.x = y := by
  obtain ⟨j, mj, h1, h2, h3⟩ := h
  rw [← findK_ids (ids_set hm hs.1 hs.2.1)] at h1
  by_cases e : j = n
  · subst e
    rw [hm] at h2
    cases h2
    exact ⟨j, a, h1, set_self hm, by rw [hs.2.2.1]; exact h3⟩
  · exact ⟨j, mj, h1, by rw [set_other e]; exact h2, h3⟩
end Go.Proofs.Ytaagkdljkpbilaa.K
