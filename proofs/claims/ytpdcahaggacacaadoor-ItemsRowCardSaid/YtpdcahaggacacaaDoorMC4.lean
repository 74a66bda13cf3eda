/-
  What the claim leans on, part 4: A work list of items, in pure terms: the program's. Conditions: none. What items come to: the program's closed. Conditions: none. The document's Form: classes and symbols. Conditions: none. The document's Form: what is forbidden. Conditions: none. The document's Form: rule by rule. Conditions: none. The document's Form. Conditions: none. The document's Nullable. Conditions: none. How short what a name derives may be: what is meant. Conditions: none. Rows of numbers of one's own, copied; Repeat of one number. Conditions: none. The program's row: how short a row of symbols may be. Conditions: no
-/
import Derived.Test.YtpdcahaggacacaaDoorMC3
import Derived.KernelRfl
import Derived.Test.YtpdcahaggacacaaDoorProg
set_option linter.unusedSimpArgs false
set_option linter.unusedVariables false
namespace Go.Proofs.YtpdcahaggacacaaDoor.Ev
open Go
structure CInv (g : Gr) (S : Nat → Prop) (W : Nat) (todo : List Nat) (seen : List Bool) (k i : Nat) : Prop where
  sub : ∀ n, S n → W.testBit n = true
  snd : ∀ n, W.testBit n = true → InC g S n
  tin : ∀ n ∈ todo, W.testBit n = true
  cls : ∀ n, W.testBit n = true → n ∈ todo ∨ ∀ s, behN g n = some s → s < 0 ∨ seen[s.toNat]? = some true
  sn : ∀ k' : Nat, seen[k']? = some true → ∀ i' r, g.rules[i']? = some r → r.1 = (k' : Int) → (k' = k → i' < i) → W.testBit ((i' + 1) * 9) = true
theorem CInv.start {g : Gr} {S : Nat → Prop} {N : Nat} (h : ∀ n, N.testBit n = true ↔ S n) {todo : List Nat} (ht : ∀ n, n ∈ todo ↔ N.testBit n = true) (m k i : Nat) : CInv g S N todo (List.replicate m false) k i := ⟨fun n hn => (h n).2 hn, fun n hn => .base ((h n).1 hn), fun n hn => (ht n).1 hn, fun n hn => .inl ((ht n).2 hn), fun k' hk => by
  rw [List.getElem?_replicate] at hk
  split at hk <;> simp at hk⟩
theorem CInv.skip {g : Gr} {S : Nat → Prop} {W : Nat} {todo : List Nat} {seen : List Bool} {k i n : Nat} (h : CInv g S W (todo ++ [n]) seen k i) (hn : ∀ s, behN g n = some s → s < 0 ∨ seen[s.toNat]? = some true) : CInv g S W todo seen k i := ⟨h.sub, h.snd, fun m hm => h.tin m (List.mem_append_left _ hm), fun m hm => (h.cls m hm).elim (fun e => (List.mem_append.1 e).elim .inl fun e => .inr (by rw [List.mem_singleton.1 e]; exact hn)) .inr, h.sn⟩
theorem CInv.name {g : Gr} {S : Nat → Prop} {W : Nat} {todo : List Nat} {seen : List Bool} {k i n s : Nat} (h : CInv g S W (todo ++ [n]) seen k i) (hi : ∀ i' r, g.rules[i']? = some r → i' < i) (hb : behN g n = some (s : Int)) (hs : seen[s]? = some false) : CInv g S W todo (seen.set s true) s 0 := by
  have hsl := (List.getElem?_eq_some_iff.1 hs).1
  have get : ∀ j, (seen.set s true)[j]? = some true ↔ j = s ∨ seen[j]? = some true := fun j => by
    rw [List.getElem?_set]
    by_cases e : s = j
    · subst e; rw [if_pos rfl, if_pos hsl]; simp
    · rw [if_neg e]
      exact ⟨.inr, fun h => h.elim (fun e' => absurd e'.symm e) id⟩
  refine ⟨h.sub, h.snd, fun m hm => h.tin m (List.mem_append_left _ hm), fun m hm => ?_, fun k' hk i' r hr hl hlt => ?_⟩
  · rcases h.cls m hm with e | e
    · rcases List.mem_append.1 e with e | e
      · exact .inl e
      · rw [List.mem_singleton.1 e]
        refine .inr fun s' hs' => ?_
        rw [hb] at hs'
        injection hs' with hs'
        subst hs'
        exact .inr ((get _).2 (.inl (Int.toNat_natCast s)))
    · exact .inr fun s' hs' => (e s' hs').imp id fun e => (get _).2 (.inr e)
  · rcases (get k').1 hk with e | e
    · have := hlt e; omega
    · exact h.sn k' e i' r hr hl fun _ => hi i' r hr
theorem CInv.rule {g : Gr} {S : Nat → Prop} {W : Nat} {todo : List Nat} {seen : List Bool} {k i n : Nat} {r : Int × List Int × Int} (h : CInv g S W todo seen k i) (hn : InC g S n) (hb : behN g n = some (k : Int)) (hr : g.rules[i]? = some r) (hl : r.1 = (k : Int)) : CInv g S (W ||| 2 ^ ((i + 1) * 9)) (todo ++ [(i + 1) * 9]) seen k (i + 1) := by
  have bit : ∀ m, (W ||| 2 ^ ((i + 1) * 9)).testBit m = true ↔ W.testBit m = true ∨ m = (i + 1) * 9 := fun m => by
    rw [Nat.testBit_or, Nat.testBit_two_pow, Bool.or_eq_true, decide_eq_true_eq]
    exact ⟨fun h => h.imp id Eq.symm, fun h => h.imp id Eq.symm⟩
  refine ⟨fun m hm => (bit m).2 (.inl (h.sub m hm)), fun m hm => ?_, fun m hm => ?_, fun m hm => ?_, fun k' hk i' r' hr' hl' hlt => (bit _).2 ?_⟩
  · rcases (bit m).1 hm with e | e
    · exact h.snd m e
    · rw [e]; exact .step hn hb hr hl
  · rcases List.mem_append.1 hm with e | e
    · exact (bit m).2 (.inl (h.tin m e))
    · exact (bit m).2 (.inr (List.mem_singleton.1 e))
  · rcases (bit m).1 hm with e | e
    · exact (h.cls m e).imp (List.mem_append_left _) id
    · exact .inl (List.mem_append_right _ (List.mem_singleton.2 e))
  · by_cases e : k' = k ∧ i' = i
    · exact .inr (by rw [e.2])
    · exact .inl (h.sn k' hk i' r' hr' hl' fun ek => by have := hlt ek; omega)
theorem CInv.other {g : Gr} {S : Nat → Prop} {W : Nat} {todo : List Nat} {seen : List Bool} {k i : Nat} (h : CInv g S W todo seen k i) (ho : ∀ r, g.rules[i]? = some r → r.1 ≠ (k : Int)) : CInv g S W todo seen k (i + 1) := ⟨h.sub, h.snd, h.tin, h.cls, fun k' hk i' r hr hl hlt => h.sn k' hk i' r hr hl fun ek => by
  have := hlt ek
  rcases Nat.lt_or_ge i' i with e | e
  · exact e
  · have : i' = i := by omega
    subst this
    subst ek
    exact absurd hl (ho r hr)⟩
theorem CInv.any {g : Gr} {S : Nat → Prop} {W : Nat} {todo : List Nat} {seen : List Bool} {k i : Nat} (h : CInv g S W todo seen k i) (hi : ∀ i' r, g.rules[i']? = some r → i' < i) (k2 i2 : Nat) : CInv g S W todo seen k2 i2 := ⟨h.sub, h.snd, h.tin, h.cls, fun k' hk i' r hr hl _ => h.sn k' hk i' r hr hl fun _ => hi i' r hr⟩
theorem CInv.fin {g : Gr} (hg : GrOk g) {S : Nat → Prop} {W : Nat} {seen : List Bool} {k i : Nat} (h : CInv g S W [] seen k i) (hi : ∀ i' r, g.rules[i']? = some r → i' < i) (n : Nat) : W.testBit n = true ↔ InC g S n := by
  refine ⟨h.snd n, fun hn => ?_⟩
  induction hn with
  | base hn => exact h.sub _ hn
  | @step n i' s r hn hb hr hl ih =>
    rcases h.cls n ih with e | e
    · simp at e
    · have hle := (hg.left r (List.mem_of_getElem? hr)).1
      rcases e s hb with e | e
      · omega
      · exact h.sn _ e i' r hr (by rw [hl]; omega) fun _ => hi i' r hr
end Go.Proofs.YtpdcahaggacacaaDoor.Ev
set_option linter.unusedSimpArgs false
set_option linter.unusedVariables false
namespace Go.Proofs.YtpdcahaggacacaaDoor.K
open Go Ev
set_option maxRecDepth 100000
set_option maxHeartbeats 4000000

theorem own_idI {lo : Nat} {M : MH} {sz : Nat} {v : MV} {es : List (List MV)} (h : OwnRow lo M sz v es) {a b n d : Nat} (e : v = .sl a b n d) : ∃ c, M.get a = some (.cs false sz c) ∧ lo ≤ a ∧ a < M.n := by
  obtain ⟨_, ⟨h1, _⟩ | ⟨id, c, h1, h2, h3, h4, _⟩⟩ := h
  · rw [e] at h1; cases h1
  · rw [e] at h1
    injection h1 with h1
    subst h1
    exact ⟨c, h2, h3, h4⟩
structure CSt (M0 M' : MH) (gl : List MV) (W : Nat) (todo : List Nat) (seen : List Bool) (v : MV) : Prop where
  ext : Ext M0 M'
  n : M0.n + 4 ≤ M'.n
  gA : M'.get M0.n = some (.cs false 7 (ofL gl 0))
  gB : ∃ c, M'.get (M0.n + 1) = some (.cs false 9 c) ∧ At c 0 (st9 W)
  gC : ∃ c, M'.get (M0.n + 1 + 1) = some (.cs false 9 c) ∧ hasB c 9 0 = true
  gD : ∃ c, M'.get (M0.n + 1 + 1 + 1) = some (.cs false 40 c) ∧ At c 0 (seen.map MV.b)
  row : OwnRow (M0.n + 4) M' 2 v (ivs todo)
theorem CSt.grow {M0 M1 M2 : MH} {gl : List MV} {W : Nat} {todo : List Nat} {seen : List Bool} {v : MV} (h : CSt M0 M1 gl W todo seen v) (x : Ext M1 M2) : CSt M0 M2 gl W todo seen v := by
  have hn := h.n
  have xn := x.n
  obtain ⟨cB, b1, b2⟩ := h.gB
  obtain ⟨cC, c1, c2⟩ := h.gC
  obtain ⟨cD, d1, d2⟩ := h.gD
  exact ⟨h.ext.trans x, by omega, (x.old _ (by omega)).trans h.gA, ⟨cB, (x.old _ (by omega)).trans b1, b2⟩, ⟨cC, (x.old _ (by omega)).trans c1, c2⟩, ⟨cD, (x.old _ (by omega)).trans d1, d2⟩, h.row.ext x⟩
theorem CSt.put {M0 M1 M2 : MH} {gl : List MV} {W n : Nat} {todo : List Nat} {seen : List Bool} {v : MV} (h : CSt M0 M1 gl W todo seen v) (hb : ∃ c, M2.get (M0.n + 1) = some (.cs false 9 c) ∧ At c 0 (st9 n)) (x : Chg (fun j => j = M0.n + 1) M1 M2) : CSt M0 M2 gl n todo seen v := by
  have hn := h.n
  have xn := x.n
  obtain ⟨cC, c1, c2⟩ := h.gC
  obtain ⟨cD, d1, d2⟩ := h.gD
  refine ⟨⟨by have := h.ext.n; omega, by rw [x.lo]; exact h.ext.lo, fun j hj => (x.old j (by omega) (by omega)).trans (h.ext.old j hj)⟩, by omega, (x.old _ (by omega) (by omega)).trans h.gA, hb, ⟨cC, (x.old _ (by omega) (by omega)).trans c1, c2⟩, ⟨cD, (x.old _ (by omega) (by omega)).trans d1, d2⟩, h.row.keep xn fun a b n d e => ?_⟩
  obtain ⟨c, _, q2, q3⟩ := own_idI h.row e
  exact x.old a q3 (by omega)
theorem CSt.mark {M0 M1 : MH} {gl : List MV} {W k : Nat} {todo : List Nat} {seen : List Bool} {v : MV} {c : T MV} (h : CSt M0 M1 gl W todo seen v) (hc : M1.get (M0.n + 1 + 1 + 1) = some (.cs false 40 c)) (hat : At c 0 (seen.map MV.b)) (hk : k < seen.length) : CSt M0 (M1.set (M0.n + 1 + 1 + 1) (some (.cs false 40 (setN (MV.b true).cells (k * 1) c)))) gl W todo (seen.set k true) v := by
  have hn := h.n
  obtain ⟨cB, b1, b2⟩ := h.gB
  obtain ⟨cC, c1, c2⟩ := h.gC
  refine ⟨h.ext.set _ (by omega), hn, (set_ne (by omega)).trans h.gA, ⟨cB, (set_ne (by omega)).trans b1, b2⟩, ⟨cC, (set_ne (by omega)).trans c1, c2⟩, ⟨_, set_same _ _, ?_⟩, h.row.keep (Nat.le_refl _) fun a b n d e => ?_⟩
  · rw [List.map_set]
    exact hat.set' k _ (by rw [List.length_map]; exact hk) (by omega)
  · obtain ⟨c, _, q2, q3⟩ := own_idI h.row e
    exact set_ne (by omega)
theorem CSt.app {M0 M1 M2 : MH} {gl : List MV} {W : Nat} {todo t2 : List Nat} {seen : List Bool} {v v2 : MV} (h : CSt M0 M1 gl W todo seen v) (hn : M1.n ≤ M2.n) (hl : M2.lo = M1.lo) (ho : ∀ j, j < M0.n + 4 → j < M1.n → M2.get j = M1.get j) (hr : OwnRow (M0.n + 4) M2 2 v2 (ivs t2)) : CSt M0 M2 gl W t2 seen v2 := by
  have hn' := h.n
  obtain ⟨cB, b1, b2⟩ := h.gB
  obtain ⟨cC, c1, c2⟩ := h.gC
  obtain ⟨cD, d1, d2⟩ := h.gD
  exact ⟨⟨by have := h.ext.n; omega, by rw [hl]; exact h.ext.lo, fun j hj => (ho j (by omega) (by omega)).trans (h.ext.old j hj)⟩, by omega, (ho _ (by omega) (by omega)).trans h.gA, ⟨cB, (ho _ (by omega) (by omega)).trans b1, b2⟩, ⟨cC, (ho _ (by omega) (by omega)).trans c1, c2⟩, ⟨cD, (ho _ (by omega) (by omega)).trans d1, d2⟩, hr⟩
theorem ixA_0 {n s id off : Nat} {k : IntKind} (h : 0 < n) : ixAV n s (.p id off) (.i k 0) = some (.p id (off + 0 * s)) := ixA_p (i := 0) h
theorem ixA_1 {n s id off : Nat} {k : IntKind} (h : 1 < n) : ixAV n s (.p id off) (.i k 1) = some (.p id (off + 1 * s)) := ixA_p (i := 1) h
theorem ixA_2 {n s id off : Nat} {k : IntKind} (h : 2 < n) : ixAV n s (.p id off) (.i k 2) = some (.p id (off + 2 * s)) := ixA_p (i := 2) h
structure Rdy (M0 M : MH) (g : Gr) (vr vf vc vk : MV) (es : List (List MV)) (f : Fr) : Prop where
  gr : GrAt M vr vf vc vk es g
  ext : Ext M0 M
  lo0 : M0.lo ≤ M0.n
  lt : M0.n < M.n
  box : M.get M0.n = some (.cs false 7 (ofL (gcs g vr vf vc vk) 0))
  fr : X.ev f (.t q1) = .p M0.n 0
structure NSt (M0 M : MH) (g : Gr) (vr vf vc vk : MV) (es : List (List MV)) (id : Nat) (l : List Bool) (f : Fr) : Prop where
  gr : GrAt M0 vr vf vc vk es g
  ok : GrOk g
  ext : Ext M0 M
  lo0 : M0.lo ≤ M0.n
  b0 : M.get M0.n = some (.cs false 7 (ofL (gcs g vr vf vc vk) 0))
  id1 : M0.n < id
  id2 : id < M.n
  row : BoolsAt M id l
  len : l.length = g.names.toNat
  q1 : X.ev f (.t q1) = .p M0.n 0
  q3 : X.ev f (.t q3) = .sl id 0 l.length 0
end Go.Proofs.YtpdcahaggacacaaDoor.K
set_option linter.unusedSimpArgs false
set_option linter.unusedVariables false
namespace Go.Proofs.YtpdcahaggacacaaDoor.Ev
open Go
def mostZ : Int := 1000000000
def shV (l : List Int) (s : Int) : Int := if s < 0 then 1 else l.getD s.toNat (-1)
def shOk (l : List Int) (r : List Int) : Bool := r.all fun s => decide (0 ≤ shV l s)
def shSum (l : List Int) (r : List Int) : Int := (r.map (shV l)).sum
def shRow (l : List Int) (r : List Int) : Int := if shOk l r = true then min (shSum l r) mostZ else -1
def shCond (l : List Int) (r : Int × List Int × Int) : Bool := decide (0 ≤ shRow l r.2.1) && (decide (l.getD r.1.toNat (-1) < 0) || decide (shRow l r.2.1 < l.getD r.1.toNat (-1)))
def shStep (l : List Int) (r : Int × List Int × Int) : List Int := if shCond l r = true then l.set r.1.toNat (shRow l r.2.1) else l
def shRnd (rs : List (Int × List Int × Int)) (l : List Int) : List Int := rs.foldl shStep l
def shIt (g : Gr) : Nat → List Int
  | 0 => List.replicate g.names.toNat (-1)
  | n + 1 => shRnd g.rules (shIt g n)
def ShStill (rs : List (Int × List Int × Int)) (l : List Int) : Prop := ∀ r ∈ rs, shCond l r = false
def ShVec (g : Gr) (l : List Int) : Prop := (∃ n, l = shIt g n) ∧ ShStill g.rules l
structure ShIn (g : Gr) (l : List Int) : Prop where
  len : l.length = g.names.toNat
  lo : ∀ z ∈ l, -1 ≤ z ∧ z ≤ mostZ
  met : ∀ (a : Nat) z, l[a]? = some z → 0 ≤ z → ∃ r ∈ g.rules, r.1.toNat = a ∧ shOk l r.2.1 = true ∧ shRow l r.2.1 ≤ z
def ShLe (a b : List Int) : Prop := ∀ s, 0 ≤ shV b s → 0 ≤ shV a s ∧ shV a s ≤ shV b s
theorem ShLe.refl (a : List Int) : ShLe a a := fun s h => ⟨h, Int.le_refl _⟩
theorem ShLe.trans {a b c : List Int} (h : ShLe a b) (k : ShLe b c) : ShLe a c := fun s hs => by
  obtain ⟨h1, h2⟩ := k s hs
  obtain ⟨h3, h4⟩ := h s h1
  exact ⟨h3, by omega⟩
theorem ShLe.ok {a b : List Int} (h : ShLe a b) {r : List Int} (hr : shOk b r = true) : shOk a r = true := by
  unfold shOk at *
  rw [List.all_eq_true] at *
  intro s hs
  have := hr s hs
  simp only [decide_eq_true_eq] at *
  exact (h s this).1
theorem ShLe.sum {a b : List Int} (h : ShLe a b) : ∀ {r : List Int}, shOk b r = true → shSum a r ≤ shSum b r
  | [], _ => Int.le_refl _
  | s :: r, hr => by
    unfold shOk at hr
    simp only [List.all_cons, Bool.and_eq_true, decide_eq_true_eq] at hr
    have h1 := (h s hr.1).2
    have h2 := ShLe.sum h (r := r) hr.2
    unfold shSum at *
    simp only [List.map_cons, List.sum_cons]
    omega
theorem shSum_pos {l : List Int} : ∀ {r : List Int}, shOk l r = true → 0 ≤ shSum l r
  | [], _ => Int.le_refl _
  | s :: r, hr => by
    unfold shOk at hr
    simp only [List.all_cons, Bool.and_eq_true, decide_eq_true_eq] at hr
    have h2 := shSum_pos (l := l) (r := r) hr.2
    unfold shSum at *
    simp only [List.map_cons, List.sum_cons]
    omega
theorem shRow_pos {l r : List Int} : 0 ≤ shRow l r ↔ shOk l r = true := by
  unfold shRow
  split
  · rename_i h
    have := shSum_pos h
    unfold mostZ
    constructor
    · intro _; exact h
    · intro _; omega
  · rename_i h
    constructor
    · intro h'; omega
    · intro h'; exact absurd h' h
theorem shRow_le {l r : List Int} : -1 ≤ shRow l r ∧ shRow l r ≤ mostZ := by
  unfold shRow mostZ
  split
  · rename_i h
    have := shSum_pos h
    omega
  · omega
theorem ShLe.row {a b : List Int} (h : ShLe a b) {r : List Int} (hr : shOk b r = true) : shRow a r ≤ shRow b r := by
  have := h.sum hr
  unfold shRow
  rw [hr, h.ok hr]
  simp only [if_true]
  unfold mostZ
  omega
theorem getD_setS {l : List Int} {i j : Nat} {z d : Int} (hi : i < l.length) : (l.set i z).getD j d = if i = j then z else l.getD j d := by
  rw [List.getD_eq_getElem?_getD, List.getD_eq_getElem?_getD, List.getElem?_set]
  by_cases e : i = j
  · subst e; simp [hi]
  · simp [e]
theorem ShLe.step {l : List Int} {i : Nat} {z : Int} (hi : i < l.length) (h0 : 0 ≤ z) (h1 : l.getD i (-1) < 0 ∨ z < l.getD i (-1)) : ShLe (l.set i z) l := fun s hs => by
  unfold shV at *
  by_cases h : s < 0
  · simp only [h, if_true] at *; omega
  · simp only [h, if_false] at *
    rw [getD_setS hi]
    by_cases e : i = s.toNat
    · subst e; simp only [if_true]; omega
    · simp only [e, if_false]; omega
theorem ShIn.step {g : Gr} {l : List Int} (h : ShIn g l) (hok : GrOk g) {r : Int × List Int × Int} (hr : r ∈ g.rules) : ShIn g (shStep l r) := by
  unfold shStep
  split
  · rename_i hc
    unfold shCond at hc
    simp only [Bool.and_eq_true, Bool.or_eq_true, decide_eq_true_eq] at hc
    obtain ⟨hl0, hl1⟩ := hok.left r hr
    have hi : r.1.toNat < l.length := by rw [h.len]; omega
    have hle := ShLe.step hi hc.1 hc.2
    have hrw := @shRow_le l r.2.1
    refine ⟨by rw [List.length_set]; exact h.len, fun z hz => ?_, fun a z ha hz => ?_⟩
    · rcases List.mem_or_eq_of_mem_set hz with h1 | h1
      · exact h.lo z h1
      · subst h1; exact hrw
    · rw [List.getElem?_set] at ha
      by_cases e : r.1.toNat = a
      · subst e
        rw [if_pos rfl, if_pos hi] at ha
        injection ha with ha
        refine ⟨r, hr, rfl, hle.ok (shRow_pos.1 hc.1), ?_⟩
        have := hle.row (shRow_pos.1 hc.1)
        omega
      · rw [if_neg e] at ha
        obtain ⟨r', h1, h2, h3, h4⟩ := h.met a z ha hz
        exact ⟨r', h1, h2, hle.ok h3, Int.le_trans (hle.row h3) h4⟩
  · exact h
theorem ShIn.fold {g : Gr} (hok : GrOk g) : ∀ {rs : List (Int × List Int × Int)} {l : List Int}, (∀ r ∈ rs, r ∈ g.rules) → ShIn g l → ShIn g (shRnd rs l)
  | [], l, hs, h => h
  | r :: rs, l, hs, h => ShIn.fold (rs := rs) (l := shStep l r) hok (fun x hx => hs x (List.mem_cons_of_mem _ hx)) (h.step hok (hs r List.mem_cons_self))
theorem ShIn.it {g : Gr} (hok : GrOk g) : ∀ n, ShIn g (shIt g n)
  | 0 => by
    refine ⟨List.length_replicate, fun z hz => ?_, fun a z ha hz => ?_⟩
    · rw [(List.mem_replicate.1 hz).2]; unfold mostZ; omega
    · have : z = -1 := by
        have := List.mem_of_getElem? ha
        exact (List.mem_replicate.1 this).2
      omega
  | n + 1 => ShIn.fold hok (fun r h => h) (ShIn.it hok n)
theorem ShVec.inn {g : Gr} {l : List Int} (h : ShVec g l) (hok : GrOk g) : ShIn g l := by
  obtain ⟨⟨n, rfl⟩, _⟩ := h
  exact ShIn.it hok n
end Go.Proofs.YtpdcahaggacacaaDoor.Ev
set_option linter.unusedSimpArgs false
set_option linter.unusedVariables false
namespace Go.Proofs.YtpdcahaggacacaaDoor.K
open Go Ev
set_option maxRecDepth 100000
set_option maxHeartbeats 4000000

def IntsAt (M : MH) (id : Nat) (l : List Int) : Prop := ∃ t, M.get id = some (.cs false 1 t) ∧ At t 0 (l.map (MV.i .i64))
theorem flat_ints : ∀ l : List Int, (ints l).flatten = l.map (MV.i .i64)
  | [] => rfl
  | b :: l => by
    show (MV.i .i64 b) :: (ints l).flatten = _
    rw [flat_ints l]; rfl
theorem IntsAt.same {M M' : MH} {id : Nat} {l : List Int} (h : IntsAt M id l) (e : M'.get id = M.get id) : IntsAt M' id l := let ⟨t, h1, h2⟩ := h; ⟨t, e.trans h1, h2⟩
theorem IntsAt.read {M : MH} {id : Nat} {l : List Int} (h : IntsAt M id l) : ∃ t, M.get id = some (.cs false 1 t) ∧ (∀ i b, l[i]? = some b → cget t (i * 1) = some (.i .i64 b)) ∧ (∀ i, i < l.length → hasB t 1 (i * 1) = true) ∧ ∀ i x, i < l.length → At (setN [.i .i64 x] (i * 1) t) 0 ((l.set i x).map (MV.i .i64)) := by
  obtain ⟨t, h1, h2⟩ := h
  refine ⟨t, h1, fun i b hb => ?_, fun i hi => has_at h2 (Nat.zero_le _) (by rw [List.length_map]; omega), fun i x hi => ?_⟩
  · rw [Nat.mul_one]
    have := h2 i _ (by rw [List.getElem?_map, hb]; rfl)
    rwa [Nat.zero_add] at this
  · rw [List.map_set]
    exact h2.set' i _ (by rw [List.length_map]; exact hi) (by omega)
theorem IntsAt.new {M : MH} (n : Nat) : IntsAt (M.push (.cs false 1 (ofL (zrow [.i .i64 0] n) 0))) M.n (List.replicate n 0) := ⟨_, push_new _, by rw [List.map_replicate, ← zrow_rep]; exact at_ofL _⟩
theorem IntsAt.row {M : MH} {id : Nat} {l : List Int} (h : IntsAt M id l) (hid : id < M.n) : IntRow M (.sl id 0 l.length 0) l := by
  obtain ⟨t, h1, h2⟩ := h
  refine ⟨fun e he => ?_, .inr ⟨id, 0, 0, false, 1, t, by rw [ints_len], h1, hid, ?_⟩⟩
  · obtain ⟨b, _, rfl⟩ := List.mem_map.1 he; rfl
  · rw [flat_ints]; exact h2
structure ISt (M0 M : MH) (g : Gr) (vr vf vc vk : MV) (es : List (List MV)) (id : Nat) (l : List Int) (f : Fr) : Prop where
  gr : GrAt M0 vr vf vc vk es g
  ok : GrOk g
  ext : Ext M0 M
  lo0 : M0.lo ≤ M0.n
  b0 : M.get M0.n = some (.cs false 7 (ofL (gcs g vr vf vc vk) 0))
  id1 : M0.n < id
  id2 : id < M.n
  row : IntsAt M id l
  inn : ShIn g l
  q1 : X.ev f (.t q1) = .p M0.n 0
  q3 : X.ev f (.t q3) = .sl id 0 l.length 0
def ShPost (g : Gr) (M : MH) (m : MV) (M' : MH) : Prop := Ext M M' ∧ (((formP g).2 ≠ 0 ∧ m = .nils) ∨ ((formP g).2 = 0 ∧ ∃ l, ShVec g l ∧ IntRow M' m l))
def PrPost (g : Gr) (M : MH) (m : MV) (M' : MH) : Prop := Ext M M' ∧ (((formP g).2 ≠ 0 ∧ m = .nils) ∨ ((formP g).2 = 0 ∧ ∃ l, ShVec g l ∧ BRow M' m (l.map fun z => decide (0 ≤ z))))
def its (g : Gr) (l : List (Int × Int)) : List Nat := l.filterMap fun x => itemO g x.1 x.2
def CloseV (g : Gr) (l : List (Int × Int)) (L : List Nat) : Prop := ((formP g).2 ≠ 0 ∧ L = []) ∨ ((formP g).2 = 0 ∧ ∃ W, ClsN g (fun n => n ∈ its g l) W ∧ L = bitsOf W 576)
theorem CloseV.ext {g : Gr} {l : List (Int × Int)} {L L' : List Nat} (h : CloseV g l L) (h' : CloseV g l L') : L = L' := by
  rcases h with ⟨a, rfl⟩ | ⟨a, W, hW, rfl⟩
  · rcases h' with ⟨b, rfl⟩ | ⟨b, _⟩
    · rfl
    · exact absurd b a
  · rcases h' with ⟨b, _⟩ | ⟨b, W', hW', rfl⟩
    · exact absurd a b
    · rw [hW.ext hW']
def QRow (lo : Nat) (M : MH) (sz : Nat) (v : MV) (es : List (List MV)) : Prop := Sized sz es ∧ ((v = .nils ∧ es = []) ∨ ∃ id e c, v = .sl id (e * sz) es.length e ∧ M.get id = some (.cs false sz c) ∧ lo ≤ id ∧ id < M.n ∧ At c (e * sz) es.flatten)
theorem QRow.row {lo : Nat} {M : MH} {sz : Nat} {v : MV} {es : List (List MV)} (h : QRow lo M sz v es) : RowAt M sz v es := by
  obtain ⟨hs, h | ⟨id, e, c, h1, h2, h3, h4, h5⟩⟩ := h
  · exact ⟨hs, .inl h⟩
  · exact ⟨hs, .inr ⟨id, e * sz, e, false, sz, c, h1, h2, h4, h5⟩⟩
theorem QRow.of {lo : Nat} {M : MH} {sz : Nat} {v : MV} {es : List (List MV)} (h : OwnRow lo M sz v es) : QRow lo M sz v es := by
  obtain ⟨hs, h | ⟨id, c, h1, h2, h3, h4, h5⟩⟩ := h
  · exact ⟨hs, .inl h⟩
  · exact ⟨hs, .inr ⟨id, 0, c, by rw [Nat.zero_mul]; exact h1, h2, h3, h4, by rw [Nat.zero_mul]; exact h5⟩⟩
theorem QRow.ext {lo : Nat} {M M' : MH} {sz : Nat} {v : MV} {es : List (List MV)} (h : QRow lo M sz v es) (k : Ext M M') : QRow lo M' sz v es := by
  obtain ⟨hs, h | ⟨id, e, c, h1, h2, h3, h4, h5⟩⟩ := h
  · exact ⟨hs, .inl h⟩
  · exact ⟨hs, .inr ⟨id, e, c, h1, (k.old id h4).trans h2, h3, Nat.lt_of_lt_of_le h4 k.n, h5⟩⟩
theorem QRow.id {lo : Nat} {M : MH} {sz : Nat} {v : MV} {es : List (List MV)} (h : QRow lo M sz v es) {a b n d : Nat} (e : v = .sl a b n d) : lo ≤ a ∧ a < M.n := by
  obtain ⟨_, ⟨h1, _⟩ | ⟨id, e', c, h1, h2, h3, h4, _⟩⟩ := h
  · rw [e] at h1; cases h1
  · rw [e] at h1
    injection h1 with h1
    subst h1
    exact ⟨h3, h4⟩
theorem QRow.skip {lo : Nat} {M : MH} {sz : Nat} {v : MV} {x : List MV} {es : List (List MV)} (h : QRow lo M sz v (x :: es)) : QRow lo M sz (cutLo sz 1 v) es := by
  obtain ⟨hs, ⟨_, h⟩ | ⟨id, e, c, rfl, h2, h3, h4, h5⟩⟩ := h
  · cases h
  · refine ⟨fun y hy => hs y (List.mem_cons_of_mem _ hy), .inr ⟨id, e + 1, c, ?_, h2, h3, h4, ?_⟩⟩
    · show MV.sl id (e * sz + 1 * sz) ((x :: es).length - 1) (e + 1) = _
      rw [← Nat.add_mul]
      rfl
    · rw [List.flatten_cons] at h5
      have := h5.right
      rw [hs x List.mem_cons_self] at this
      rw [Nat.add_mul, Nat.one_mul]
      exact this
theorem q_app {lo sz bytes : Nat} {M : MH} {v w : MV} {es ns : List (List MV)} (h : QRow lo M sz v es) (hw : RowAt M sz w ns) (hlo : M.lo ≤ lo) (hln : lo ≤ M.n) (ho : ∀ e ∈ ns, allOne e = true) (hb : (es.length + ns.length) * bytes ≤ 140737488355328) (hl : es.length + ns.length ≤ 9223372036854775807) :
    ∃ v' M', appM M sz bytes v w = some (v', M') ∧ QRow lo M' sz v' (es ++ ns) ∧ M.n ≤ M'.n ∧ M'.lo = M.lo ∧ (∀ j, j < M.n → (∀ a b n d, v = .sl a b n d → a ≠ j) → M'.get j = M.get j) ∧ (∀ j, j < lo → j < M.n → M'.get j = M.get j) ∧ (v' = v ∨ ∃ n, v' = .sl M.n 0 n 0) := by
  have hsrc := src_row hw
  have ho := all_flat ho
  have hz := hw.1
  clear hw
  cases ns with
  | nil =>
    refine ⟨v, M, ?_, ?_, Nat.le_refl _, rfl, fun _ _ _ => rfl, fun _ _ _ => rfl, .inl rfl⟩
    · unfold appM
      rw [hsrc]
      simp only [ho, cond_true, List.length_nil]
      obtain ⟨hs, ⟨rfl, rfl⟩ | ⟨id, e, c, rfl, h2, h3, h4, h5⟩⟩ := h <;> rfl
    · rw [List.append_nil]; exact h
  | cons x ns =>
  obtain ⟨hs, ⟨rfl, rfl⟩ | ⟨id, e, c, rfl, h2, h3, h4, h5⟩⟩ := h
  · refine ⟨.sl M.n 0 (ns.length + 1) 0, M.push (.cs false sz (ofL (x :: ns).flatten 0)), ?_, ?_, Nat.le_succ _, rfl, fun j hj _ => push_old hj, fun j _ hj => push_old hj, .inr ⟨_, rfl⟩⟩
    · unfold appM
      rw [hsrc]
      simp only [List.length_nil, Nat.zero_add, List.length_cons] at hb hl
      simp only [ho, cond_true, List.length_cons]
      rw [ble_t' hb, ble_t' hl, ble_t' (show M.lo ≤ M.n by omega)]
      rfl
    · exact .of ⟨hz, .inr ⟨M.n, _, rfl, push_new _, hln, Nat.lt_succ_self _, at_ofL _⟩⟩
  · have hf := hs.flat
    have hget : Ev.getN c (es.length * sz) (e * sz) = some es.flatten := by rw [← hf]; exact h5.getN
    refine ⟨.sl M.n 0 (es.length + (ns.length + 1)) 0, (M.set id none).push (.cs false sz (appC c (es.length * sz) (e * sz) es.flatten (x :: ns).flatten)), ?_, ?_, Nat.le_succ _, rfl, fun j hj hv => ?_, fun j hj hjn => ?_, .inr ⟨_, rfl⟩⟩
    · unfold appM
      rw [hsrc]
      simp only [List.length_cons] at hb hl
      simp only [ho, cond_true, List.length_cons]
      rw [ble_t' hb, ble_t' hl, ble_t' (show M.lo ≤ id by omega), blt_t h4]
      simp only [Bool.true_and, h2, beq_self_eq_true, cond_true]
      rw [hget]
    · refine .of ⟨hs.append hz, .inr ⟨M.n, _, by simp, push_new (M := M.set id none) _, hln, Nat.lt_succ_self _, ?_⟩⟩
      rw [List.flatten_append]
      exact fun j x hj => by rw [Nat.zero_add, appC_get hget, hj]
    · rw [push_old (by rw [set_n]; exact hj), set_ne (fun e' => hv id _ es.length _ rfl e'.symm)]
    · rw [push_old (by rw [set_n]; exact hjn), set_ne (by omega)]
theorem row_same {M M' : MH} {sz : Nat} {v : MV} {es : List (List MV)} (h : RowAt M sz v es) (hn : M.n ≤ M'.n) (k : ∀ a b n d, v = .sl a b n d → a < M.n → M'.get a = M.get a) : RowAt M' sz v es := by
  obtain ⟨hs, h | ⟨id, off, e, ro, s, c, h1, h2, h3, h4⟩⟩ := h
  · exact ⟨hs, .inl h⟩
  · exact ⟨hs, .inr ⟨id, off, e, ro, s, c, h1, (k _ _ _ _ h1 h3).trans h2, Nat.lt_of_lt_of_le h3 hn, h4⟩⟩
structure DSt (M0 M' : MH) (B : Nat) (out work : List Nat) (vo vw : MV) : Prop where
  ext : Ext M0 M'
  b0 : M0.n ≤ B
  bn : B ≤ M'.n
  ro : RowAt M' 2 vo (ivs out)
  ow : OwnRow B M' 2 vo (ivs out)
  qw : QRow B M' 2 vw (ivs work)
  ap : ∀ a b n d a' b' n' d', vo = .sl a b n d → vw = .sl a' b' n' d' → a ≠ a'
theorem row_idlt {M : MH} {sz : Nat} {v : MV} {es : List (List MV)} (h : RowAt M sz v es) {a b n d : Nat} (e : v = .sl a b n d) : a < M.n := by
  obtain ⟨_, ⟨h1, _⟩ | ⟨id, off, e', ro, s, c, h1, h2, h3, _⟩⟩ := h
  · rw [e] at h1; cases h1
  · rw [e] at h1
    injection h1 with h1
    omega
theorem DSt.grow {M0 M1 M2 : MH} {B : Nat} {out work : List Nat} {vo vw : MV} (h : DSt M0 M1 B out work vo vw) (x : Ext M1 M2) : DSt M0 M2 B out work vo vw := ⟨h.ext.trans x, h.b0, Nat.le_trans h.bn x.n, h.ro.ext x, h.ow.ext x, h.qw.ext x, h.ap⟩
theorem DSt.put {M0 M1 M2 : MH} {B : Nat} {out out' work : List Nat} {vo vo' vw : MV} (h : DSt M0 M1 B out work vo vw) (x : Ext M1 M2) (hr : RowAt M2 2 vo' (ivs out')) (ho : (vo' = vo ∧ out' = out) ∨ OwnRow M1.n M2 2 vo' (ivs out')) : DSt M0 M2 B out' work vo' vw := ⟨h.ext.trans x, h.b0, Nat.le_trans h.bn x.n, hr, (by
  rcases ho with ⟨rfl, rfl⟩ | ho
  · exact h.ow.ext x
  · exact ho.le h.bn), h.qw.ext x, fun a b n d a' b' n' d' e1 e2 => by
  rcases ho with ⟨rfl, _⟩ | ho
  · exact h.ap _ _ _ _ _ _ _ _ e1 e2
  · have := (QRow.of ho).id e1
    have := h.qw.id e2
    omega⟩
theorem DSt.more {M0 M1 : MH} {B p : Nat} {out work : List Nat} {vo vw w : MV} (h : DSt M0 M1 B out work vo vw) (hw : RowAt M1 2 w [itc p]) (hl : work.length ≤ 1000000) (hlo : M1.lo ≤ M0.n) : ∃ v' M', appM M1 2 16 vw w = some (v', M') ∧ DSt M0 M' B out (work ++ [p]) vo v' := by
  have hb0 := h.b0
  have hbn := h.bn
  have hx := h.ext.lo
  have hxn := h.ext.n
  obtain ⟨v', M2, e1, e2, e3, e4, e5, e6, e7⟩ := q_app (bytes := 16) h.qw hw (by omega) hbn (fun e he => by rw [List.mem_singleton.1 he]; rfl) (by rw [ivs_len, List.length_singleton]; omega) (by rw [ivs_len, List.length_singleton]; omega)
  refine ⟨v', M2, e1, ⟨by omega, by rw [e4]; exact hx, fun j hj => (e6 j (by omega) (by omega)).trans (h.ext.old j hj)⟩, hb0, by omega, row_same h.ro e3 fun a b n d ea hlt => e5 a hlt fun a' b' n' d' ea' => fun e => h.ap _ _ _ _ _ _ _ _ ea ea' e.symm, h.ow.keep e3 fun a b n d ea => e5 a ((QRow.of h.ow).id ea).2 fun a' b' n' d' ea' => fun e => h.ap _ _ _ _ _ _ _ _ ea ea' e.symm, by rw [ivs_app]; exact e2, fun a b n d a' b' n' d' ea ea' => ?_⟩
  rcases e7 with rfl | ⟨k, rfl⟩
  · exact h.ap _ _ _ _ _ _ _ _ ea ea'
  · injection ea' with ea'
    have := row_idlt h.ro ea
    omega
def RPost (g : Gr) (M : MH) (m : MV) (M' : MH) : Prop := Ext M M' ∧ (((formP g).2 ≠ 0 ∧ m = .nils) ∨ ((formP g).2 = 0 ∧ ∃ l, RchVec g l ∧ BRow M' m l))
def RIs (g : Gr) (l : List Bool) : Prop := ((formP g).2 ≠ 0 ∧ l = []) ∨ ((formP g).2 = 0 ∧ RchVec g l)
def PIs (g : Gr) (l : List Bool) : Prop := ((formP g).2 ≠ 0 ∧ l = []) ∨ ((formP g).2 = 0 ∧ ∃ x, ShVec g x ∧ l = x.map fun z => decide (0 ≤ z))
def SIs (g : Gr) (l : List Int) : Prop := ((formP g).2 ≠ 0 ∧ l = []) ∨ ((formP g).2 = 0 ∧ ShVec g l)
theorem ris_ext {g : Gr} {a b : List Bool} (ha : RIs g a) (hb : RIs g b) : a = b := by
  rcases ha with ⟨h, rfl⟩ | ⟨h, ha⟩ <;> rcases hb with ⟨k, rfl⟩ | ⟨k, hb⟩
  · rfl
  · exact absurd k h
  · exact absurd h k
  · exact vec_ext (ha.1.trans hb.1.symm) ha.2 hb.2
theorem RPost.is {g : Gr} {M M' : MH} {m : MV} (h : RPost g M m M') : Ext M M' ∧ ∃ l, BRow M' m l ∧ RIs g l ∧ l.length ≤ 1000000000 := by
  obtain ⟨hx, ⟨h1, rfl⟩ | ⟨h1, l, h2, h3⟩⟩ := h
  · exact ⟨hx, [], ⟨fun e he => by simp at he, .inl ⟨rfl, rfl⟩⟩, .inl ⟨h1, rfl⟩, Nat.zero_le _⟩
  · have := (form_ok h1).n2
    exact ⟨hx, l, h3, .inr ⟨h1, h2⟩, by rw [h2.1]; omega⟩
theorem PrPost.is {g : Gr} {M M' : MH} {m : MV} (h : PrPost g M m M') : Ext M M' ∧ ∃ l, BRow M' m l ∧ PIs g l ∧ l.length ≤ 1000000000 := by
  obtain ⟨hx, ⟨h1, rfl⟩ | ⟨h1, l, h2, h3⟩⟩ := h
  · exact ⟨hx, [], ⟨fun e he => by simp at he, .inl ⟨rfl, rfl⟩⟩, .inl ⟨h1, rfl⟩, Nat.zero_le _⟩
  · have := (form_ok h1).n2
    exact ⟨hx, _, h3, .inr ⟨h1, l, h2, rfl⟩, by rw [List.length_map, (h2.inn (form_ok h1)).len]; omega⟩
theorem ShPost.is {g : Gr} {M M' : MH} {m : MV} (h : ShPost g M m M') : Ext M M' ∧ ∃ l, IntRow M' m l ∧ SIs g l ∧ l.length ≤ 1000000000 := by
  obtain ⟨hx, ⟨h1, rfl⟩ | ⟨h1, l, h2, h3⟩⟩ := h
  · exact ⟨hx, [], ⟨fun e he => by simp [ints] at he, .inl ⟨rfl, rfl⟩⟩, .inl ⟨h1, rfl⟩, Nat.zero_le _⟩
  · have := (form_ok h1).n2
    exact ⟨hx, l, h3, .inr ⟨h1, h2⟩, by rw [(h2.inn (form_ok h1)).len]; omega⟩
end Go.Proofs.YtpdcahaggacacaaDoor.K
set_option linter.unusedSimpArgs false
set_option linter.unusedVariables false
set_option maxRecDepth 100000
namespace Go.Proofs.YtpdcahaggacacaaDoor.Ev
open Go
theorem wf_of {z : Int} (h : (Lit.int .i64 z).wf = true) : Wf64 z := by
  simp only [Lit.wf, Bool.and_eq_true, decide_eq_true_eq] at h
  exact h
variable {P : Program} {M : MH}
theorem typed_int {n : Nat} {e : TypeId} (hu : P.underlying e = some (.int .i64)) {x : List MV} (h : Typed P M n e x) : ∃ z, x = [.i .i64 z] ∧ Wf64 z := by
  cases n with
  | zero => exact h.elim
  | succ n =>
    simp only [Typed, hu] at h
    obtain ⟨z, rfl, hz⟩ := h
    exact ⟨z, rfl, wf_of hz⟩
end Go.Proofs.YtpdcahaggacacaaDoor.Ev
namespace Go.Proofs.YtpdcahaggacacaaDoor
open Go Ev
end Go.Proofs.YtpdcahaggacacaaDoor
set_option linter.unusedSimpArgs false
set_option linter.unusedVariables false
namespace Go.Proofs.YtpdcahaggacacaaDoor.K
open Go Ev
set_option maxRecDepth 100000
set_option maxHeartbeats 4000000

theorem al_any {M M' : MH} (hx : Ext (Mtab tabZ) M) (h : Ext M M') : Cp fns 6 [] M' fun m M2 => m = .b true ∧ M2 = M' := Cp_tab (tab := tabZ) (by kernel_rfl) (hx.trans h)
open Go.RowKit Kit
theorem row_of {k : Int} (hr : gaveB true (callF Rr.fns 3000 5 [.i .i64 k] (Mtab tabZ)) = true) (w : World) (ht : Tab w) : Calls Tryd.prog 5 #[.int .i64 k] w fun e w' => e = .returned (.bool true) ∧ Kept w w' := by
  obtain ⟨M', h⟩ := gave_some hr
  have hO := opened0 ht
  refine (calls_run_at (P := Tryd.prog) mixed Rr.fns_ok 3000 5 [.i .i64 k] [.int .i64 k] (.b true) (Btab 64) (Mtab tabZ) M' w hO.glob hO.inv hO.ro h (.cons (.i _ _) (DenL.nil _))).mono ?_
  rintro e w' ⟨v, β', rfl, hd, hk⟩
  cases hd
  exact ⟨rfl, hk⟩
theorem row_far {M : MH} {k : Int} (hx : Ext (Mtab tabZ) M) (h : k < 0 ∨ 8 < k) : Cp fns 5 [.i .i64 k] M fun m _ => m = .b true := by
  refine Cp_call (fn := F5) (by kernel_rfl) (Nat.le_of_ble_eq_true rfl) ?_
  show Wp fns B5 (T.set q0 (some (.i .i64 k)) T.lf) M _
  unfold B5
  simp (maxSteps := 4000000) (disch := first | omega | assumption | (simp only [bxS, bxV, stOk, Nat.reduceBEq, Nat.reduceEqDiff, Nat.reduceAdd]; done) | (simp only [bxU]; omega) | ((try apply has_setN); apply has_ofL; simp only [bxL]; omega)) only [↓bxD, bxP, bxQ, Nat.reduceBEq, reduceCtorEq, Nat.reduceAdd, Nat.reduceSub, Nat.reduceMul, Nat.reduceLeDiff, Nat.reduceLT, bxR]
  refine bindP_call (al_any hx (.refl _)) ?_
  rintro m M2 ⟨rfl, rfl⟩
  by_cases h0 : k < 0
  · have d0 : decide (k < 0) = true := decide_eq_true h0
    simp (maxSteps := 4000000) (disch := first | omega | assumption | (simp only [bxS, bxV, stOk, Nat.reduceBEq, Nat.reduceEqDiff, Nat.reduceAdd]; done) | (simp only [bxU]; omega) | ((try apply has_setN); apply has_ofL; simp only [bxL]; omega)) only [↓bxD, bxP, bxQ, Nat.reduceBEq, reduceCtorEq, Nat.reduceAdd, Nat.reduceSub, Nat.reduceMul, Nat.reduceLeDiff, Nat.reduceLT, bxR, d0]
  · have d0 : decide (k < 0) = false := decide_eq_false h0
    have d1 : decide (8 < k) = true := decide_eq_true (by omega)
    simp (maxSteps := 4000000) (disch := first | omega | assumption | (simp only [bxS, bxV, stOk, Nat.reduceBEq, Nat.reduceEqDiff, Nat.reduceAdd]; done) | (simp only [bxU]; omega) | ((try apply has_setN); apply has_ofL; simp only [bxL]; omega)) only [↓bxD, bxP, bxQ, Nat.reduceBEq, reduceCtorEq, Nat.reduceAdd, Nat.reduceSub, Nat.reduceMul, Nat.reduceLeDiff, Nat.reduceLT, bxR, d0, d1]
variable {H : Type} {enc : TypeId × Value → H} {w : World}
theorem row_in {S : List TypeId} (hS : Closed Tryd.prog S) {r : Reach} {base : Nat} {vs : List Value} {ds : List (DataW H)} {ps : List MemPlace} (hin : ∀ t ∈ ([3] : List TypeId), t ∈ S)
    (h : DataW.TrodAll enc Tryd.prog w 0 (fun _ => true) true [3] vs ds ps) (hv : ∀ (j : Nat) t v, ([3] : List TypeId)[j]? = some t → vs[j]? = some v → Value.okWide Tryd.prog w r base t v) (ht : Tab w) :
    Calls Tryd.prog 5 vs.toArray w fun e w' => e = .returned (.bool true) ∧ Kept w w' := by
  have hO := opened0 ht
  obtain ⟨β, M, ms, h1, h2, h3, h4, h5⟩ := open_args hS [3] vs ds ps hin h hv _ _ hO
  obtain ⟨m1, r1, rfl, t1, rfl⟩ := h5
  obtain ⟨n1, c1, t1, e1⟩ := t1
  simp only [Tryd.underlying3] at e1
  subst e1
  obtain ⟨k, e, wk⟩ := typed_int Tryd.underlying3 t1
  cases e
  obtain ⟨v1, w1, rfl, d1, h4'⟩ := h4.inv
  cases h4'.inv0
  cases d1
  by_cases hf : k < 0 ∨ 8 < k
  · obtain ⟨m, M', h6, rfl⟩ := row_far h3 hf
    obtain ⟨n, h7⟩ := callA_ex h6
    refine (calls_run_at mixed K.fns_ok n 5 [.i .i64 k] [.int .i64 k] (.b true) β M M' w h1.glob h1.inv h1.ro h7 h4).mono ?_
    rintro e w' ⟨v, β', rfl, hd, hk⟩
    cases hd
    exact ⟨rfl, hk⟩
  · show Calls Tryd.prog 5 #[.int .i64 k] w _
    have : k = 0 ∨ k = 1 ∨ k = 2 ∨ k = 3 ∨ k = 4 ∨ k = 5 ∨ k = 6 ∨ k = 7 ∨ k = 8 := by omega
    rcases this with rfl | rfl | rfl | rfl | rfl | rfl | rfl | rfl | rfl
    · exact row_of row_r0 w ht
    · exact row_of row_r1 w ht
    · exact row_of row_r2 w ht
    · exact row_of row_r3 w ht
    · exact row_of row_r4 w ht
    · exact row_of row_r5 w ht
    · exact row_of row_r6 w ht
    · exact row_of row_r7 w ht
    · exact row_of row_r8 w ht
end Go.Proofs.YtpdcahaggacacaaDoor.K
