/-
  What the document's Takes says of places, and that posit's says the same. Conditions: none.
-/
import Derived.Test.YtdbffbdpofodmaaTakes
set_option linter.unusedSimpArgs false
namespace Go.Proofs.Ytdbffbdpofodmaa
open Go Go.RowKit Kit
/-- The place takes the byte. -/
def okP (sets : List (BitVec 256)) (c i : Nat) : Bool := decide (i < sets.length) && (sets.getD i 0#256).getLsbD c
def onP (sets : List (BitVec 256)) (c : Nat) (now : List Nat) : List Nat := now.filter (okP sets c)
def nxtP (fol : List (List Nat)) : List Nat → List Nat → List Nat
  | [], nx => nx
  | i :: r, nx => match fol[i]? with
    | some l => nxtP fol r (uni nx l)
    | none => nxtP fol r nx
def refP (st : Ps) (p : Pt) : List Nat → List UInt8 → Bool
  | _, [] => false
  | now, c :: r => if r = [] then (onP st.sets c.toNat now).any (fun i => p.last.any (fun x => decide (x = i))) else refP st p (nxtP st.fol (onP st.sets c.toNat now) []) r
theorem mem_nxt {fol : List (List Nat)} {x : Nat} : ∀ (on nx : List Nat), x ∈ nxtP fol on nx ↔ x ∈ nx ∨ ∃ i ∈ on, ∃ l, fol[i]? = some l ∧ x ∈ l
  | [], nx => by simp [nxtP]
  | i :: r, nx => by
    rw [nxtP]
    split
    · rename_i l hl
      rw [mem_nxt r, mem_uni]
      constructor
      · rintro ((h | h) | ⟨a, h1, h2⟩)
        · exact .inl h
        · exact .inr ⟨i, .head _, l, hl, h⟩
        · exact .inr ⟨a, .tail _ h1, h2⟩
      · rintro (h | ⟨a, h1, l', h2, h3⟩)
        · exact .inl (.inl h)
        · rcases List.mem_cons.1 h1 with rfl | h1
          · rw [hl] at h2
            injection h2 with h2
            subst h2
            exact .inl (.inr h3)
          · exact .inr ⟨a, h1, l', h2, h3⟩
    · rename_i hl
      rw [mem_nxt r]
      constructor
      · rintro (h | ⟨a, h1, h2⟩)
        · exact .inl h
        · exact .inr ⟨a, .tail _ h1, h2⟩
      · rintro (h | ⟨a, h1, l', h2, h3⟩)
        · exact .inl h
        · rcases List.mem_cons.1 h1 with rfl | h1
          · rw [hl] at h2
            cases h2
          · exact .inr ⟨a, h1, l', h2, h3⟩
/-- The places now, and the steps that are laid down. -/
structure PInv (n k : Nat) (N T : List Nat) : Prop where
  len : T.length = n
  mem : ∀ (i : Nat), i ∈ N ↔ T[i]? = some k
  le : ∀ (i t : Nat), T[i]? = some t → t ≤ k
theorem pnext {n k : Nat} {T : List Nat} (h1 : T.length = n) (h2 : ∀ (i t : Nat), T[i]? = some t → t ≤ k) : PInv n (k + 1) [] T :=
  ⟨h1, fun i => ⟨fun h => absurd h (by simp), fun e => absurd (h2 i _ e) (by omega)⟩, fun i t e => Nat.le_succ_of_le (h2 i t e)⟩
theorem ent_inv {sets : List (BitVec 256)} {k c : Nat} : ∀ (l N T : List Nat), PInv sets.length k N T → PInv sets.length k (entP sets k c l N T).1 (entP sets k c l N T).2 ∧ ∀ x, x ∈ (entP sets k c l N T).1 ↔ x ∈ N ∨ (x ∈ l ∧ okP sets c x = true)
  | [], N, T, h => ⟨h, by simp [entP]⟩
  | i :: r, N, T, h => by
    rw [entP]
    split
    · rename_i hi
      obtain ⟨h1, h2, h3⟩ := hi
      have hlt : i < T.length := by
        rcases Nat.lt_or_ge i T.length with h4 | h4
        · exact h4
        · exact absurd (List.getElem?_eq_none h4) h1
      have hinv : PInv sets.length k (N ++ [i]) (T.set i k) := by
        refine ⟨by rw [List.length_set]; exact h.len, fun x => ?_, fun x t e => ?_⟩
        · by_cases e : i = x
          · subst e
            rw [List.getElem?_set_self hlt]
            simp
          · rw [List.getElem?_set_ne e, ← h.mem x]
            simp [Ne.symm e]
        · by_cases e1 : i = x
          · subst e1
            rw [List.getElem?_set_self hlt] at e
            injection e with e
            omega
          · rw [List.getElem?_set_ne e1] at e
            exact h.le x t e
      obtain ⟨k1, k2⟩ := ent_inv (sets := sets) (k := k) (c := c) r (N ++ [i]) (T.set i k) hinv
      refine ⟨k1, fun x => ?_⟩
      have hok : okP sets c i = true := by
        unfold okP
        rw [h3, decide_eq_true (by rw [← h.len]; exact hlt)]
        rfl
      rw [k2 x, List.mem_append, List.mem_singleton, List.mem_cons]
      constructor
      · rintro ((h4 | h4) | ⟨h4, h5⟩)
        · exact .inl h4
        · subst h4; exact .inr ⟨.inl rfl, hok⟩
        · exact .inr ⟨.inr h4, h5⟩
      · rintro (h4 | ⟨h4 | h4, h5⟩)
        · exact .inl (.inl h4)
        · exact .inl (.inr h4)
        · exact .inr ⟨h4, h5⟩
    · rename_i hi
      obtain ⟨k1, k2⟩ := ent_inv (sets := sets) (k := k) (c := c) r N T h
      refine ⟨k1, fun x => ?_⟩
      rw [k2 x, List.mem_cons]
      constructor
      · rintro (h4 | ⟨h4, h5⟩)
        · exact .inl h4
        · exact .inr ⟨.inr h4, h5⟩
      · rintro (h4 | ⟨h4 | h4, h5⟩)
        · exact .inl h4
        · subst h4
          unfold okP at h5
          rw [Bool.and_eq_true, decide_eq_true_iff] at h5
          by_cases h6 : T[x]? = some k
          · exact .inl ((h.mem x).2 h6)
          · exact absurd ⟨by rw [List.getElem?_eq_getElem (by rw [h.len]; exact h5.1)]; simp, h6, h5.2⟩ hi
        · exact .inr ⟨h4, h5⟩
theorem all_inv {sets : List (BitVec 256)} {fol : List (List Nat)} {k c : Nat} : ∀ (l N T : List Nat), PInv sets.length k N T → PInv sets.length k (allP sets fol k c l N T).1 (allP sets fol k c l N T).2 ∧ ∀ x, x ∈ (allP sets fol k c l N T).1 ↔ x ∈ N ∨ ((∃ i ∈ l, ∃ f, fol[i]? = some f ∧ x ∈ f) ∧ okP sets c x = true)
  | [], N, T, h => ⟨h, by simp [allP]⟩
  | i :: r, N, T, h => by
    rw [allP]
    split
    · rename_i hl
      obtain ⟨k1, k2⟩ := all_inv (sets := sets) (fol := fol) (k := k) (c := c) r N T h
      refine ⟨k1, fun x => ?_⟩
      rw [k2 x]
      constructor
      · rintro (h4 | ⟨⟨a, h5, h6⟩, h7⟩)
        · exact .inl h4
        · exact .inr ⟨⟨a, .tail _ h5, h6⟩, h7⟩
      · rintro (h4 | ⟨⟨a, h5, f, h6, h8⟩, h7⟩)
        · exact .inl h4
        · rcases List.mem_cons.1 h5 with rfl | h5
          · rw [hl] at h6; cases h6
          · exact .inr ⟨⟨a, h5, f, h6, h8⟩, h7⟩
    · rename_i f hl
      obtain ⟨e1, e2⟩ := ent_inv (sets := sets) (k := k) (c := c) f N T h
      obtain ⟨k1, k2⟩ := all_inv (sets := sets) (fol := fol) (k := k) (c := c) r _ _ e1
      refine ⟨k1, fun x => ?_⟩
      rw [k2 x, e2 x]
      constructor
      · rintro ((h4 | ⟨h4, h5⟩) | ⟨⟨a, h5, h6⟩, h7⟩)
        · exact .inl h4
        · exact .inr ⟨⟨i, .head _, f, hl, h4⟩, h5⟩
        · exact .inr ⟨⟨a, .tail _ h5, h6⟩, h7⟩
      · rintro (h4 | ⟨⟨a, h5, g, h6, h8⟩, h7⟩)
        · exact .inl (.inl h4)
        · rcases List.mem_cons.1 h5 with rfl | h5
          · rw [hl] at h6
            injection h6 with h6
            subst h6
            exact .inl (.inr ⟨h8, h7⟩)
          · exact .inr ⟨⟨a, h5, g, h6, h8⟩, h7⟩
theorem mem_on {sets : List (BitVec 256)} {c x : Nat} {now : List Nat} : x ∈ onP sets c now ↔ x ∈ now ∧ okP sets c x = true := List.mem_filter
theorem ref_nil (st : Ps) (p : Pt) : ∀ bs, refP st p [] bs = false
  | [] => rfl
  | c :: r => by
    rw [refP]
    have h : onP st.sets c.toNat [] = [] := rfl
    rw [h]
    split
    · rfl
    · exact ref_nil st p r
theorem run_ref (st : Ps) (p : Pt) : ∀ (bs : List UInt8) (k : Nat) (N T now : List Nat), T.length = st.sets.length → (∀ (i t : Nat), T[i]? = some t → t ≤ k) → (k = 0 → N = []) → (∀ x, x ∈ now ↔ if k = 0 then x ∈ p.first else ∃ i ∈ N, ∃ f, st.fol[i]? = some f ∧ x ∈ f) → bs ≠ [] → runP st p k N T bs = refP st p now bs
  | [], _, _, _, _, _, _, _, _, h => absurd rfl h
  | c :: r, k, N, T, now, hl, hle, h0, hn, _ => by
    have hs : PInv st.sets.length (k + 1) (stepP st.sets st.fol p.first k c.toNat N T).1 (stepP st.sets st.fol p.first k c.toNat N T).2 ∧ ∀ x, x ∈ (stepP st.sets st.fol p.first k c.toNat N T).1 ↔ x ∈ onP st.sets c.toNat now := by
      unfold stepP
      by_cases hk : k = 0
      · rw [if_pos hk]
        subst hk
        rw [h0 rfl]
        obtain ⟨e1, e2⟩ := ent_inv (sets := st.sets) (k := 1) (c := c.toNat) p.first [] T (pnext hl hle)
        refine ⟨e1, fun x => ?_⟩
        rw [allP, mem_on, hn x, if_pos rfl, e2 x]
        simp
      · rw [if_neg hk]
        obtain ⟨e1, e2⟩ := all_inv (sets := st.sets) (fol := st.fol) (k := k + 1) (c := c.toNat) N [] T (pnext hl hle)
        refine ⟨e1, fun x => ?_⟩
        rw [mem_on, hn x, if_neg hk, e2 x]
        simp
    rw [runP, refP]
    generalize stepP st.sets st.fol p.first k c.toNat N T = S at hs
    obtain ⟨N', T'⟩ := S
    simp only at hs ⊢
    by_cases hz : N'.length = 0
    · rw [if_pos hz]
      have hN : N' = [] := List.length_eq_zero_iff.1 hz
      have hon : onP st.sets c.toNat now = [] := List.eq_nil_iff_forall_not_mem.2 fun x hx => by have := (hs.2 x).2 hx; rw [hN] at this; cases this
      rw [hon]
      split
      · rfl
      · exact (ref_nil st p r).symm
    · rw [if_neg hz]
      by_cases hr : r = []
      · rw [if_pos hr]
        subst hr
        rw [runP]
        rw [Bool.eq_iff_iff, List.any_eq_true, List.any_eq_true]
        constructor
        · rintro ⟨x, h1, h2⟩
          refine ⟨x, (hs.2 x).1 ((hs.1.mem x).2 (of_decide_eq_true h2)), List.any_eq_true.2 ⟨x, h1, decide_eq_true rfl⟩⟩
        · rintro ⟨x, h1, h2⟩
          obtain ⟨y, h3, h4⟩ := List.any_eq_true.1 h2
          obtain rfl := of_decide_eq_true h4
          exact ⟨y, h3, decide_eq_true ((hs.1.mem y).1 ((hs.2 y).2 h1))⟩
      · rw [if_neg hr]
        refine run_ref st p r (k + 1) N' T' _ hs.1.len hs.1.le (fun e => by omega) (fun x => ?_) hr
        rw [if_neg (by omega), mem_nxt]
        constructor
        · rintro (h | ⟨i, h1, h2⟩)
          · cases h
          · exact ⟨i, (hs.2 i).2 h1, h2⟩
        · rintro ⟨i, h1, h2⟩
          exact .inr ⟨i, (hs.2 i).1 h1, h2⟩
/-- posit's Takes says what the document's says. -/
theorem takes_ref (st : Ps) (p : Pt) (c : UInt8) (r : List UInt8) : takesP st p (c :: r) = refP st p p.first (c :: r) := by
  unfold takesP
  refine run_ref st p (c :: r) 0 [] _ p.first (by simp) (fun i t e => ?_) (fun _ => rfl) (fun x => by simp) (by simp)
  rw [List.getElem?_replicate] at e
  split at e
  · injection e with e; omega
  · cases e
end Go.Proofs.Ytdbffbdpofodmaa
