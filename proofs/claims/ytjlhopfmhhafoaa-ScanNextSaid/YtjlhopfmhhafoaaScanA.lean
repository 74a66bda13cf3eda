/-
  Where a byte leads in an automaton, in the document. Conditions: the automaton reads as rows and numbers.
-/
import Derived.Test.YtjlhopfmhhafoaaMem
import Derived.Test.YtjlhopfmhhafoaaReg3
set_option linter.unusedSimpArgs false
namespace Go.Proofs.Ytjlhopfmhhafoaa.Kit
open Go Go.RowKit
/-- The value reads as the list xs of one-cell values. -/
def Ld (w : World) (v : Value) (xs : List Value) : Prop :=
  ∃ A cap, v = .slice A xs.length cap ∧ xs.length ≤ cap ∧ cap ≤ maxLen ∧ ∀ (j : Nat) (y : Value), xs[j]? = some y → ∃ ad, A = some ad ∧ w.cell? (ad.add j) = some y
theorem Ld.kept {w w' : World} {v : Value} {xs : List Value} (h : Ld w v xs) (k : Kept w w') : Ld w' v xs := by
  obtain ⟨A, c, h1, h2, h3, h4⟩ := h
  exact ⟨A, c, h1, h2, h3, fun j u hj => let ⟨ad, e, hc⟩ := h4 j u hj; ⟨ad, e, k.cell hc⟩⟩
theorem Ld.form {w : World} {v : Value} {xs : List Value} (h : Ld w v xs) : ∃ A c, v = .slice A xs.length c ∧ xs.length ≤ maxLen := by
  obtain ⟨A, c, h1, h2, h3, _⟩ := h
  exact ⟨A, c, h1, Nat.le_trans h2 h3⟩
theorem Ld.at {w : World} {A : Option Addr} {n c : Nat} {xs : List Value} (h : Ld w (.slice A n c) xs) {j : Nat} {y : Value} (hj : xs[j]? = some y) : ∃ ad, A = some ad ∧ w.cell? (ad.add j) = some y := by
  obtain ⟨A', c', h1, h2, h3, h4⟩ := h
  injection h1 with e1 e2 e3
  subst e1
  exact h4 j y hj
def zs (l : List Int) : List Value := l.map (Value.int .i64)
theorem zs_len (l : List Int) : (zs l).length = l.length := by simp [zs]
theorem zs_get {l : List Int} {j : Nat} {z : Int} (h : l[j]? = some z) : (zs l)[j]? = some (.int .i64 z) := by simp [zs, h]
/-- The two lists of an automaton. -/
structure Dfa where
  rows : List (List Int)
  acc : List Int
structure DfaAt (w : World) (vn va : Value) (d : Dfa) (vs : List Value) : Prop where
  next : Ld w vn vs
  len : vs.length = d.rows.length
  row : ∀ (j : Nat) (v : Value) (r : List Int), vs[j]? = some v → d.rows[j]? = some r → Ld w v (zs r)
  acc : Ld w va (zs d.acc)
theorem DfaAt.kept {w w' : World} {vn va : Value} {d : Dfa} {vs : List Value} (h : DfaAt w vn va d vs) (k : Kept w w') : DfaAt w' vn va d vs :=
  ⟨h.next.kept k, h.len, fun j v r h1 h2 => (h.row j v r h1 h2).kept k, h.acc.kept k⟩
def Dfa.is (d : Dfa) (i : Int) : Bool := decide (0 ≤ i) && (decide (i < d.rows.length) && decide (i < d.acc.length))
def Dfa.step (d : Dfa) (i : Int) (c : Nat) : Int := if d.is i then ((d.rows.getD i.toNat []).getD c (-1)) else -1
def Dfa.move (d : Dfa) (i : Int) (c : Nat) : Int := if d.is (d.step i c) then d.step i c else -1
/-- Behind some bytes. -/
def Dfa.run (d : Dfa) (i : Int) : List UInt8 → Int
  | [] => i
  | c :: l => d.run (d.step i c.toNat) l
def Dfa.val (d : Dfa) (i : Int) : Int := d.acc.getD i.toNat (-1)
def Dfa.one (d : Dfa) (i : Int) : Int := if d.is i then (if d.val i < 0 then -1 else d.val i) else -1
end Go.Proofs.Ytjlhopfmhhafoaa.Kit
namespace Go.Proofs.Ytjlhopfmhhafoaa
open Go Go.RowKit Kit
theorem Ld.ints {w : World} {v : Value} {l : List Int} (h : Ld w v (zs l)) : ∃ A c, v = .slice A l.length c ∧ l.length ≤ maxLen := by
  have := h.form
  rwa [zs_len] at this
set_option maxHeartbeats 1000000 in
theorem isState_any (vn va : Value) (d : Dfa) (vs : List Value) (i : Int) (w : World) (h : DfaAt w vn va d vs) : Calls Try.prog 27 #[.agg #[vn, va], .int .i64 i] w fun e w' => e = .returned (.bool (d.is i)) ∧ Kept w w' := by
  obtain ⟨An, cn, rfl, _⟩ := h.next.form
  obtain ⟨Aa, ca, rfl, _⟩ := Ld.ints h.acc
  rw [h.len]
  unfold Dfa.is
  generalize d.rows.length = n
  generalize d.acc.length = a
  clear h
  by_cases h0 : 0 ≤ i
  · by_cases h1 : i < n
    · by_cases h2 : i < a
      · go_enter Try.func27, Try.ntmps27
        go_wp2_with fail
        go_ret
        exact ⟨by simp [h0, h1, h2], (Kept.refl _).alloc _⟩
      · go_enter Try.func27, Try.ntmps27
        go_wp2_with fail
        go_ret
        exact ⟨by simp [h0, h1, h2], (Kept.refl _).alloc _⟩
    · go_enter Try.func27, Try.ntmps27
      go_wp2_with fail
      go_ret
      exact ⟨by simp [h0, h1]; omega, (Kept.refl _).alloc _⟩
  · go_enter Try.func27, Try.ntmps27
    go_wp2_with fail
    go_ret
    exact ⟨by simp [h0]; omega, (Kept.refl _).alloc _⟩
theorem is_true {d : Dfa} {i : Int} (h : d.is i = true) : ∃ j : Nat, i = j ∧ j < d.rows.length ∧ j < d.acc.length := by
  unfold Dfa.is at h
  simp only [Bool.and_eq_true, decide_eq_true_eq] at h
  exact ⟨i.toNat, by omega, by omega, by omega⟩
set_option maxRecDepth 100000 in
set_option maxHeartbeats 2000000 in
theorem move_any (vn va : Value) (d : Dfa) (vs : List Value) (i : Int) (q : Nat) (hc : q < 256) (w : World) (h : DfaAt w vn va d vs) : Calls Try.prog 15 #[.agg #[vn, va], .int .i64 i, .int .u8 q] w fun e w' => e = .returned (.int .i64 (d.move i q)) ∧ Kept w w' := by
  obtain ⟨An, cn, rfl, hn⟩ := h.next.form
  obtain ⟨Aa, ca, rfl, ha⟩ := Ld.ints h.acc
  have hlen := h.len
  have hm1 : d.is (-1) = false := by simp [Dfa.is]
  cases hs : d.is i with
  | false =>
    have e : d.move i q = -1 := by simp [Dfa.move, Dfa.step, hs]
    rw [e]
    have hs' : ¬ (0 ≤ i ∧ i < vs.length ∧ i < d.acc.length) := by
      rw [hlen]; intro ⟨h1, h2, h3⟩
      simp [Dfa.is, h1, h2, h3] at hs
    clear h e hlen hs hn ha hm1
    generalize vs.length = n at *
    generalize d.acc.length = a at *
    by_cases h0 : 0 ≤ i
    · by_cases h1 : i < n
      · have h2 : ¬ i < a := fun h2 => hs' ⟨h0, h1, h2⟩
        clear hs'
        go_enter Try.func15, Try.ntmps15
        go_wp2_with fail
        go_ret
        exact ⟨rfl, (Kept.refl _).alloc _⟩
      · clear hs'
        go_enter Try.func15, Try.ntmps15
        go_wp2_with fail
        go_ret
        exact ⟨rfl, (Kept.refl _).alloc _⟩
    · clear hs'
      go_enter Try.func15, Try.ntmps15
      go_wp2_with fail
      go_ret
      exact ⟨rfl, (Kept.refl _).alloc _⟩
  | true =>
    obtain ⟨j, rfl, hj1, hj2⟩ := is_true hs
    obtain ⟨v, hv⟩ : ∃ v, vs[j]? = some v := ⟨_, List.getElem?_eq_getElem (by omega)⟩
    obtain ⟨r, hr⟩ : ∃ r, d.rows[j]? = some r := ⟨_, List.getElem?_eq_getElem hj1⟩
    have hL := h.row j v r hv hr
    obtain ⟨Ar, cr, rfl, hrl⟩ := Ld.ints hL
    obtain ⟨ad, rfl, hcell⟩ := h.next.at hv
    have hj3 : (j : Int) < vs.length := by omega
    have hj4 : (j : Int) < d.acc.length := by omega
    have hq0 : (0 : Int) ≤ q := by omega
    have hj0 : (0 : Int) ≤ j := by omega
    by_cases hlt : q < r.length
    · obtain ⟨z, hz⟩ : ∃ z, r[q]? = some z := ⟨_, List.getElem?_eq_getElem hlt⟩
      obtain ⟨ar, rfl, hcz⟩ := hL.at (zs_get hz)
      have hlti : (q : Int) < r.length := by omega
      have e : d.step j q = z := by simp [Dfa.step, hs, hr, hz]
      have e2 : d.move j q = if d.is z then z else -1 := by rw [Dfa.move, e]
      rw [e2]
      cases hz2 : d.is z with
      | true =>
        obtain ⟨k, rfl, hk1, hk2⟩ := is_true hz2
        have g0 : (0 : Int) ≤ k := by omega
        have g1 : (k : Int) < vs.length := by omega
        have g2 : (k : Int) < d.acc.length := by omega
        simp only [if_true]
        clear h e e2 hr hz hv hlen hz2 hs hL hm1
        generalize vs.length = n at *
        generalize d.acc.length = a at *
        have hA1 := ((Kept.refl w).alloc (.cells #[.slice (some ad) n cn, .slice Aa a ca] 25)).cell hcell
        clear hcell
        have hA2 := ((Kept.refl w).alloc (.cells #[.slice (some ad) n cn, .slice Aa a ca] 25)).cell hcz
        clear hcz
        go_enter Try.func15, Try.ntmps15
        go_wp2_with fail
        go_ret
        exact ⟨rfl, (Kept.refl _).alloc _⟩
      | false =>
        have hz' : ¬ (0 ≤ z ∧ z < vs.length ∧ z < d.acc.length) := by
          rw [hlen]; intro ⟨h1, h2, h3⟩
          simp [Dfa.is, h1, h2, h3] at hz2
        simp only [Bool.false_eq_true, if_false]
        clear h e e2 hr hz hv hlen hz2 hs hL hm1
        generalize vs.length = n at *
        generalize d.acc.length = a at *
        have hA1 := ((Kept.refl w).alloc (.cells #[.slice (some ad) n cn, .slice Aa a ca] 25)).cell hcell
        clear hcell
        have hA2 := ((Kept.refl w).alloc (.cells #[.slice (some ad) n cn, .slice Aa a ca] 25)).cell hcz
        clear hcz
        by_cases g0 : 0 ≤ z
        · by_cases g1 : z < n
          · have g2 : ¬ z < a := fun g2 => hz' ⟨g0, g1, g2⟩
            clear hz'
            go_enter Try.func15, Try.ntmps15
            go_wp2_with fail
            go_ret
            exact ⟨rfl, (Kept.refl _).alloc _⟩
          · clear hz'
            go_enter Try.func15, Try.ntmps15
            go_wp2_with fail
            go_ret
            exact ⟨rfl, (Kept.refl _).alloc _⟩
        · clear hz'
          go_enter Try.func15, Try.ntmps15
          go_wp2_with fail
          go_ret
          exact ⟨rfl, (Kept.refl _).alloc _⟩
    · have e : d.step j q = -1 := by simp [Dfa.step, hs, hr, List.getD_eq_getElem?_getD, List.getElem?_eq_none (Nat.le_of_not_lt hlt)]
      have hlti : ¬ (q : Int) < r.length := by omega
      have e2 : d.move j q = -1 := by rw [Dfa.move, e, hm1]; rfl
      rw [e2]
      clear h e e2 hr hv hlen hL hm1 hs
      generalize vs.length = n at *
      generalize d.acc.length = a at *
      have hA1 := ((Kept.refl w).alloc (.cells #[.slice (some ad) n cn, .slice Aa a ca] 25)).cell hcell
      clear hcell
      go_enter Try.func15, Try.ntmps15
      go_wp2_with fail
      go_ret
      exact ⟨rfl, (Kept.refl _).alloc _⟩
end Go.Proofs.Ytjlhopfmhhafoaa
