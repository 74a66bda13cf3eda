/-
  Runs without fuel: what a run of a program's text comes to with fuel enough, and rules by which this is told from the text. Conditions: none.
-/
import Derived.Test.YtaagkdljkpbilaaEvB
set_option linter.unusedSimpArgs false
set_option linter.unusedVariables false
namespace Go.Proofs.Ytaagkdljkpbilaa.Ev
open Go
/-! More fuel says no less. -/
def CLe (c c' : CallM) : Prop := ∀ g a M r, c g a M = some r → c' g a M = some r
theorem CLe.refl (c : CallM) : CLe c c := fun _ _ _ _ h => h
theorem CLe.trans {a b c : CallM} (h : CLe a b) (k : CLe b c) : CLe a c := fun g x M r e => k g x M r (h g x M r e)
theorem iop_mono {c c' : CallM} (h : CLe c c') {f : Fr} {M : MH} {o : Iop} {r : MV × MH} (e : Iop.ev c f M o = some r) : Iop.ev c' f M o = some r := by
  cases o with
  | call g l => exact h _ _ _ _ e
  | callv x l =>
    simp only [Iop.ev] at e ⊢
    split at e
    · exact h _ _ _ _ e
    · cases e
  | _ => exact e
theorem evO_mono {c c' : CallM} (h : CLe c c') {f : Fr} {M : MH} {p : IOper} {r : Fr × MH} (e : evO c f M p = some r) : evO c' f M p = some r := by
  unfold evO at e ⊢
  cases hw : wantM f p.gd with
  | none => rw [hw] at e; cases e
  | some b =>
    rw [hw] at e
    cases b with
    | false => exact e
    | true =>
      simp only at e ⊢
      cases h1 : p.io.ev c f M with
      | none => rw [h1] at e; cases e
      | some x => rw [h1] at e; rw [iop_mono h h1]; exact e
theorem evL_mono {c c' : CallM} (h : CLe c c') : ∀ {l : List IOper} {f : Fr} {M : MH} {r : Fr × MH}, evL c l f M = some r → evL c' l f M = some r
  | [], f, M, r, e => e
  | p :: l, f, M, r, e => by
    rw [evL_cons] at e ⊢
    cases h1 : evO c f M p with
    | none => rw [h1] at e; cases e
    | some x => rw [h1] at e; rw [evO_mono h h1]; exact evL_mono h e
theorem evD1_mono {c c' : CallM} (h : CLe c c') {b0 : Nat} {f : Fr} {hs : List MH} {pd : List (Nat × MO)} {p : IOper} {k : DK} {r : MV × List MH × List (Nat × MO)} (e : evD1 c b0 f hs pd p k = some r) : evD1 c' b0 f hs pd p k = some r := by
  unfold evD1 at e ⊢
  cases hw : wantM f p.gd with
  | none => rw [hw] at e; cases e
  | some b =>
    rw [hw] at e
    cases b with
    | false => exact e
    | true =>
      simp only at e ⊢
      cases k with
      | pu =>
        cases hs with
        | nil => exact e
        | cons M r' =>
          simp only at e ⊢
          cases h1 : p.io.ev c f M with
          | none => rw [h1] at e; cases e
          | some x => rw [h1] at e; rw [iop_mono h h1]; exact e
      | rd b =>
        simp only at e ⊢
        cases hb : hs[b]? with
        | none => rw [hb] at e; cases e
        | some M =>
          rw [hb] at e
          simp only at e ⊢
          cases h1 : p.io.ev c f M with
          | none => rw [h1] at e; cases e
          | some x => rw [h1] at e; rw [iop_mono h h1]; exact e
      | ad =>
        cases hs with
        | nil => exact e
        | cons M r' =>
          simp only at e ⊢
          cases h1 : p.io.ev c f M.lift with
          | none => rw [h1] at e; cases e
          | some x => rw [h1] at e; rw [iop_mono h h1]; exact e
      | md =>
        cases hs with
        | nil => exact e
        | cons M r' =>
          simp only at e ⊢
          cases h1 : p.io.ev c f M with
          | none => rw [h1] at e; cases e
          | some x => rw [h1] at e; rw [iop_mono h h1]; exact e
      | fl j => exact e
      | ma js =>
        cases hs with
        | nil => exact e
        | cons M r' =>
          simp only at e ⊢
          cases h2 : pickL pd b0 js with
          | none => rw [h2] at e; cases e
          | some as =>
            rw [h2] at e
            simp only at e ⊢
            cases h1 : p.io.ev c f (adoptM as M) with
            | none => rw [h1] at e; cases e
            | some x => rw [h1] at e; rw [iop_mono h h1]; exact e
theorem evD_mono {c c' : CallM} (h : CLe c c') {b0 : Nat} : ∀ {l : List (IOper × DK)} {f : Fr} {hs : List MH} {pd : List (Nat × MO)} {r : Fr × List MH × List (Nat × MO)}, evD c b0 l f hs pd = some r → evD c' b0 l f hs pd = some r
  | [], f, hs, pd, r, e => e
  | p :: l, f, hs, pd, r, e => by
    rw [evD_cons] at e ⊢
    cases h1 : evD1 c b0 f hs pd p.1 p.2 with
    | none => rw [h1] at e; cases e
    | some x =>
      obtain ⟨m, hs', o⟩ := x
      rw [h1] at e
      rw [evD1_mono h h1]
      simp only at e ⊢
      cases h2 : evD c b0 l (setD f p.1.dst m) hs' (pd ++ o) with
      | none => rw [h2] at e; cases e
      | some y => rw [h2] at e; rw [evD_mono h h2]; exact e
theorem callF_le {fns : Nat → Option IFn} {n m : Nat} (h : ∀ c f M r, run fns n c f M = some r → run fns m c f M = some r) : CLe (callF fns n) (callF fns m) := by
  intro g a M r e
  unfold callF at e ⊢
  cases hg : fns g with
  | none => rw [hg] at e; cases e
  | some fn =>
    rw [hg] at e
    simp only at e ⊢
    cases hb : Nat.ble a.length fn.sz with
    | false => rw [hb] at e; cases e
    | true =>
      rw [hb] at e
      simp only [cond_true] at e ⊢
      cases h1 : run fns n fn.body (argsF a 0 .lf) M with
      | none => rw [h1] at e; cases e
      | some x => rw [h1] at e; rw [h _ _ _ _ h1]; exact e
theorem run_mono1 (fns : Nat → Option IFn) : ∀ (n : Nat) (c : IC) (f : Fr) (M : MH) (r : Ex × Fr × MH), run fns n c f M = some r → run fns (n + 1) c f M = some r
  | 0 => by intro c f M r h; rw [run_zero] at h; cases h
  | n + 1 => by
    have ih := run_mono1 fns n
    have hc := callF_le ih
    intro c f M r h
    rw [run_succ] at h ⊢
    cases c with
    | skip => exact h
    | bad => exact h
    | exit id => exact h
    | ret => exact h
    | reg l =>
      simp only at h ⊢
      cases h1 : evL (callF fns n) l f M with
      | none => rw [h1] at h; cases h
      | some x => rw [h1] at h; rw [evL_mono hc h1]; exact h
    | dreg q l lB xs =>
      simp only at h ⊢
      cases hb : Nat.ble M.lo M.n with
      | false => rw [hb] at h; cases h
      | true =>
        rw [hb] at h
        simp only [cond_true] at h ⊢
        cases h1 : evD (callF fns n) M.n l f [M.room q] [] with
        | none => rw [h1] at h; cases h
        | some x =>
          obtain ⟨f1, hs, os⟩ := x
          rw [h1] at h
          rw [evD_mono hc h1]
          cases hs with
          | nil => cases h
          | cons M1 hs =>
            simp only at h ⊢
            cases ha : apartL xs l M.n f1 (M1 :: hs) with
            | false => rw [ha] at h; cases h
            | true =>
              rw [ha] at h
              simp only [cond_true] at h ⊢
              cases h2 : evL (callF fns n) lB f1 (adoptM (lateL l M.n os) M1) with
              | none => rw [h2] at h; cases h
              | some y => rw [h2] at h; rw [evL_mono hc h2]; exact h
    | seq a b =>
      simp only at h ⊢
      cases h1 : run fns n a f M with
      | none => rw [h1] at h; cases h
      | some x =>
        obtain ⟨ex, f', M'⟩ := x
        rw [h1] at h
        rw [ih _ _ _ _ h1]
        cases ex with
        | norm => exact ih _ _ _ _ h
        | exit i => exact h
        | ret => exact h
    | cond x a b =>
      simp only at h ⊢
      split at h
      · exact ih _ _ _ _ h
      · exact ih _ _ _ _ h
      · cases h
    | block id a =>
      simp only at h ⊢
      cases h1 : run fns n a f M with
      | none => rw [h1] at h; cases h
      | some x =>
        rw [h1] at h
        rw [ih _ _ _ _ h1]
        exact h
    | loop a =>
      simp only at h ⊢
      cases h1 : run fns n a f M with
      | none => rw [h1] at h; cases h
      | some x =>
        obtain ⟨ex, f', M'⟩ := x
        rw [h1] at h
        rw [ih _ _ _ _ h1]
        cases ex with
        | norm => exact ih _ _ _ _ h
        | exit i => exact h
        | ret => exact h
theorem run_mono (fns : Nat → Option IFn) {n m : Nat} (hnm : n ≤ m) {c : IC} {f : Fr} {M : MH} {r : Ex × Fr × MH} (h : run fns n c f M = some r) : run fns m c f M = some r := by
  induction hnm with
  | refl => exact h
  | step _ ih => exact run_mono1 fns _ c f M r ih
theorem callF_mono (fns : Nat → Option IFn) {n m : Nat} (hnm : n ≤ m) : CLe (callF fns n) (callF fns m) := callF_le fun _ _ _ _ h => run_mono fns hnm h
/-! Calls with fuel enough. -/
open Classical in
noncomputable def callA (fns : Nat → Option IFn) : CallM := fun g args M => if h : ∃ r, ∃ n, callF fns n g args M = some r then some (Classical.choose h) else none
theorem callA_of {fns : Nat → Option IFn} {n g : Nat} {args : List MV} {M : MH} {r : MV × MH} (h : callF fns n g args M = some r) : callA fns g args M = some r := by
  unfold callA
  have hx : ∃ r, ∃ n, callF fns n g args M = some r := ⟨r, n, h⟩
  rw [dif_pos hx]
  obtain ⟨k, hk⟩ := Classical.choose_spec hx
  have h1 := callF_mono fns (Nat.le_max_left n k) _ _ _ _ h
  have h2 := callF_mono fns (Nat.le_max_right n k) _ _ _ _ hk
  rw [h1] at h2
  exact h2.symm
theorem callA_ex {fns : Nat → Option IFn} {g : Nat} {args : List MV} {M : MH} {r : MV × MH} (h : callA fns g args M = some r) : ∃ n, callF fns n g args M = some r := by
  unfold callA at h
  split at h
  · rename_i hx
    injection h with h
    rw [← h]
    exact Classical.choose_spec hx
  · cases h
theorem callF_callA (fns : Nat → Option IFn) (n : Nat) : CLe (callF fns n) (callA fns) := fun _ _ _ _ h => callA_of h
theorem iop_fuel {fns : Nat → Option IFn} {f : Fr} {M : MH} {o : Iop} {r : MV × MH} (e : Iop.ev (callA fns) f M o = some r) : ∃ n, Iop.ev (callF fns n) f M o = some r := by
  cases o with
  | call g l => exact callA_ex e
  | callv x l =>
    simp only [Iop.ev] at e ⊢
    split at e
    · exact callA_ex e
    · cases e
  | _ => exact ⟨0, e⟩
theorem evO_fuel {fns : Nat → Option IFn} {f : Fr} {M : MH} {p : IOper} {r : Fr × MH} (e : evO (callA fns) f M p = some r) : ∃ n, evO (callF fns n) f M p = some r := by
  unfold evO at e ⊢
  cases hw : wantM f p.gd with
  | none => rw [hw] at e; cases e
  | some b =>
    rw [hw] at e
    cases b with
    | false => exact ⟨0, e⟩
    | true =>
      simp only at e ⊢
      cases h1 : p.io.ev (callA fns) f M with
      | none => rw [h1] at e; cases e
      | some x =>
        rw [h1] at e
        obtain ⟨n, hn⟩ := iop_fuel h1
        exact ⟨n, by rw [hn]; exact e⟩
theorem evL_fuel {fns : Nat → Option IFn} : ∀ {l : List IOper} {f : Fr} {M : MH} {r : Fr × MH}, evL (callA fns) l f M = some r → ∃ n, evL (callF fns n) l f M = some r
  | [], f, M, r, e => ⟨0, e⟩
  | p :: l, f, M, r, e => by
    rw [evL_cons] at e
    cases h1 : evO (callA fns) f M p with
    | none => rw [h1] at e; cases e
    | some x =>
      rw [h1] at e
      obtain ⟨n1, k1⟩ := evO_fuel h1
      obtain ⟨n2, k2⟩ := evL_fuel e
      refine ⟨max n1 n2, ?_⟩
      rw [evL_cons, evO_mono (callF_mono fns (Nat.le_max_left n1 n2)) k1]
      exact evL_mono (callF_mono fns (Nat.le_max_right n1 n2)) k2
theorem evD1_fuel {fns : Nat → Option IFn} {b0 : Nat} {f : Fr} {hs : List MH} {pd : List (Nat × MO)} {p : IOper} {k : DK} {r : MV × List MH × List (Nat × MO)} (e : evD1 (callA fns) b0 f hs pd p k = some r) : ∃ n, evD1 (callF fns n) b0 f hs pd p k = some r := by
  unfold evD1 at e ⊢
  cases hw : wantM f p.gd with
  | none => rw [hw] at e; cases e
  | some b =>
    rw [hw] at e
    cases b with
    | false => exact ⟨0, e⟩
    | true =>
      simp only at e ⊢
      cases k with
      | pu =>
        cases hs with
        | nil => cases e
        | cons M r' =>
          simp only at e ⊢
          cases h1 : p.io.ev (callA fns) f M with
          | none => rw [h1] at e; cases e
          | some x =>
            rw [h1] at e
            obtain ⟨n, hn⟩ := iop_fuel h1
            exact ⟨n, by rw [hn]; exact e⟩
      | rd b =>
        simp only at e ⊢
        cases hb : hs[b]? with
        | none => rw [hb] at e; cases e
        | some M =>
          rw [hb] at e
          simp only at e ⊢
          cases h1 : p.io.ev (callA fns) f M with
          | none => rw [h1] at e; cases e
          | some x =>
            rw [h1] at e
            obtain ⟨n, hn⟩ := iop_fuel h1
            exact ⟨n, by rw [hn]; exact e⟩
      | ad =>
        cases hs with
        | nil => cases e
        | cons M r' =>
          simp only at e ⊢
          cases h1 : p.io.ev (callA fns) f M.lift with
          | none => rw [h1] at e; cases e
          | some x =>
            rw [h1] at e
            obtain ⟨n, hn⟩ := iop_fuel h1
            exact ⟨n, by rw [hn]; exact e⟩
      | md =>
        cases hs with
        | nil => cases e
        | cons M r' =>
          simp only at e ⊢
          cases h1 : p.io.ev (callA fns) f M with
          | none => rw [h1] at e; cases e
          | some x =>
            rw [h1] at e
            obtain ⟨n, hn⟩ := iop_fuel h1
            exact ⟨n, by rw [hn]; exact e⟩
      | fl j => exact ⟨0, e⟩
      | ma js =>
        cases hs with
        | nil => cases e
        | cons M r' =>
          simp only at e ⊢
          cases h2 : pickL pd b0 js with
          | none => rw [h2] at e; cases e
          | some as =>
            rw [h2] at e
            simp only at e ⊢
            cases h1 : p.io.ev (callA fns) f (adoptM as M) with
            | none => rw [h1] at e; cases e
            | some x =>
              rw [h1] at e
              obtain ⟨n, hn⟩ := iop_fuel h1
              exact ⟨n, by rw [hn]; exact e⟩
theorem evD_fuel {fns : Nat → Option IFn} {b0 : Nat} : ∀ {l : List (IOper × DK)} {f : Fr} {hs : List MH} {pd : List (Nat × MO)} {r : Fr × List MH × List (Nat × MO)}, evD (callA fns) b0 l f hs pd = some r → ∃ n, evD (callF fns n) b0 l f hs pd = some r
  | [], f, hs, pd, r, e => ⟨0, e⟩
  | p :: l, f, hs, pd, r, e => by
    rw [evD_cons] at e
    cases h1 : evD1 (callA fns) b0 f hs pd p.1 p.2 with
    | none => rw [h1] at e; cases e
    | some x =>
      obtain ⟨m, hs', o⟩ := x
      rw [h1] at e
      simp only at e
      cases h2 : evD (callA fns) b0 l (setD f p.1.dst m) hs' (pd ++ o) with
      | none => rw [h2] at e; cases e
      | some y =>
        rw [h2] at e
        obtain ⟨n1, k1⟩ := evD1_fuel h1
        obtain ⟨n2, k2⟩ := evD_fuel h2
        refine ⟨max n1 n2, ?_⟩
        rw [evD_cons, evD1_mono (callF_mono fns (Nat.le_max_left n1 n2)) k1]
        simp only
        rw [evD_mono (callF_mono fns (Nat.le_max_right n1 n2)) k2]
        exact e
/-! What code comes to. -/
abbrev Post := Ex → Fr → MH → Prop
def Wp (fns : Nat → Option IFn) (c : IC) (f : Fr) (M : MH) (Q : Post) : Prop := ∃ n ex f' M', run fns n c f M = some (ex, f', M') ∧ Q ex f' M'
variable {fns : Nat → Option IFn} {f : Fr} {M : MH} {Q : Post}
theorem Wp.mono {c : IC} {Q Q' : Post} (h : Wp fns c f M Q) (hq : ∀ ex f' M', Q ex f' M' → Q' ex f' M') : Wp fns c f M Q' :=
  let ⟨n, ex, f', M', h1, h2⟩ := h
  ⟨n, ex, f', M', h1, hq _ _ _ h2⟩
theorem Wp_skip (h : Q .norm f M) : Wp fns .skip f M Q := ⟨1, _, _, _, by rw [run_succ], h⟩
theorem Wp_exit {id : Nat} (h : Q (.exit id) f M) : Wp fns (.exit id) f M Q := ⟨1, _, _, _, by rw [run_succ], h⟩
theorem Wp_ret (h : Q .ret f M) : Wp fns .ret f M Q := ⟨1, _, _, _, by rw [run_succ], h⟩
/-- What a row of operations comes to. -/
def Wl (fns : Nat → Option IFn) (l : List IOper) (f : Fr) (M : MH) (K : Fr → MH → Prop) : Prop := ∃ f' M', evL (callA fns) l f M = some (f', M') ∧ K f' M'
theorem Wp_reg {l : List IOper} (h : Wl fns l f M fun f' M' => Q .norm f' M') : Wp fns (.reg l) f M Q := by
  obtain ⟨f', M', h1, h2⟩ := h
  obtain ⟨n, hn⟩ := evL_fuel h1
  exact ⟨n + 1, _, _, _, by rw [run_succ]; simp only; rw [hn], h2⟩
theorem Wl_nil {K : Fr → MH → Prop} (h : K f M) : Wl fns [] f M K := ⟨f, M, rfl, h⟩
theorem Wl_op {K : Fr → MH → Prop} {d : Option Ky} {o : Iop} {l : List IOper} {m : MV} {M' : MH} (h : o.ev (callA fns) f M = some (m, M')) (hk : Wl fns l (setD f d m) M' K) : Wl fns (⟨d, none, o⟩ :: l) f M K := by
  obtain ⟨f1, M1, h1, h2⟩ := hk
  exact ⟨f1, M1, by rw [evL_cons]; unfold evO; simp only [wantM, h]; exact h1, h2⟩
theorem Wl_yes {K : Fr → MH → Prop} {d : Option Ky} {g : Ky × Bool} {o : Iop} {l : List IOper} {m : MV} {M' : MH} (hg : wantM f (some g) = some true) (h : o.ev (callA fns) f M = some (m, M')) (hk : Wl fns l (setD f d m) M' K) : Wl fns (⟨d, some g, o⟩ :: l) f M K := by
  obtain ⟨f1, M1, h1, h2⟩ := hk
  exact ⟨f1, M1, by rw [evL_cons]; unfold evO; simp only [hg, h]; exact h1, h2⟩
theorem Wl_no {K : Fr → MH → Prop} {d : Option Ky} {g : Ky × Bool} {o : Iop} {l : List IOper} (hg : wantM f (some g) = some false) (hk : Wl fns l (setD f d (.tp [])) M K) : Wl fns (⟨d, some g, o⟩ :: l) f M K := by
  obtain ⟨f1, M1, h1, h2⟩ := hk
  exact ⟨f1, M1, by rw [evL_cons]; unfold evO; simp only [hg]; exact h1, h2⟩
theorem Wp_dreg {r : Nat} {l : List (IOper × DK)} {lB : List IOper} {xs : List (Nat × Nat)} {f1 : Fr} {M1 : MH} {hs : List MH} {os : List (Nat × MO)} (h0 : M.lo ≤ M.n) (h1 : evD (callA fns) M.n l f [M.room r] [] = some (f1, M1 :: hs, os)) (h2 : apartL xs l M.n f1 (M1 :: hs) = true) (h3 : Wl fns lB f1 (adoptM (lateL l M.n os) M1) fun f' M' => Q .norm f' M') : Wp fns (.dreg r l lB xs) f M Q := by
  obtain ⟨f', M', k1, k2⟩ := h3
  obtain ⟨n1, hn1⟩ := evD_fuel h1
  obtain ⟨n2, hn2⟩ := evL_fuel k1
  refine ⟨max n1 n2 + 1, _, _, _, ?_, k2⟩
  rw [run_succ]
  simp only
  rw [Nat.ble_eq_true_of_le h0, cond_true, evD_mono (callF_mono fns (Nat.le_max_left n1 n2)) hn1]
  simp only
  rw [h2, cond_true, evL_mono (callF_mono fns (Nat.le_max_right n1 n2)) hn2]
def thenQ (fns : Nat → Option IFn) (b : IC) (Q : Post) : Post := fun ex f M => match ex with
  | .norm => Wp fns b f M Q
  | ex => Q ex f M
theorem Wp_seq {a b : IC} (h : Wp fns a f M (thenQ fns b Q)) : Wp fns (.seq a b) f M Q := by
  obtain ⟨n, ex, f1, M1, h1, h2⟩ := h
  cases ex with
  | norm =>
    obtain ⟨m, ex, f2, M2, k1, k2⟩ := h2
    refine ⟨max n m + 1, ex, f2, M2, ?_, k2⟩
    rw [run_succ]
    simp only
    rw [run_mono fns (Nat.le_max_left n m) h1]
    exact run_mono fns (Nat.le_max_right n m) k1
  | exit i => exact ⟨n + 1, _, _, _, by rw [run_succ]; simp only; rw [h1], h2⟩
  | ret => exact ⟨n + 1, _, _, _, by rw [run_succ]; simp only; rw [h1], h2⟩
theorem Wp_true {x : X} {a b : IC} (hx : x.ev f = .b true) (h : Wp fns a f M Q) : Wp fns (.cond x a b) f M Q := by
  obtain ⟨n, ex, f1, M1, h1, h2⟩ := h
  exact ⟨n + 1, _, _, _, by rw [run_succ]; simp only; rw [hx]; exact h1, h2⟩
theorem Wp_false {x : X} {a b : IC} (hx : x.ev f = .b false) (h : Wp fns b f M Q) : Wp fns (.cond x a b) f M Q := by
  obtain ⟨n, ex, f1, M1, h1, h2⟩ := h
  exact ⟨n + 1, _, _, _, by rw [run_succ]; simp only; rw [hx]; exact h1, h2⟩
theorem Wp_cond {x : X} {a b : IC} (t : Bool) (hx : x.ev f = .b t) (h : t = true → Wp fns a f M Q) (h' : t = false → Wp fns b f M Q) : Wp fns (.cond x a b) f M Q := by
  cases t with
  | true => exact Wp_true hx (h rfl)
  | false => exact Wp_false hx (h' rfl)
def blockQ (id : Nat) (Q : Post) : Post := fun ex f M => match ex with
  | .exit i => bif i == id then Q .norm f M else Q (.exit i) f M
  | ex => Q ex f M
theorem Wp_block {id : Nat} {a : IC} (h : Wp fns a f M (blockQ id Q)) : Wp fns (.block id a) f M Q := by
  obtain ⟨n, ex, f1, M1, h1, h2⟩ := h
  cases ex with
  | norm => exact ⟨n + 1, _, _, _, by rw [run_succ]; simp only; rw [h1], h2⟩
  | ret => exact ⟨n + 1, _, _, _, by rw [run_succ]; simp only; rw [h1], h2⟩
  | exit i =>
    cases hb : i == id with
    | true => exact ⟨n + 1, .norm, f1, M1, by rw [run_succ]; simp only; rw [h1]; simp only [hb, cond_true], by simpa only [blockQ, hb, cond_true] using h2⟩
    | false => exact ⟨n + 1, .exit i, f1, M1, by rw [run_succ]; simp only; rw [h1]; simp only [hb, cond_false], by simpa only [blockQ, hb, cond_false] using h2⟩
theorem Wp_loop {a : IC} (h : Wp fns a f M (thenQ fns (.loop a) Q)) : Wp fns (.loop a) f M Q := by
  obtain ⟨n, ex, f1, M1, h1, h2⟩ := h
  cases ex with
  | norm =>
    obtain ⟨m, ex, f2, M2, k1, k2⟩ := h2
    refine ⟨max n m + 1, ex, f2, M2, ?_, k2⟩
    rw [run_succ]
    simp only
    rw [run_mono fns (Nat.le_max_left n m) h1]
    exact run_mono fns (Nat.le_max_right n m) k1
  | exit i => exact ⟨n + 1, _, _, _, by rw [run_succ]; simp only; rw [h1], h2⟩
  | ret => exact ⟨n + 1, _, _, _, by rw [run_succ]; simp only; rw [h1], h2⟩
/-- A loop by what holds at its head: each round ends, or comes to the head again with less to do. -/
theorem Wp_inv {σ : Type} {a : IC} (I : σ → Fr → MH → Prop) (μ : σ → Nat) (hstep : ∀ s f M, I s f M → Wp fns a f M fun ex f' M' => match ex with
    | .norm => ∃ s', μ s' < μ s ∧ I s' f' M'
    | ex => Q ex f' M') (s : σ) (h : I s f M) : Wp fns (.loop a) f M Q := by
  generalize hn : μ s = n
  induction n using Nat.strongRecOn generalizing s f M with
  | _ n ih =>
    refine Wp_loop ((hstep s f M h).mono fun ex f' M' hq => ?_)
    cases ex with
    | norm =>
      obtain ⟨s', h1, h2⟩ := hq
      exact ih (μ s') (by omega) s' h2 rfl
    | exit i => exact hq
    | ret => exact hq
/-- What a call comes to. -/
def Cp (fns : Nat → Option IFn) (g : Nat) (args : List MV) (M : MH) (K : MV → MH → Prop) : Prop := ∃ m M', callA fns g args M = some (m, M') ∧ K m M'
def retQ (fn : IFn) (K : MV → MH → Prop) : Post := fun ex f M => match ex with
  | .exit _ => False
  | _ => ∃ l, resL f M fn.res = some l ∧ K (packM l) M
theorem Cp_call {g : Nat} {fn : IFn} {args : List MV} {K : MV → MH → Prop} (hg : fns g = some fn) (hs : args.length ≤ fn.sz) (h : Wp fns fn.body (argsF args 0 .lf) M (retQ fn K)) : Cp fns g args M K := by
  obtain ⟨n, ex, f1, M1, h1, h2⟩ := h
  cases ex with
  | exit i => exact h2.elim
  | norm =>
    obtain ⟨l, h3, h4⟩ := h2
    refine ⟨packM l, M1, callA_of (n := n) ?_, h4⟩
    unfold callF
    rw [hg]
    simp only
    rw [Nat.ble_eq_true_of_le hs, cond_true, h1]
    simp only [h3]
  | ret =>
    obtain ⟨l, h3, h4⟩ := h2
    refine ⟨packM l, M1, callA_of (n := n) ?_, h4⟩
    unfold callF
    rw [hg]
    simp only
    rw [Nat.ble_eq_true_of_le hs, cond_true, h1]
    simp only [h3]
theorem Cp.mono {g : Nat} {args : List MV} {K K' : MV → MH → Prop} (h : Cp fns g args M K) (hk : ∀ m M', K m M' → K' m M') : Cp fns g args M K' :=
  let ⟨m, M', h1, h2⟩ := h
  ⟨m, M', h1, hk _ _ h2⟩
end Go.Proofs.Ytaagkdljkpbilaa.Ev
