/-
  Rules by which simp goes through a program's text. Conditions: none.
-/
import Derived.Test.YtaagkdljkpbilaaSx
set_option linter.unusedSimpArgs false
set_option linter.unusedVariables false
namespace Go.Proofs.Ytaagkdljkpbilaa.Ev
open Go
variable {fns : Nat → Option IFn} {f : Fr} {M : MH} {Q : Post}
/-! Both ways. -/
theorem Wp_reg_iff {l : List IOper} : Wp fns (.reg l) f M Q = Wl fns l f M fun f' M' => Q .norm f' M' := by
  refine propext ⟨fun h => ?_, Wp_reg⟩
  obtain ⟨n, ex, f', M', h1, h2⟩ := h
  cases n with
  | zero => rw [run_zero] at h1; cases h1
  | succ n =>
    rw [run_succ] at h1
    simp only at h1
    cases h3 : evL (callF fns n) l f M with
    | none => rw [h3] at h1; cases h1
    | some x =>
      rw [h3] at h1
      injection h1 with h1; injection h1 with a b; injection b with b c
      subst a b c
      exact ⟨_, _, evL_mono (callF_callA fns n) h3, h2⟩
theorem Wp_seq_iff {a b : IC} : Wp fns (.seq a b) f M Q = Wp fns a f M (thenQ fns b Q) := by
  refine propext ⟨fun h => ?_, Wp_seq⟩
  obtain ⟨n, ex, f', M', h1, h2⟩ := h
  cases n with
  | zero => rw [run_zero] at h1; cases h1
  | succ n =>
    rw [run_succ] at h1
    simp only at h1
    cases h3 : run fns n a f M with
    | none => rw [h3] at h1; cases h1
    | some x =>
      obtain ⟨e, f1, M1⟩ := x
      rw [h3] at h1
      refine ⟨n, e, f1, M1, h3, ?_⟩
      cases e with
      | norm => exact ⟨n, _, _, _, h1, h2⟩
      | exit i => injection h1 with h1; injection h1 with a b; injection b with b c; subst a b c; exact h2
      | ret => injection h1 with h1; injection h1 with a b; injection b with b c; subst a b c; exact h2
theorem Wp_block_iff {id : Nat} {a : IC} : Wp fns (.block id a) f M Q = Wp fns a f M (blockQ id Q) := by
  refine propext ⟨fun h => ?_, Wp_block⟩
  obtain ⟨n, ex, f', M', h1, h2⟩ := h
  cases n with
  | zero => rw [run_zero] at h1; cases h1
  | succ n =>
    rw [run_succ] at h1
    simp only at h1
    cases h3 : run fns n a f M with
    | none => rw [h3] at h1; cases h1
    | some x =>
      obtain ⟨e, f1, M1⟩ := x
      rw [h3] at h1
      refine ⟨n, e, f1, M1, h3, ?_⟩
      cases e with
      | norm => injection h1 with h1; injection h1 with a b; injection b with b c; subst a b c; exact h2
      | ret => injection h1 with h1; injection h1 with a b; injection b with b c; subst a b c; exact h2
      | exit i =>
        simp only at h1
        unfold blockQ
        cases hb : i == id with
        | true =>
          rw [hb] at h1
          injection h1 with h1; injection h1 with a b; injection b with b c; subst a b c; simpa only [hb, cond_true] using h2
        | false =>
          rw [hb] at h1
          injection h1 with h1; injection h1 with a b; injection b with b c; subst a b c; simpa only [hb, cond_false] using h2
theorem Wp_skip_iff : Wp fns .skip f M Q = Q .norm f M := by
  refine propext ⟨fun h => ?_, Wp_skip⟩
  obtain ⟨n, ex, f', M', h1, h2⟩ := h
  cases n with
  | zero => rw [run_zero] at h1; cases h1
  | succ n => rw [run_succ] at h1; injection h1 with h1; injection h1 with a b; injection b with b c; subst a b c; exact h2
theorem Wp_exit_iff {id : Nat} : Wp fns (.exit id) f M Q = Q (.exit id) f M := by
  refine propext ⟨fun h => ?_, Wp_exit⟩
  obtain ⟨n, ex, f', M', h1, h2⟩ := h
  cases n with
  | zero => rw [run_zero] at h1; cases h1
  | succ n => rw [run_succ] at h1; injection h1 with h1; injection h1 with a b; injection b with b c; subst a b c; exact h2
theorem Wp_ret_iff : Wp fns .ret f M Q = Q .ret f M := by
  refine propext ⟨fun h => ?_, Wp_ret⟩
  obtain ⟨n, ex, f', M', h1, h2⟩ := h
  cases n with
  | zero => rw [run_zero] at h1; cases h1
  | succ n => rw [run_succ] at h1; injection h1 with h1; injection h1 with a b; injection b with b c; subst a b c; exact h2
/-- What is gone on with: simp does not look into it. -/
class KB (α : Type) where
  K : α → Prop
class PB where
  P : Prop
/-- Which way is gone on. -/
def condP (v : MV) [a : PB] [b : PB] : Prop := match v with
  | .b true => a.P
  | .b false => b.P
  | _ => False
theorem condP_t {a b : PB} : @condP (.b true) a b = a.P := rfl
theorem condP_f {a b : PB} : @condP (.b false) a b = b.P := rfl
theorem condP_split {p : Prop} [Decidable p] {A B : Prop} (h : p → A) (h' : ¬ p → B) : @condP (.b (decide p)) ⟨A⟩ ⟨B⟩ := by
  by_cases hp : p
  · rw [decide_eq_true hp]; exact h hp
  · rw [decide_eq_false hp]; exact h' hp
theorem condP_bool {t : Bool} {A B : Prop} (h : t = true → A) (h' : t = false → B) : @condP (.b t) ⟨A⟩ ⟨B⟩ := by
  cases t with
  | true => exact h rfl
  | false => exact h' rfl
theorem Wp_cond_iff {x : X} {a b : IC} : Wp fns (.cond x a b) f M Q = @condP (x.ev f) ⟨Wp fns a f M Q⟩ ⟨Wp fns b f M Q⟩ := by
  refine propext ⟨fun h => ?_, fun h => ?_⟩
  · obtain ⟨n, ex, f', M', h1, h2⟩ := h
    cases n with
    | zero => rw [run_zero] at h1; cases h1
    | succ n =>
      rw [run_succ] at h1
      simp only at h1
      split at h1
      · rename_i hx; rw [hx]; exact ⟨n, _, _, _, h1, h2⟩
      · rename_i hx; rw [hx]; exact ⟨n, _, _, _, h1, h2⟩
      · cases h1
  · unfold condP at h
    split at h
    · rename_i hx; exact Wp_true hx h
    · rename_i hx; exact Wp_false hx h
    · exact h.elim
/-- A result, gone on with. -/
def bindP {α : Type} (r : Option α) [k : KB α] : Prop := ∃ x, r = some x ∧ k.K x
theorem bindP_some {α : Type} (x : α) {k : KB α} : @bindP α (some x) k = k.K x := propext ⟨fun ⟨y, h, k⟩ => by injection h with h; subst h; exact k, fun h => ⟨x, rfl, h⟩⟩
theorem bindP_of {α : Type} {r : Option α} {x : α} {K : α → Prop} (h : r = some x) (k : K x) : @bindP α r ⟨K⟩ := ⟨x, h, k⟩
theorem bindP_call {g : Nat} {args : List MV} {K : MV × MH → Prop} {K' : MV → MH → Prop} (h : Cp fns g args M K') (k : ∀ m M', K' m M' → K (m, M')) : @bindP _ (callA fns g args M) ⟨K⟩ := by
  obtain ⟨m, M', h1, h2⟩ := h
  exact ⟨_, h1, k _ _ h2⟩
theorem Wl_nil_iff {K : Fr → MH → Prop} : Wl fns [] f M K = K f M := propext ⟨fun ⟨f', M', h, k⟩ => by injection h with h; injection h with h1 h2; subst h1 h2; exact k, Wl_nil⟩
theorem Wl_op_iff {K : Fr → MH → Prop} {d : Option Ky} {o : Iop} {l : List IOper} : Wl fns (⟨d, none, o⟩ :: l) f M K = @bindP _ (o.ev (callA fns) f M) ⟨fun r => Wl fns l (setD f d r.1) r.2 K⟩ := by
  refine propext ⟨fun h => ?_, fun h => ?_⟩
  · obtain ⟨f', M', h1, h2⟩ := h
    rw [evL_cons] at h1
    unfold evO at h1
    simp only [wantM] at h1
    cases h3 : o.ev (callA fns) f M with
    | none => rw [h3] at h1; cases h1
    | some x => rw [h3] at h1; exact ⟨x, rfl, _, _, h1, h2⟩
  · obtain ⟨⟨m, M1⟩, h1, h2⟩ := h
    exact Wl_op h1 h2
/-- Is a guarded operation to be done? -/
def gdP (v : MV) (w : Bool) [x : PB] [y : PB] : Prop := match v with
  | .b b => match b == w with
    | true => x.P
    | false => y.P
  | .tp _ => y.P
  | _ => False
theorem gdP_tt {a b : PB} : @gdP (.b true) true a b = a.P := rfl
theorem gdP_tf {a b : PB} : @gdP (.b true) false a b = b.P := rfl
theorem gdP_ft {a b : PB} : @gdP (.b false) true a b = b.P := rfl
theorem gdP_ff {a b : PB} : @gdP (.b false) false a b = a.P := rfl
theorem gdP_tp {l : List MV} {w : Bool} {a b : PB} : @gdP (.tp l) w a b = b.P := rfl
theorem gdP_split {p : Prop} [Decidable p] {w : Bool} {A B : Prop} (h : (decide p == w) = true → A) (h' : (decide p == w) = false → B) : @gdP (.b (decide p)) w ⟨A⟩ ⟨B⟩ := by
  unfold gdP
  simp only
  cases hb : decide p == w with
  | true => exact h hb
  | false => exact h' hb
theorem want_ev (p : Ky) (w : Bool) : wantM f (some (p, w)) = match X.ev f (.t p) with
    | .b b => some (b == w)
    | .tp _ => some false
    | _ => none := by
  show (match f.get p with
    | some (.b b) => some (b == w)
    | some (.tp _) => some false
    | _ => none) = _
  unfold X.ev
  simp only
  cases f.get p with
  | none => rfl
  | some m => cases m <;> rfl
theorem Wl_gd_iff {K : Fr → MH → Prop} {d : Option Ky} {p : Ky} {w : Bool} {o : Iop} {l : List IOper} : Wl fns (⟨d, some (p, w), o⟩ :: l) f M K = @gdP (X.ev f (.t p)) w ⟨@bindP _ (o.ev (callA fns) f M) ⟨fun r => Wl fns l (setD f d r.1) r.2 K⟩⟩ ⟨Wl fns l (setD f d (.tp [])) M K⟩ := by
  have hw := want_ev (f := f) p w
  refine propext ⟨fun h => ?_, fun h => ?_⟩
  · obtain ⟨f', M', h1, h2⟩ := h
    rw [evL_cons] at h1
    unfold evO at h1
    simp only [hw] at h1
    unfold gdP
    generalize X.ev f (.t p) = v at h1 hw ⊢
    cases v <;> simp only at h1 ⊢ <;> try (cases h1; done)
    · rename_i b
      cases hb : b == w with
      | true =>
        rw [hb] at h1
        simp only at h1 ⊢
        cases h3 : o.ev (callA fns) f M with
        | none => rw [h3] at h1; cases h1
        | some x => rw [h3] at h1; exact ⟨x, rfl, _, _, h1, h2⟩
      | false => rw [hb] at h1; exact ⟨_, _, h1, h2⟩
    · exact ⟨_, _, h1, h2⟩
  · unfold gdP at h
    generalize X.ev f (.t p) = v at h hw
    cases v <;> simp only at h hw
    · rename_i b
      cases hb : b == w with
      | true =>
        rw [hb] at h hw
        obtain ⟨⟨m, M1⟩, h1, h2⟩ := h
        exact Wl_yes hw h1 h2
      | false => rw [hb] at h hw; exact Wl_no hw h
    · exact Wl_no hw h
/-! What follows. -/
theorem Wp_seq_reg {l : List IOper} {b : IC} : Wp fns (.seq (.reg l) b) f M Q = Wl fns l f M fun f' M' => Wp fns b f' M' Q := by
  rw [Wp_seq_iff, Wp_reg_iff]; rfl
theorem Wp_seq_skip {b : IC} : Wp fns (.seq .skip b) f M Q = Wp fns b f M Q := by
  rw [Wp_seq_iff, Wp_skip_iff]; rfl
theorem Wp_seq_exit {i : Nat} {b : IC} : Wp fns (.seq (.exit i) b) f M Q = Q (.exit i) f M := by
  rw [Wp_seq_iff, Wp_exit_iff]; rfl
theorem Wp_seq_ret {b : IC} : Wp fns (.seq .ret b) f M Q = Q .ret f M := by
  rw [Wp_seq_iff, Wp_ret_iff]; rfl
theorem Wp_seq_cond {x : X} {a b d : IC} : Wp fns (.seq (.cond x a b) d) f M Q = @condP (x.ev f) ⟨Wp fns a f M (thenQ fns d Q)⟩ ⟨Wp fns b f M (thenQ fns d Q)⟩ := by
  rw [Wp_seq_iff, Wp_cond_iff]
theorem Wp_seq_block {i : Nat} {a d : IC} : Wp fns (.seq (.block i a) d) f M Q = Wp fns a f M (blockQ i (thenQ fns d Q)) := by
  rw [Wp_seq_iff, Wp_block_iff]
theorem Wp_seq_loop {a d : IC} : Wp fns (.seq (.loop a) d) f M Q = Wp fns (.loop a) f M (thenQ fns d Q) := Wp_seq_iff
theorem Wp_seq_dreg {r : Nat} {l : List (IOper × DK)} {lB : List IOper} {xs : List (Nat × Nat)} {d : IC} : Wp fns (.seq (.dreg r l lB xs) d) f M Q = Wp fns (.dreg r l lB xs) f M (thenQ fns d Q) := Wp_seq_iff
theorem Wp_seq_seq {a b d : IC} : Wp fns (.seq (.seq a b) d) f M Q = Wp fns (.seq a (.seq b d)) f M Q := by
  rw [Wp_seq_iff, Wp_seq_iff, Wp_seq_iff]
  congr 1
  funext ex f' M'
  cases ex with
  | norm => exact Wp_seq_iff.symm
  | exit i => rfl
  | ret => rfl
/-! Drawn regions. -/
def Wd (fns : Nat → Option IFn) (b0 : Nat) (l : List (IOper × DK)) (f : Fr) (hs : List MH) (pd : List (Nat × MO)) (K : Fr → List MH → List (Nat × MO) → Prop) : Prop := ∃ f' hs' os, evD (callA fns) b0 l f hs pd = some (f', hs', os) ∧ K f' hs' os
theorem Wd_nil {b0 : Nat} {hs : List MH} {pd : List (Nat × MO)} {K : Fr → List MH → List (Nat × MO) → Prop} : Wd fns b0 [] f hs pd K = K f hs [] := propext ⟨fun ⟨f', hs', os, h, k⟩ => by injection h with h; injection h with h1 h2; injection h2 with h2 h3; subst h1 h2 h3; exact k, fun h => ⟨f, hs, [], rfl, h⟩⟩
theorem Wd_cons {b0 : Nat} {p : IOper} {q : DK} {l : List (IOper × DK)} {hs : List MH} {pd : List (Nat × MO)} {K : Fr → List MH → List (Nat × MO) → Prop} : Wd fns b0 ((p, q) :: l) f hs pd K = @bindP _ (evD1 (callA fns) b0 f hs pd p q) ⟨fun r => Wd fns b0 l (setD f p.dst r.1) r.2.1 (pd ++ r.2.2) fun f' hs' os => K f' hs' (r.2.2 ++ os)⟩ := by
  refine propext ⟨fun h => ?_, fun h => ?_⟩
  · obtain ⟨f', hs', os, h1, h2⟩ := h
    rw [evD_cons] at h1
    simp only at h1
    cases h3 : evD1 (callA fns) b0 f hs pd p q with
    | none => rw [h3] at h1; cases h1
    | some x =>
      obtain ⟨m, hs1, o⟩ := x
      rw [h3] at h1
      simp only at h1
      cases h4 : evD (callA fns) b0 l (setD f p.dst m) hs1 (pd ++ o) with
      | none => rw [h4] at h1; cases h1
      | some y =>
        obtain ⟨f2, hs2, os2⟩ := y
        rw [h4] at h1
        injection h1 with h1; injection h1 with a b; injection b with b c
        subst a b c
        exact ⟨_, rfl, _, _, _, h4, h2⟩
  · obtain ⟨⟨m, hs1, o⟩, h1, f', hs', os, h2, h3⟩ := h
    refine ⟨f', hs', o ++ os, ?_, h3⟩
    rw [evD_cons]
    simp only
    rw [h1]
    simp only
    rw [h2]
/-- One operation of a drawn region. -/
theorem wd_some {b0 : Nat} {d : Option Ky} {g : Option (Ky × Bool)} {o : Iop} {q : DK} {l : List (IOper × DK)} {hs hs' : List MH} {pd : List (Nat × MO)} {m : MV} {os : List (Nat × MO)} {K : Fr → List MH → List (Nat × MO) → Prop} (h : evD1 (callA fns) b0 f hs pd ⟨d, g, o⟩ q = some (m, hs', os)) : Wd fns b0 ((⟨d, g, o⟩, q) :: l) f hs pd K = Wd fns b0 l (setD f d m) hs' (pd ++ os) fun f' hs' os' => K f' hs' (os ++ os') := by
  rw [Wd_cons, h, bindP_some]
  rfl
theorem wd_none {b0 : Nat} {d : Option Ky} {g : Option (Ky × Bool)} {o : Iop} {q : DK} {l : List (IOper × DK)} {hs : List MH} {pd : List (Nat × MO)} {K : Fr → List MH → List (Nat × MO) → Prop} (h : evD1 (callA fns) b0 f hs pd ⟨d, g, o⟩ q = none) : Wd fns b0 ((⟨d, g, o⟩, q) :: l) f hs pd K = False := by
  rw [Wd_cons, h]
  exact propext ⟨fun ⟨x, e, _⟩ => (by cases e), fun h => h.elim⟩
theorem bindP_none {α : Type} {k : KB α} : @bindP α none k = False := propext ⟨fun ⟨x, e, _⟩ => (by cases e), fun h => h.elim⟩
theorem wd_end {b0 : Nat} {l : List (IOper × DK)} {hs : List MH} {pd : List (Nat × MO)} {K : Fr → List MH → List (Nat × MO) → Prop} : (Wd fns b0 l f hs (pd ++ []) fun f' hs' os' => K f' hs' ([] ++ os')) = Wd fns b0 l f hs pd K := by
  rw [List.append_nil]; rfl
theorem Wd_pu {b0 : Nat} {d : Option Ky} {o : Iop} {l : List (IOper × DK)} {r : List MH} {pd : List (Nat × MO)} {K : Fr → List MH → List (Nat × MO) → Prop} : Wd fns b0 ((⟨d, none, o⟩, .pu) :: l) f (M :: r) pd K = @bindP _ (o.ev (callA fns) f M) ⟨fun x => Wd fns b0 l (setD f d x.1) (M :: r) pd K⟩ := by
  cases h : o.ev (callA fns) f M with
  | none => rw [bindP_none]; exact wd_none (by simp only [evD1, wantM, h])
  | some x => rw [bindP_some]; exact (wd_some (m := x.1) (hs' := M :: r) (os := []) (by simp only [evD1, wantM, h])).trans wd_end
theorem Wd_rd {b b0 : Nat} {d : Option Ky} {o : Iop} {l : List (IOper × DK)} {hs : List MH} {pd : List (Nat × MO)} {K : Fr → List MH → List (Nat × MO) → Prop} : Wd fns b0 ((⟨d, none, o⟩, .rd b) :: l) f hs pd K = @bindP _ (hs[b]?) ⟨fun M => @bindP _ (o.ev (callA fns) f M) ⟨fun x => Wd fns b0 l (setD f d x.1) hs pd K⟩⟩ := by
  cases hb : hs[b]? with
  | none => rw [bindP_none]; exact wd_none (by simp only [evD1, wantM, hb])
  | some M =>
    rw [bindP_some]
    simp only
    cases h : o.ev (callA fns) f M with
    | none => rw [bindP_none]; exact wd_none (by simp only [evD1, wantM, hb, h])
    | some x => rw [bindP_some]; exact (wd_some (m := x.1) (hs' := hs) (os := []) (by simp only [evD1, wantM, hb, h])).trans wd_end
theorem Wd_ad {b0 : Nat} {d : Option Ky} {o : Iop} {l : List (IOper × DK)} {r : List MH} {pd : List (Nat × MO)} {K : Fr → List MH → List (Nat × MO) → Prop} : Wd fns b0 ((⟨d, none, o⟩, .ad) :: l) f (M :: r) pd K = @bindP _ (o.ev (callA fns) f M.lift) ⟨fun x => Wd fns b0 l (setD f d x.1) (x.2.down M.lo :: M :: r) pd K⟩ := by
  cases h : o.ev (callA fns) f M.lift with
  | none => rw [bindP_none]; exact wd_none (by simp only [evD1, wantM, h])
  | some x => rw [bindP_some]; exact (wd_some (m := x.1) (hs' := x.2.down M.lo :: M :: r) (os := []) (by simp only [evD1, wantM, h])).trans wd_end
theorem Wd_md {b0 : Nat} {d : Option Ky} {o : Iop} {l : List (IOper × DK)} {r : List MH} {pd : List (Nat × MO)} {K : Fr → List MH → List (Nat × MO) → Prop} : Wd fns b0 ((⟨d, none, o⟩, .md) :: l) f (M :: r) pd K = @bindP _ (o.ev (callA fns) f M) ⟨fun x => Wd fns b0 l (setD f d x.1) (x.2 :: M :: r) pd K⟩ := by
  cases h : o.ev (callA fns) f M with
  | none => rw [bindP_none]; exact wd_none (by simp only [evD1, wantM, h])
  | some x => rw [bindP_some]; exact (wd_some (m := x.1) (hs' := x.2 :: M :: r) (os := []) (by simp only [evD1, wantM, h])).trans wd_end
theorem Wd_fl {j b0 : Nat} {d : Option Ky} {o : Iop} {l : List (IOper × DK)} {hs : List MH} {pd : List (Nat × MO)} {K : Fr → List MH → List (Nat × MO) → Prop} : Wd fns b0 ((⟨d, none, o⟩, .fl j) :: l) f hs pd K = @bindP _ (floatEv o f (b0 + j)) ⟨fun x => Wd fns b0 l (setD f d x.1) hs (pd ++ [(b0 + j, x.2)]) fun f' hs' os' => K f' hs' ((b0 + j, x.2) :: os')⟩ := by
  cases h : floatEv o f (b0 + j) with
  | none => rw [bindP_none]; exact wd_none (by simp only [evD1, wantM, h])
  | some x => rw [bindP_some]; exact wd_some (m := x.1) (hs' := hs) (os := [(b0 + j, x.2)]) (by simp only [evD1, wantM, h])
theorem Wd_ma {js : List Nat} {b0 : Nat} {d : Option Ky} {o : Iop} {l : List (IOper × DK)} {r : List MH} {pd : List (Nat × MO)} {K : Fr → List MH → List (Nat × MO) → Prop} : Wd fns b0 ((⟨d, none, o⟩, .ma js) :: l) f (M :: r) pd K = @bindP _ (pickL pd b0 js) ⟨fun as => @bindP _ (o.ev (callA fns) f (adoptM as M)) ⟨fun x => Wd fns b0 l (setD f d x.1) (x.2 :: M :: r) pd K⟩⟩ := by
  cases hb : pickL pd b0 js with
  | none => rw [bindP_none]; exact wd_none (by simp only [evD1, wantM, hb])
  | some as =>
    rw [bindP_some]
    simp only
    cases h : o.ev (callA fns) f (adoptM as M) with
    | none => rw [bindP_none]; exact wd_none (by simp only [evD1, wantM, hb, h])
    | some x => rw [bindP_some]; exact (wd_some (m := x.1) (hs' := x.2 :: M :: r) (os := []) (by simp only [evD1, wantM, hb, h])).trans wd_end
theorem evD1_go {b0 : Nat} {d : Option Ky} {p : Ky} {w : Bool} {o : Iop} {q : DK} {hs : List MH} {pd : List (Nat × MO)} (h : wantM f (some (p, w)) = some true) : evD1 (callA fns) b0 f hs pd ⟨d, some (p, w), o⟩ q = evD1 (callA fns) b0 f hs pd ⟨d, none, o⟩ q := by
  unfold evD1
  simp only [h]
  rfl
theorem Wd_go {b0 : Nat} {d : Option Ky} {p : Ky} {w : Bool} {o : Iop} {q : DK} {l : List (IOper × DK)} {hs : List MH} {pd : List (Nat × MO)} {K : Fr → List MH → List (Nat × MO) → Prop} (h : wantM f (some (p, w)) = some true) : Wd fns b0 ((⟨d, some (p, w), o⟩, q) :: l) f hs pd K = Wd fns b0 ((⟨d, none, o⟩, q) :: l) f hs pd K := by
  rw [Wd_cons, Wd_cons, evD1_go h]
theorem Wd_stay {b0 : Nat} {d : Option Ky} {p : Ky} {w : Bool} {o : Iop} {q : DK} {l : List (IOper × DK)} {hs : List MH} {pd : List (Nat × MO)} {K : Fr → List MH → List (Nat × MO) → Prop} (hq : q.chain = false) (hq2 : ∀ j, q ≠ .fl j) (h : wantM f (some (p, w)) = some false) : Wd fns b0 ((⟨d, some (p, w), o⟩, q) :: l) f hs pd K = Wd fns b0 l (setD f d (.tp [])) hs pd K := by
  refine (wd_some (m := .tp []) (hs' := hs) (os := []) ?_).trans wd_end
  unfold evD1
  simp only [h]
  cases q <;> first | rfl | (cases hq; done) | exact absurd rfl (hq2 _)
theorem Wd_stayC {b0 : Nat} {d : Option Ky} {p : Ky} {w : Bool} {o : Iop} {q : DK} {l : List (IOper × DK)} {r : List MH} {pd : List (Nat × MO)} {K : Fr → List MH → List (Nat × MO) → Prop} (hq : q.chain = true) (hq2 : ∀ js, q ≠ .ma js) (h : wantM f (some (p, w)) = some false) : Wd fns b0 ((⟨d, some (p, w), o⟩, q) :: l) f (M :: r) pd K = Wd fns b0 l (setD f d (.tp [])) (M :: M :: r) pd K := by
  refine (wd_some (m := .tp []) (hs' := M :: M :: r) (os := []) ?_).trans wd_end
  unfold evD1
  simp only [h]
  cases q <;> first | rfl | (cases hq; done) | exact absurd rfl (hq2 _)
theorem wd_gd {p : Ky} {v : MV} {w : Bool} {A B C : Prop} (hv : v = X.ev f (.t p)) (h1 : wantM f (some (p, w)) = some true → C = A) (h2 : wantM f (some (p, w)) = some false → C = B) (h3 : wantM f (some (p, w)) = none → C = False) : C = @gdP v w ⟨A⟩ ⟨B⟩ := by
  have hw := want_ev (f := f) p w
  rw [← hv] at hw
  unfold gdP
  clear hv
  cases v <;> simp only at hw ⊢ <;> first | exact h3 hw | skip
  · rename_i b
    cases hb : b == w with
    | true => rw [hb] at hw; exact h1 hw
    | false => rw [hb] at hw; exact h2 hw
  · exact h2 hw
theorem evD1_stuck {b0 : Nat} {d : Option Ky} {p : Ky} {w : Bool} {o : Iop} {q : DK} {hs : List MH} {pd : List (Nat × MO)} (h : wantM f (some (p, w)) = none) : evD1 (callA fns) b0 f hs pd ⟨d, some (p, w), o⟩ q = none := by
  unfold evD1
  simp only [h]
theorem Wd_gpu {b0 : Nat} {d : Option Ky} {p : Ky} {w : Bool} {o : Iop} {l : List (IOper × DK)} {hs : List MH} {pd : List (Nat × MO)} {K : Fr → List MH → List (Nat × MO) → Prop} : Wd fns b0 ((⟨d, some (p, w), o⟩, .pu) :: l) f hs pd K = @gdP (X.ev f (.t p)) w ⟨Wd fns b0 ((⟨d, none, o⟩, .pu) :: l) f hs pd K⟩ ⟨Wd fns b0 l (setD f d (.tp [])) hs pd K⟩ :=
  wd_gd rfl Wd_go (Wd_stay rfl fun j e => by cases e) fun h => wd_none (evD1_stuck h)
theorem Wd_grd {b b0 : Nat} {d : Option Ky} {p : Ky} {w : Bool} {o : Iop} {l : List (IOper × DK)} {hs : List MH} {pd : List (Nat × MO)} {K : Fr → List MH → List (Nat × MO) → Prop} : Wd fns b0 ((⟨d, some (p, w), o⟩, .rd b) :: l) f hs pd K = @gdP (X.ev f (.t p)) w ⟨Wd fns b0 ((⟨d, none, o⟩, .rd b) :: l) f hs pd K⟩ ⟨Wd fns b0 l (setD f d (.tp [])) hs pd K⟩ :=
  wd_gd rfl Wd_go (Wd_stay rfl fun j e => by cases e) fun h => wd_none (evD1_stuck h)
theorem Wd_gad {b0 : Nat} {d : Option Ky} {p : Ky} {w : Bool} {o : Iop} {l : List (IOper × DK)} {r : List MH} {pd : List (Nat × MO)} {K : Fr → List MH → List (Nat × MO) → Prop} : Wd fns b0 ((⟨d, some (p, w), o⟩, .ad) :: l) f (M :: r) pd K = @gdP (X.ev f (.t p)) w ⟨Wd fns b0 ((⟨d, none, o⟩, .ad) :: l) f (M :: r) pd K⟩ ⟨Wd fns b0 l (setD f d (.tp [])) (M :: M :: r) pd K⟩ :=
  wd_gd rfl Wd_go (Wd_stayC rfl fun j e => by cases e) fun h => wd_none (evD1_stuck h)
theorem Wd_gmd {b0 : Nat} {d : Option Ky} {p : Ky} {w : Bool} {o : Iop} {l : List (IOper × DK)} {r : List MH} {pd : List (Nat × MO)} {K : Fr → List MH → List (Nat × MO) → Prop} : Wd fns b0 ((⟨d, some (p, w), o⟩, .md) :: l) f (M :: r) pd K = @gdP (X.ev f (.t p)) w ⟨Wd fns b0 ((⟨d, none, o⟩, .md) :: l) f (M :: r) pd K⟩ ⟨Wd fns b0 l (setD f d (.tp [])) (M :: M :: r) pd K⟩ :=
  wd_gd rfl Wd_go (Wd_stayC rfl fun j e => by cases e) fun h => wd_none (evD1_stuck h)
/-- How a drawn region ends. -/
def dregK (fns : Nat → Option IFn) (l : List (IOper × DK)) (lB : List IOper) (xs : List (Nat × Nat)) (n : Nat) (Q : Post) : Fr → List MH → List (Nat × MO) → Prop := fun f hs os => match hs with
  | M1 :: t => apartL xs l n f (M1 :: t) = true ∧ Wl fns lB f (adoptM (lateL l n os) M1) fun f' M' => Q .norm f' M'
  | [] => False
theorem Wp_dreg_of {r : Nat} {l : List (IOper × DK)} {lB : List IOper} {xs : List (Nat × Nat)} (h0 : M.lo ≤ M.n) (h : Wd fns M.n l f [M.room r] [] (dregK fns l lB xs M.n Q)) : Wp fns (.dreg r l lB xs) f M Q := by
  obtain ⟨f', hs', os, h1, h2⟩ := h
  cases hs' with
  | nil => exact h2.elim
  | cons M1 t => exact Wp_dreg h0 h1 h2.1 h2.2
theorem apartL_nil (l : List (IOper × DK)) (n : Nat) (f : Fr) (hs : List MH) : apartL [] l n f hs = true := rfl
theorem lateL_nil (l : List (IOper × DK)) (n : Nat) : lateL l n [] = [] := rfl
theorem adopt_nil (M : MH) : adoptM [] M = M := rfl
theorem dregK_cons {l : List (IOper × DK)} {lB : List IOper} {xs : List (Nat × Nat)} {n : Nat} {M1 : MH} {t : List MH} {os : List (Nat × MO)} : dregK fns l lB xs n Q f (M1 :: t) os = (apartL xs l n f (M1 :: t) = true ∧ Wl fns lB f (adoptM (lateL l n os) M1) fun f' M' => Q .norm f' M') := rfl
theorem room0 : M.room 0 = M := rfl
theorem room_n (r : Nat) : (M.room r).n = M.n + r := rfl
theorem room_get (r id : Nat) : (M.room r).get id = M.get id := rfl
theorem room_lo (r : Nat) : (M.room r).lo = M.lo := rfl
/-! Frames. -/
theorem ev_c (m : MV) : X.ev f (.c m) = m := rfl
theorem ev_set (p q : Ky) (m : MV) : X.ev (T.set p (some m) f) (.t q) = if p = q then m else X.ev f (.t q) := by
  show (match (T.set p (some m) f).get q with
    | some v => v
    | none => MV.u) = _
  rw [T.get_set]
  by_cases h : p = q
  · rw [if_pos h, if_pos h]
  · rw [if_neg h, if_neg h]; rfl
theorem setD_some (p : Ky) (m : MV) : setD f (some p) m = T.set p (some m) f := rfl
theorem setD_none (m : MV) : setD f none m = f := rfl
theorem ev_arg (m : MV) (l : List MV) (i : Nat) : argsF (m :: l) i f = argsF l (i + 1) (T.set (path i) (some m) f) := rfl
theorem ev_args (i : Nat) : argsF [] i f = f := rfl
theorem ev_lf (q : Ky) : X.ev (T.lf : Fr) (.t q) = .u := by
  show (match T.get T.lf q with
    | some v => v
    | none => MV.u) = _
  rw [T.get_lf]
/-! Results. -/
theorem retQ_ret {fn : IFn} {K : MV → MH → Prop} : retQ fn K .ret f M = @bindP _ (resL f M fn.res) ⟨fun l => K (packM l) M⟩ := rfl
theorem retQ_norm {fn : IFn} {K : MV → MH → Prop} : retQ fn K .norm f M = @bindP _ (resL f M fn.res) ⟨fun l => K (packM l) M⟩ := rfl
theorem resL_nil : resL f M [] = some [] := rfl
theorem res_set (p q : Ky) (m : MV) : IRes.ev (T.set p (some m) f) M (.tmp q) = if p = q then some m else IRes.ev f M (.tmp q) := T.get_set p (some m) f q
theorem res_of {p : Ky} {m : MV} (h : X.ev f (.t p) = m) (hm : isU m = false) : IRes.ev f M (.tmp p) = some m := by
  have h' : (match f.get p with
    | some v => v
    | none => .u) = m := h
  show f.get p = some m
  cases hf : f.get p with
  | none => rw [hf] at h'; subst h'; cases hm
  | some v => rw [hf] at h'; exact congrArg some h'
theorem thenQ_norm {b : IC} : thenQ fns b Q .norm f M = Wp fns b f M Q := rfl
theorem thenQ_ret {b : IC} : thenQ fns b Q .ret f M = Q .ret f M := rfl
theorem thenQ_exit {b : IC} (i : Nat) : thenQ fns b Q (.exit i) f M = Q (.exit i) f M := rfl
theorem blockQ_norm (id : Nat) : blockQ id Q .norm f M = Q .norm f M := rfl
theorem blockQ_ret (id : Nat) : blockQ id Q .ret f M = Q .ret f M := rfl
theorem blockQ_exit (id i : Nat) : blockQ id Q (.exit i) f M = if i = id then Q .norm f M else Q (.exit i) f M := by
  unfold blockQ
  simp only
  by_cases h : i = id
  · rw [if_pos h, h, beq_self_eq_true, cond_true]
  · rw [if_neg h, show (i == id) = false from by simpa using h, cond_false]
/-! Memory. -/
theorem push_new (o : MO) : (M.push o).get M.n = some o := by rw [MH.get_push, if_pos rfl]
theorem push_old {o : MO} {j : Nat} (h : j < M.n) : (M.push o).get j = M.get j := by rw [MH.get_push, if_neg (by omega)]
theorem push_ne {o : MO} {j : Nat} (h : j ≠ M.n) : (M.push o).get j = M.get j := by rw [MH.get_push, if_neg (by omega)]
theorem push_n (o : MO) : (M.push o).n = M.n + 1 := rfl
theorem push_lo (o : MO) : (M.push o).lo = M.lo := rfl
theorem set_n (id : Nat) (o : Option MO) : (M.set id o).n = M.n := rfl
theorem set_lo (id : Nat) (o : Option MO) : (M.set id o).lo = M.lo := rfl
theorem set_same (id : Nat) (o : Option MO) : (M.set id o).get id = o := by rw [MH.get_set, if_pos rfl]
theorem set_ne {id j : Nat} {o : Option MO} (h : j ≠ id) : (M.set id o).get j = M.get j := by rw [MH.get_set, if_neg (by omega)]
theorem lift_n : M.lift.n = M.n := rfl
theorem lift_lo : M.lift.lo = M.n := rfl
theorem lift_get (id : Nat) : M.lift.get id = M.get id := rfl
theorem down_n (lo : Nat) : (M.down lo).n = M.n := rfl
theorem down_lo (lo : Nat) : (M.down lo).lo = lo := rfl
theorem down_get (lo id : Nat) : (M.down lo).get id = M.get id := rfl
theorem ble_t' {a b : Nat} (h : a ≤ b) : Nat.ble a b = true := Nat.ble_eq_true_of_le h
theorem blt_t {a b : Nat} (h : a < b) : Nat.blt a b = true := Nat.ble_eq_true_of_le h
theorem blt_d (a b : Nat) : Nat.blt a b = decide (a < b) := by
  rw [Bool.eq_iff_iff]
  simp only [decide_eq_true_eq]
  exact ⟨fun h => Nat.le_of_ble_eq_true h, blt_t⟩
theorem ble_d (a b : Nat) : Nat.ble a b = decide (a ≤ b) := by
  rw [Bool.eq_iff_iff]
  simp only [decide_eq_true_eq]
  exact ⟨fun h => Nat.le_of_ble_eq_true h, ble_t'⟩
theorem wrap_in {z : Int} (h : -9223372036854775808 ≤ z) (h' : z < 9223372036854775808) : wrapF .i64 z = z := by
  rw [wrapF_eq]
  have e64 : (2 : Int) ^ 64 = 18446744073709551616 := by decide
  have e63 : (2 : Int) ^ 63 = 9223372036854775808 := by decide
  simp only [IntKind.wrap, IntKind.bits, IntKind.signed, e64, e63, Bool.true_and, show (64 : Nat) - 1 = 63 from rfl, decide_eq_true_eq, ge_iff_le]
  split <;> omega
end Go.Proofs.Ytaagkdljkpbilaa.Ev
