/-
  Arguments of whatever types, read into the model; functions that are known by a contract that hangs on nothing. Conditions: none.
-/
import Derived.Test.YtaagkdljkpbilaaOp
import Derived.WideShapes
set_option linter.unusedSimpArgs false
set_option linter.unusedVariables false
namespace Go.Proofs.Ytaagkdljkpbilaa.Ev
open Go Go.Deep Go.RowKit Go.WideShapes Kit
/-- A value of a type, as an argument. -/
def ArgTyped (P : Program) (M : MH) (t : TypeId) (m : MV) : Prop := ∃ n cs, Typed P M n t cs ∧ match P.underlying t with
  | some (.struct _) => m = .ag cs
  | some (.array _ _) => m = .ag cs
  | _ => cs = [m]
def ArgsTyped (P : Program) (M : MH) : List TypeId → List MV → Prop
  | [], ms => ms = []
  | t :: ts, ms => ∃ m r, ms = m :: r ∧ ArgTyped P M t m ∧ ArgsTyped P M ts r
theorem ArgTyped.ext {P : Program} {M M' : MH} (k : Ext M M') {t : TypeId} {m : MV} (h : ArgTyped P M t m) : ArgTyped P M' t m :=
  let ⟨n, cs, h1, h2⟩ := h
  ⟨n, cs, Typed.ext k h1, h2⟩
variable {H : Type} {enc : TypeId × Value → H} {P : Program} {w : World}
theorem open_arg {S : List TypeId} (hS : Closed P S) {t : TypeId} {v : Value} {d : DataW H} {ps : List MemPlace} {r : Reach} {base : Nat} (ht : t ∈ S) (h : DataW.Trod enc P w 0 (fun _ => true) true t v d ps) (hv : Value.okWide P w r base t v) :
    ∀ β M, Opened P w β M → ∃ β' M' m, Opened P w β' M' ∧ β.le β' ∧ Ext M M' ∧ Den β' m v ∧ ArgTyped P M' t m := by
  intro β M hO
  obtain ⟨n, hn⟩ := h
  obtain ⟨β', M', cs, h1, h2, h3, h4, h5⟩ := open_any hS n t v.cells.toList _ ht hn β M hO
  have hk := hS t ht
  unfold typeOk at hk
  have one : (∀ xs, v ≠ .agg xs) → (∀ cs, Typed P M' n t cs → ∃ x, cs = [x]) → ∃ m, Den β' m v ∧ cs = [m] := fun hne hc => by
    obtain ⟨x, rfl⟩ := hc cs h5
    have hcell : v.cells.toList = [v] := by
      cases v <;> first | rfl | exact absurd rfl (hne _)
    rw [hcell] at h4
    obtain ⟨v', ws, e, hd, hr⟩ := h4.inv
    injection e with e1 e2
    subst e1
    exact ⟨x, hd, rfl⟩
  cases n with
  | zero => exact h5.elim
  | succ n =>
  cases hu : P.underlying t with
  | none => rw [hu] at hk; cases hk
  | some k =>
    rw [hu] at hk
    cases k <;> simp only [Bool.and_eq_true] at hk <;> first | (cases hk; done) | skip
    · obtain ⟨b, rfl⟩ := okWide_bool hu hv
      obtain ⟨m, hm, rfl⟩ := one (fun xs e => by cases e) fun cs hc => by simp only [Typed, hu] at hc; obtain ⟨b, rfl⟩ := hc; exact ⟨_, rfl⟩
      exact ⟨β', M', m, h1, h2, h3, hm, n + 1, [m], h5, by simp only [hu]⟩
    · obtain ⟨b, rfl⟩ := okWide_int hu hv
      obtain ⟨m, hm, rfl⟩ := one (fun xs e => by cases e) fun cs hc => by simp only [Typed, hu] at hc; obtain ⟨b, rfl, _⟩ := hc; exact ⟨_, rfl⟩
      exact ⟨β', M', m, h1, h2, h3, hm, n + 1, [m], h5, by simp only [hu]⟩
    · obtain ⟨b, rfl⟩ := okWide_string hu hv
      obtain ⟨m, hm, rfl⟩ := one (fun xs e => by cases e) fun cs hc => by simp only [Typed, hu] at hc; obtain ⟨b, rfl, _⟩ := hc; exact ⟨_, rfl⟩
      exact ⟨β', M', m, h1, h2, h3, hm, n + 1, [m], h5, by simp only [hu]⟩
    · obtain ⟨a, l, c, rfl⟩ := okWide_slice hu hv
      obtain ⟨m, hm, rfl⟩ := one (fun xs e => by cases e) fun cs hc => by simp only [Typed, hu] at hc; obtain ⟨v, es, rfl, _⟩ := hc; exact ⟨_, rfl⟩
      exact ⟨β', M', m, h1, h2, h3, hm, n + 1, [m], h5, by simp only [hu]⟩
    · unfold Value.okWide at hv
      rw [hu] at hv
      obtain ⟨xs, rfl, _⟩ := hv
      exact ⟨β', M', .ag cs, h1, h2, h3, DenL.agg h4, n + 1, cs, h5, by simp only [hu]⟩
    · obtain ⟨xs, rfl, _⟩ := okWide_struct hu hv
      exact ⟨β', M', .ag cs, h1, h2, h3, DenL.agg h4, n + 1, cs, h5, by simp only [hu]⟩
theorem open_args {S : List TypeId} (hS : Closed P S) {r : Reach} {base : Nat} : ∀ (ts : List TypeId) (vs : List Value) (ds : List (DataW H)) (ps : List MemPlace), (∀ t ∈ ts, t ∈ S) → DataW.TrodAll enc P w 0 (fun _ => true) true ts vs ds ps → (∀ (j : Nat) t v, ts[j]? = some t → vs[j]? = some v → Value.okWide P w r base t v) →
    ∀ β M, Opened P w β M → ∃ β' M' ms, Opened P w β' M' ∧ β.le β' ∧ Ext M M' ∧ DenL β' ms vs ∧ ArgsTyped P M' ts ms
  | [], [], [], ps, hin, h, hv, β, M, hO => ⟨β, M, [], hO, .refl β, .refl M, .nil β, rfl⟩
  | t :: ts, v :: vs, d :: ds, ps, hin, h, hv, β, M, hO => by
    obtain ⟨p, q, h1, h2, _⟩ := h
    obtain ⟨β1, M1, m, a1, a2, a3, a4, a5⟩ := open_arg hS (hin t List.mem_cons_self) h1 (hv 0 t v rfl rfl) β M hO
    obtain ⟨β2, M2, ms, b1, b2, b3, b4, b5⟩ := open_args hS ts vs ds q (fun t ht => hin t (List.mem_cons_of_mem _ ht)) h2 (fun j t v h h' => hv (j + 1) t v (by simpa using h) (by simpa using h')) β1 M1 a1
    exact ⟨β2, M2, m :: ms, b1, a2.trans b2, a3.trans b3, .cons (a4.mono b2) b4, m, ms, rfl, a5.ext b3, b5⟩
/-- From a law in the model to the law. -/
theorem law_in (hm : P.follows .mixedOrders = true) {fns : Nat → Option IFn} (hfns : ∀ g fn, fns g = some fn → FitsF P g fn) {S : List TypeId} (hS : Closed P S) {r : Reach} {base g : Nat} {ts : List TypeId} {vs : List Value} {ds : List (DataW H)} {ps : List MemPlace} (hin : ∀ t ∈ ts, t ∈ S)
    (h : DataW.TrodAll enc P w 0 (fun _ => true) true ts vs ds ps) (hv : ∀ (j : Nat) t v, ts[j]? = some t → vs[j]? = some v → Value.okWide P w r base t v) {β0 : BM} {M0 : MH} (hO : Opened P w β0 M0)
    (law : ∀ M ms, Ext M0 M → M.lo ≤ M.n → ArgsTyped P M ts ms → Cp fns g ms M fun m _ => m = .b true) :
    Calls P g vs.toArray w fun e w' => e = .returned (.bool true) ∧ Kept w w' := by
  obtain ⟨β, M, ms, h1, h2, h3, h4, h5⟩ := open_args hS ts vs ds ps hin h hv β0 M0 hO
  obtain ⟨m, M', h6, rfl⟩ := law M ms h3 h1.lo h5
  obtain ⟨n, h7⟩ := callA_ex h6
  refine (calls_run_at hm hfns n g ms vs (.b true) β M M' w h1.glob h1.inv h1.ro h7 h4).mono ?_
  rintro e w' ⟨v, β', rfl, hd, hk⟩
  cases hd
  exact ⟨rfl, hk⟩
/-- What a call that came to an end says. -/
theorem callF_inv {fns : Nat → Option IFn} {n g : Nat} {fn : IFn} {args : List MV} {M M' : MH} {m : MV} (hg : fns g = some fn) (h : callF fns n g args M = some (m, M')) : args.length ≤ fn.sz ∧ Wp fns fn.body (argsF args 0 .lf) M (retQ fn fun m' M3 => m' = m ∧ M3 = M') := by
  unfold callF at h
  rw [hg] at h
  simp only at h
  cases hb : Nat.ble args.length fn.sz with
  | false => rw [hb] at h; cases h
  | true =>
    rw [hb] at h
    simp only [cond_true] at h
    refine ⟨Nat.le_of_ble_eq_true hb, ?_⟩
    cases h1 : run fns n fn.body (argsF args 0 .lf) M with
    | none => rw [h1] at h; cases h
    | some x =>
      obtain ⟨ex, f, M1⟩ := x
      rw [h1] at h
      refine ⟨n, ex, f, M1, h1, ?_⟩
      cases ex with
      | exit i => cases h
      | norm =>
        simp only at h
        cases h2 : resL f M1 fn.res with
        | none => rw [h2] at h; cases h
        | some l =>
          rw [h2] at h
          injection h with h; injection h with h3 h4
          exact ⟨l, h2, h3, h4⟩
      | ret =>
        simp only at h
        cases h2 : resL f M1 fn.res with
        | none => rw [h2] at h; cases h
        | some l =>
          rw [h2] at h
          injection h with h; injection h with h3 h4
          exact ⟨l, h2, h3, h4⟩
theorem Step.of_kept {β : BM} {M : MH} {w w' : World} (h : Inv β M w) (k : Kept w w') : Step β β M M w w' := by
  obtain ⟨k1, k2, k3, k4, k5⟩ := k
  refine ⟨⟨h.fresh, fun id B e => (h.old id B e).imp (fun x => Nat.lt_of_lt_of_le x k4) (fun x => x), fun id o ho => h.keep (.refl β) (fun b hb => k5 b hb) ho, h.inj⟩, .refl β, k4, k1, k2, k3, fun b hb _ => k5 b hb, fun b hb => .inl hb, Nat.le_refl _, rfl, fun _ _ => rfl, fun _ _ h => h, fun _ _ => rfl, fun _ _ h _ => h⟩
theorem own_cell0 {β : BM} {M : MH} {w : World} (hi : Inv β M w) {id i sz : Nat} {c : T MV} (ho : M.get id = some (.cs false sz c)) {x : MV} (hx : cget c i = some x) : ∃ B v, β id = some B ∧ w.cell? ⟨B.blk, B.off + i, none⟩ = some v ∧ Den β x v := by
  obtain ⟨B, hB, hO⟩ := hi.obj id _ ho
  obtain ⟨arr, t, fr, h1, h2, h3, h4⟩ := hO
  obtain ⟨v, hv, hd⟩ := h4 i x hx
  exact ⟨B, v, hB, by simp [World.cell?, h1, hv], hd⟩
/-- A function that gives true, whatever is there. -/
def Ftrue : IFn := ⟨0, [.tmp (.k1 .d0)], .reg [⟨some (.k1 .d0), none, .mov (.c (.b true))⟩]⟩
theorem sem_true {g : Nat} {fn : Func} {c : Code} (h1 : P.funcs[g]? = some fn) (h2 : (fn.name == "runtime.NumGoroutine") = false) (h3 : fn.body = some c) (h : ∀ w, Calls P g #[] w fun e w' => e = .returned (.bool true) ∧ Kept w w') : SemF P g Ftrue := by
  intro fns n hg _ args M M' m hc
  refine ⟨⟨fn, c, h1, h2, h3⟩, fun β w vs hgl hi hd => ?_⟩
  obtain ⟨ha, hW⟩ := callF_inv hg hc
  have ha : args = [] := List.length_eq_zero_iff.1 (Nat.le_zero.1 ha)
  subst ha
  cases hd.inv0
  have hW : Wp fns (.reg [⟨some (.k1 .d0), none, .mov (.c (.b true))⟩]) (argsF [] 0 .lf) M (retQ Ftrue fun m' M3 => m' = m ∧ M3 = M') := hW
  simp only [Wp_reg_iff, Wl_op_iff, Wl_nil_iff, bindP_some, ev_mov, ev_c, setD_some, ev_args, retQ_norm, show Ftrue.res = [.tmp (.k1 .d0)] from rfl, resL_1, res_set, if_true] at hW
  obtain ⟨rfl, rfl⟩ := hW
  refine (h w).mono ?_
  rintro e w' ⟨rfl, hk⟩
  exact ⟨_, β, rfl, .b true, Step.of_kept hi hk⟩
/-- The same, where a table reads as it is to. -/
def Ftab (tab : List Int) : IFn := ⟨0, [.tmp (.k1 .d0)], .seq (.reg [⟨some (.k1 .d1), none, .ldN tab.length (.c (.p 0 0))⟩, ⟨some (.k1 .d2), none, .pu2 (.eqA tab.length false) (.t (.k1 .d1)) (.c (.ag (tab.map (MV.i .u8))))⟩, ⟨some (.k1 .d0), none, .mov (.c (.b true))⟩]) (.cond (.t (.k1 .d2)) .ret .bad)⟩
theorem eqAg_true : ∀ {a b : List MV}, eqAg a b = some true → a = b
  | [], [], _ => rfl
  | [], _ :: _, h => by cases h
  | x :: a, [], h => by cases x <;> cases h
  | x :: a, y :: b, h => by
    cases x <;> (try (cases h; done))
    cases y <;> (try (cases h; done))
    rename_i k n k' n'
    have h' : (bif k == k' then match eqAg a b with
      | some t => some (bif n == n' then t else false)
      | none => none
      else none) = some true := h
    cases hk : (k == k') with
    | false => rw [hk] at h'; cases h'
    | true =>
      rw [hk] at h'
      have hk : k = k' := by simpa using hk
      simp only [cond_true] at h'
      cases hq : eqAg a b with
      | none => rw [hq] at h'; cases h'
      | some t =>
        rw [hq] at h'
        injection h' with h'
        cases hn : (n == n') with
        | false => rw [hn] at h'; cases h'
        | true =>
          rw [hn] at h'
          have h' : t = true := h'
          subst h'
          have hn : n = n' := by simpa using hn
          rw [eqAg_true hq, hk, hn]
theorem Wp_bad {fns : Nat → Option IFn} {f : Fr} {M : MH} {Q : Post} (h : Wp fns .bad f M Q) : False := by
  obtain ⟨n, ex, f', M', h1, _⟩ := h
  cases n with
  | zero => rw [run_zero] at h1; cases h1
  | succ n => rw [run_succ] at h1; cases h1
theorem sem_tab {tab : List Int} {g : Nat} {fn : Func} {c : Code} {q : Nat} (hg0 : gtab 0 = some (0, q)) (h1 : P.funcs[g]? = some fn) (h2 : (fn.name == "runtime.NumGoroutine") = false) (h3 : fn.body = some c) (h : ∀ w : World, (∀ i, i < tab.length → w.cell? ⟨0, i, none⟩ = some (.int .u8 (tab.getD i 0))) → Calls P g #[] w fun e w' => e = .returned (.bool true) ∧ Kept w w') : SemF P g (Ftab tab) := by
  intro fns n hg _ args M M' m hc
  refine ⟨⟨fn, c, h1, h2, h3⟩, fun β w vs hgl hi hd => ?_⟩
  obtain ⟨ha, hW⟩ := callF_inv hg hc
  have ha : args = [] := List.length_eq_zero_iff.1 (Nat.le_zero.1 ha)
  subst ha
  cases hd.inv0
  have hW : Wp fns (.seq (.reg [⟨some (.k1 .d1), none, .ldN tab.length (.c (.p 0 0))⟩, ⟨some (.k1 .d2), none, .pu2 (.eqA tab.length false) (.t (.k1 .d1)) (.c (.ag (tab.map (MV.i .u8))))⟩, ⟨some (.k1 .d0), none, .mov (.c (.b true))⟩]) (.cond (.t (.k1 .d2)) .ret .bad)) (argsF [] 0 .lf) M (retQ (Ftab tab) fun m' M3 => m' = m ∧ M3 = M') := hW
  simp only [Wp_seq_reg, Wl_op_iff, ev_ldN, ldN_w, ev_c] at hW
  obtain ⟨⟨l, M1⟩, e1, hW⟩ := hW
  cases ho : M.get 0 with
  | none => rw [ho] at e1; cases e1
  | some o =>
    rw [ho] at e1
    cases o with
    | mp es ck => cases e1
    | cs r s t =>
      cases hn : getN t tab.length 0 with
      | none => simp only [ldNW, hn] at e1; cases e1
      | some cells =>
        simp only [ldNW, hn, Option.map_some, o1_some, Option.some.injEq, Prod.mk.injEq] at e1
        obtain ⟨rfl, rfl⟩ := e1
        simp only [Wl_op_iff, ev_pu2, setD_some, ev_set, if_true, ev_c] at hW
        obtain ⟨⟨x, M2⟩, e2, hW⟩ := hW
        have hcl := (getN_some hn).1
        rw [puM_eqA, hcl, beq_self_eq_true, cond_true] at e2
        cases hq : eqAg cells (tab.map (MV.i .u8)) with
        | none => rw [hq] at e2; cases e2
        | some t2 =>
          rw [hq] at e2
          simp only [cond_false, o1_some, Option.some.injEq, Prod.mk.injEq] at e2
          obtain ⟨rfl, rfl⟩ := e2
          simp only [Wl_op_iff, Wl_nil_iff, bindP_some, ev_mov, ev_c, setD_some, Wp_cond_iff, ev_set, Ky.k1.injEq, reduceCtorEq, if_true, if_false] at hW
          cases t2 with
          | false => rw [condP_f] at hW; exact (Wp_bad hW).elim
          | true =>
            rw [condP_t] at hW
            simp only [Wp_ret_iff, retQ_ret, show (Ftab tab).res = [.tmp (.k1 .d0)] from rfl, resL_1, res_set, if_true, bindP_some] at hW
            obtain ⟨rfl, rfl⟩ := hW
            have hcells := eqAg_true hq
            subst hcells
            refine (h w fun i hlt => ?_).mono ?_
            · have hx : cget t (0 + i) = some (.i .u8 tab[i]) := (getN_some hn).2 i _ (by simp [hlt])
              have hβ : β 0 = some ⟨0, 0, q⟩ := hgl 0 0 q hg0
              have : ∃ v, w.cell? ⟨0, 0 + (0 + i), none⟩ = some v ∧ Den β (.i .u8 tab[i]) v := by
                cases r with
                | true =>
                  obtain ⟨B, e, hk⟩ := hi.obj 0 _ ho
                  rw [hβ] at e
                  injection e with e
                  subst e
                  exact hk _ _ hx
                | false =>
                  obtain ⟨B, v, e, hk, hd⟩ := own_cell0 hi ho hx
                  rw [hβ] at e
                  injection e with e
                  subst e
                  exact ⟨v, hk, hd⟩
              obtain ⟨v, g1, g2⟩ := this
              cases g2
              rw [Nat.zero_add, Nat.zero_add] at g1
              rw [g1, List.getD_eq_getElem?_getD, List.getElem?_eq_getElem hlt]
              rfl
            · rintro e w' ⟨rfl, hk⟩
              exact ⟨_, β, rfl, .b true, Step.of_kept hi hk⟩
/-! A table that is only read, as object 0. -/
noncomputable def Mtab (tab : List Int) : MH := ⟨T.set (path 0) (some (.cs true 1 (ofL (tab.map (MV.i .u8)) 0))) .lf, 1, 0⟩
def Btab (q : Nat) : BM := fun id => if id = 0 then some ⟨0, 0, q⟩ else none
theorem Mtab_get (tab : List Int) (id : Nat) : (Mtab tab).get id = if id = 0 then some (.cs true 1 (ofL (tab.map (MV.i .u8)) 0)) else none := by
  unfold Mtab MH.get
  simp only
  rw [T.get_set, T.get_lf]
  by_cases h : id = 0
  · subst h; rw [if_pos rfl, if_pos rfl]
  · rw [if_neg h, if_neg fun e => h (path_inj e).symm]
theorem opened_tab {tab : List Int} {q : Nat} (hg : ∀ g id cap, gtab g = some (id, cap) → g = 0 ∧ id = 0 ∧ cap = q) (hn : 0 < tab.length) (h : ∀ i, i < tab.length → w.cell? ⟨0, i, none⟩ = some (.int .u8 (tab.getD i 0))) : Opened P w (Btab q) (Mtab tab) := by
  refine ⟨⟨fun id hid => ?_, fun id B hB => ?_, fun id o ho => ?_, fun id id' o o' B B' ho _ hr => ?_⟩, fun g id cap e => ?_, fun id o ho => ?_, Nat.zero_le _, .inl (Nat.lt_of_le_of_lt (Nat.zero_le _) (World.block_lt_of_cell? w _ (h 0 hn)))⟩
  · have : (1 : Nat) ≤ id := hid
    unfold Btab; rw [if_neg (by omega)]
  · unfold Btab at hB
    split at hB
    · injection hB with hB
      subst hB
      exact .inl (World.block_lt_of_cell? w _ (h 0 hn))
    · cases hB
  · rw [Mtab_get] at ho
    split at ho
    · rename_i e
      subst e
      injection ho with ho
      subst ho
      refine ⟨⟨0, 0, q⟩, rfl, fun i x hx => ?_⟩
      rw [cget_ofL, if_pos (Nat.zero_le _), Nat.sub_zero, List.getElem?_map, Option.map_eq_some_iff] at hx
      obtain ⟨z, hz, rfl⟩ := hx
      have hi : i < tab.length := (List.getElem?_eq_some_iff.1 hz).1
      refine ⟨_, (by rw [Nat.zero_add]; exact h i hi), ?_⟩
      rw [List.getD_eq_getElem?_getD, hz]
      exact .i _ _
    · cases ho
  · rw [Mtab_get] at ho
    split at ho
    · injection ho with ho
      subst ho
      cases hr
    · cases ho
  · obtain ⟨rfl, rfl, rfl⟩ := hg g id cap e
    rfl
  · rw [Mtab_get] at ho
    split at ho
    · injection ho with ho
      subst ho
      rfl
    · cases ho
/-- Where there is no table: an object without cells lies first. -/
noncomputable def Mz : MH := ⟨T.set (path 0) (some thinO) .lf, 1, 0⟩
def Bz : BM := fun id => if id = 0 then some ⟨0, 0, 0⟩ else none
theorem Mz_get (id : Nat) : Mz.get id = if id = 0 then some thinO else none := by
  unfold Mz MH.get
  show (T.set (path 0) (some thinO) .lf).get (path id) = _
  rw [T.get_set]
  by_cases h : id = 0
  · subst h; simp
  · have hp : ¬ path 0 = path id := fun e => h (path_inj e).symm
    simp [h, hp, T.get_lf]
theorem opened_none (hg : ∀ g, gtab g = none) : Opened P w Bz Mz := by
  refine ⟨⟨fun id hid => ?_, fun id B hB => ?_, fun id o ho => ?_, fun id id' o o' B B' ho _ hr => ?_⟩, fun g id cap e => ?_, fun id o ho => ?_, Nat.zero_le _, .inr ⟨by rw [Mz_get, if_pos rfl], Nat.one_pos, rfl⟩⟩
  · have : (1 : Nat) ≤ id := hid
    unfold Bz; rw [if_neg (by omega)]
  · unfold Bz at hB
    split at hB
    · rename_i h
      exact .inr ⟨h, by rw [Mz_get, if_pos rfl]⟩
    · cases hB
  · rw [Mz_get] at ho
    split at ho
    · rename_i e
      subst e
      injection ho with ho
      subst ho
      exact ⟨⟨0, 0, 0⟩, rfl, .thin _ _ _⟩
    · cases ho
  · rw [Mz_get] at ho
    split at ho
    · injection ho with ho
      subst ho
      cases hr
    · cases ho
  · rw [hg g] at e; cases e
  · rw [Mz_get] at ho
    split at ho
    · injection ho with ho
      subst ho
      rfl
    · cases ho
theorem eqAg_self (k : IntKind) : ∀ l : List Int, eqAg (l.map (MV.i k)) (l.map (MV.i k)) = some true
  | [] => rfl
  | z :: l => by
    rw [List.map_cons, eqAg_i, eqAg_self k l, beq_self_eq_true]
    rfl
theorem Cp_tab {fns : Nat → Option IFn} {g : Nat} {tab : List Int} {M : MH} (hg : fns g = some (Ftab tab)) (hx : Ext (Mtab tab) M) : Cp fns g [] M fun m M' => m = .b true ∧ M' = M := by
  have h0 : M.get 0 = some (.cs true 1 (ofL (tab.map (MV.i .u8)) 0)) := by rw [hx.old 0 (by show (0 : Nat) < 1; decide), Mtab_get, if_pos rfl]
  refine Cp_call hg (Nat.le_refl _) ?_
  show Wp fns (.seq (.reg [⟨some (.k1 .d1), none, .ldN tab.length (.c (.p 0 0))⟩, ⟨some (.k1 .d2), none, .pu2 (.eqA tab.length false) (.t (.k1 .d1)) (.c (.ag (tab.map (MV.i .u8))))⟩, ⟨some (.k1 .d0), none, .mov (.c (.b true))⟩]) (.cond (.t (.k1 .d2)) .ret .bad)) _ M _
  have hn : getN (ofL (tab.map (MV.i .u8)) 0) tab.length 0 = some (tab.map (MV.i .u8)) := by
    have := (at_ofL (tab.map (MV.i .u8))).getN
    rwa [List.length_map] at this
  simp only [Wp_seq_reg, Wl_op_iff, Wl_nil_iff, ev_ldN, ldN_w, ev_c, h0, ldNW_cs, hn, map_ag, o1_some, bindP_some, ev_pu2, setD_some, ev_set, if_true, puM_eqA, List.length_map, beq_self_eq_true, cond_true, cond_false, eqAg_self, ev_mov, Wp_cond_iff, Ky.k1.injEq, reduceCtorEq, if_false, condP_t, Wp_ret_iff, retQ_ret, show (Ftab tab).res = [.tmp (.k1 .d0)] from rfl, resL_1, res_set]
  exact ⟨rfl, trivial⟩
end Go.Proofs.Ytaagkdljkpbilaa.Ev
