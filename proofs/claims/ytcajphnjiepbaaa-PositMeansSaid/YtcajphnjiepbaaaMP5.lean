/-
  What the claim leans on, part 5: The library's ContainsFunc of a row of numbers. Conditions: none. The walk of posit.Takes goes on to places. Conditions: none. A step of posit.Takes. Conditions: none. The program's Takes. Conditions: none. The places of a pattern take just what the pattern takes, by what it is made of: paths over what is built. Conditions: none. What a part takes that may be repeated. Conditions: none. The places that are built of a pattern take what the pattern takes. Conditions: none. What Takes tells, by paths from place to place. Conditions: none. What Takes tells of the places of a pattern is what the pa
-/
import Derived.Test.YtcajphnjiepbaaaMP4
import Derived.Test.YtcajphnjiepbaaaMP3
set_option linter.unusedSimpArgs false
set_option linter.unusedVariables false
namespace Go.Proofs.Ytcajphnjiepbaaa.K
open Go Ev
set_option maxRecDepth 100000
set_option maxHeartbeats 4000000

def callvW (c : CallM) (M : MH) (v : MV) (l : List MV) : Option (MV × MH) := match v with
  | .fn (.func g) a d => c g (a ++ (l ++ d)) M
  | _ => none
theorem ev_callv (c : CallM) (f : Fr) (M : MH) (x : X) (l : List X) : Iop.ev c f M (.callv x l) = callvW c M (x.ev f) (l.map (X.ev f)) := rfl
theorem callv_fn (c : CallM) (M : MH) (g : Nat) (a d l : List MV) : callvW c M (.fn (.func g) a d) l = c g (a ++ (l ++ d)) M := rfl
theorem index_any {M : MH} {v : MV} {l : List Nat} {k : Nat} {px : MV} {p : Nat → Bool} (h : RowAt M 1 v (nv l)) (hl : l.length ≤ 9223372036854775807) (hP : ∀ M' z, Ext M M' → z ∈ l → Cp fns k [px, .i .i64 (z : Int)] M' fun m M'' => m = .b (p z) ∧ Ext M' M'') :
    Cp fns 50 [v, .fn (.func k) [px] []] M fun m M' => ∃ r, m = .i .i64 r ∧ decide (0 ≤ r) = l.any p ∧ Ext M M' := by
  obtain ⟨hs1, hs2⟩ := h.sl
  have hs2 : slen v = l.length := hs2.trans (nv_len l)
  refine Cp_call (fn := F50) (by kernel_rfl) (Nat.le_of_ble_eq_true rfl) ?_
  show Wp fns B50 (T.set q1 (some (.fn (.func k) [px] [])) (T.set q0 (some v) T.lf)) M _
  unfold B50
  simp (maxSteps := 4000000) (disch := first | omega | assumption | (simp only [bxS, bxV, stOk, Nat.reduceBEq, Nat.reduceEqDiff, Nat.reduceAdd]; done) | (simp only [bxU]; omega) | ((try apply has_setN); apply has_ofL; simp only [bxL]; omega)) only [↓bxD, bxP, bxQ, Nat.reduceBEq, reduceCtorEq, Nat.reduceAdd, Nat.reduceSub, Nat.reduceMul, Nat.reduceLeDiff, Nat.reduceLT, bxR, hs1, hs2]
  refine Wp_inv (σ := Nat) (fun i f M' => Ext M M' ∧ i ≤ l.length ∧ X.ev f (.t q0) = v ∧ X.ev f (.t q1) = .fn (.func k) [px] [] ∧ X.ev f (.t q7) = .i .i64 (l.length : Int) ∧ X.ev f (.t q8) = .i .i64 (i : Int) ∧ (l.take i).any p = false) (fun i => l.length - i) ?_ 0 ?_
  · rintro i f M' ⟨hx, hi, h0, h1, h7, h8, hc⟩
    simp only [q0, q1, q7, q8] at h0 h1 h7 h8
    unfold L50_2
    simp (maxSteps := 4000000) (disch := first | omega | assumption | (simp only [bxS, bxV, stOk, Nat.reduceBEq, Nat.reduceEqDiff, Nat.reduceAdd]; done) | (simp only [bxU]; omega) | ((try apply has_setN); apply has_ofL; simp only [bxL]; omega)) only [↓bxD, bxP, bxQ, Nat.reduceBEq, reduceCtorEq, Nat.reduceAdd, Nat.reduceSub, Nat.reduceMul, Nat.reduceLeDiff, Nat.reduceLT, bxR, hs1, hs2, h0, h1, h7, h8]
    refine condP_split (fun hlt => ?_) (fun hge => ?_)
    · have hi' : i < l.length := by omega
      obtain ⟨z, hz⟩ : ∃ z, l[i]? = some z := ⟨_, List.getElem?_eq_getElem hi'⟩
      obtain ⟨ro, s, t, hg, hid, hC⟩ := (h.ext hx).read (nv_at hz)
      have hC : cget t (soff v + i * 1) = some (.i .i64 (z : Int)) := hC 0 _ rfl
      have hall : l.any p = ((l.take (i + 1)).any p || (l.drop (i + 1)).any p) := by rw [← List.any_append, List.take_append_drop]
      have htk : (l.take (i + 1)).any p = p z := by rw [List.take_add_one, hz, List.any_append, hc]; simp
      simp (maxSteps := 4000000) (disch := first | omega | assumption | (simp only [bxS, bxV, stOk, Nat.reduceBEq, Nat.reduceEqDiff, Nat.reduceAdd]; done) | (simp only [bxU]; omega) | ((try apply has_setN); apply has_ofL; simp only [bxL]; omega)) only [↓bxD, bxP, bxQ, Nat.reduceBEq, reduceCtorEq, Nat.reduceAdd, Nat.reduceSub, Nat.reduceMul, Nat.reduceLeDiff, Nat.reduceLT, bxR, hs1, hs2, h0, h1, h7, h8, hg, hC, hi', ev_callv, callv_fn, List.nil_append, List.cons_append]
      show Wp fns K50_1 _ _ _
      unfold K50_1
      simp (maxSteps := 4000000) (disch := first | omega | assumption | (simp only [bxS, bxV, stOk, Nat.reduceBEq, Nat.reduceEqDiff, Nat.reduceAdd]; done) | (simp only [bxU]; omega) | ((try apply has_setN); apply has_ofL; simp only [bxL]; omega)) only [↓bxD, bxP, bxQ, Nat.reduceBEq, reduceCtorEq, Nat.reduceAdd, Nat.reduceSub, Nat.reduceMul, Nat.reduceLeDiff, Nat.reduceLT, bxR, hs1, hs2, h0, h1, h7, h8, hg, hC, hi', ev_callv, callv_fn, List.nil_append, List.cons_append]
      refine bindP_call (hP _ z hx (List.mem_of_getElem? hz)) ?_
      rintro m M2 ⟨rfl, hx2⟩
      simp (maxSteps := 4000000) (disch := first | omega | assumption | (simp only [bxS, bxV, stOk, Nat.reduceBEq, Nat.reduceEqDiff, Nat.reduceAdd]; done) | (simp only [bxU]; omega) | ((try apply has_setN); apply has_ofL; simp only [bxL]; omega)) only [↓bxD, bxP, bxQ, Nat.reduceBEq, reduceCtorEq, Nat.reduceAdd, Nat.reduceSub, Nat.reduceMul, Nat.reduceLeDiff, Nat.reduceLT, bxR, hs1, hs2, h0, h1, h7, h8, hg, hC, hi', ev_callv, callv_fn, List.nil_append, List.cons_append]
      cases hp : p z with
      | true =>
        simp (maxSteps := 4000000) (disch := first | omega | assumption | (simp only [bxS, bxV, stOk, Nat.reduceBEq, Nat.reduceEqDiff, Nat.reduceAdd]; done) | (simp only [bxU]; omega) | ((try apply has_setN); apply has_ofL; simp only [bxL]; omega)) only [↓bxD, bxP, bxQ, Nat.reduceBEq, reduceCtorEq, Nat.reduceAdd, Nat.reduceSub, Nat.reduceMul, Nat.reduceLeDiff, Nat.reduceLT, bxR, hs1, hs2, h0, h1, h7, h8, hg, hC, hi', ev_callv, callv_fn, List.nil_append, List.cons_append, hp]
        refine ⟨i, rfl, ?_, hx.trans hx2⟩
        rw [hall, htk, hp, Bool.true_or]
        exact decide_eq_true (by omega)
      | false =>
        simp (maxSteps := 4000000) (disch := first | omega | assumption | (simp only [bxS, bxV, stOk, Nat.reduceBEq, Nat.reduceEqDiff, Nat.reduceAdd]; done) | (simp only [bxU]; omega) | ((try apply has_setN); apply has_ofL; simp only [bxL]; omega)) only [↓bxD, bxP, bxQ, Nat.reduceBEq, reduceCtorEq, Nat.reduceAdd, Nat.reduceSub, Nat.reduceMul, Nat.reduceLeDiff, Nat.reduceLT, bxR, hs1, hs2, h0, h1, h7, h8, hg, hC, hi', ev_callv, callv_fn, List.nil_append, List.cons_append, hp]
        show Wp fns K50_0 _ _ _
        unfold K50_0
        simp (maxSteps := 4000000) (disch := first | omega | assumption | (simp only [bxS, bxV, stOk, Nat.reduceBEq, Nat.reduceEqDiff, Nat.reduceAdd]; done) | (simp only [bxU]; omega) | ((try apply has_setN); apply has_ofL; simp only [bxL]; omega)) only [↓bxD, bxP, bxQ, Nat.reduceBEq, reduceCtorEq, Nat.reduceAdd, Nat.reduceSub, Nat.reduceMul, Nat.reduceLeDiff, Nat.reduceLT, bxR, hs1, hs2, h0, h1, h7, h8, hg, hC, hi', ev_callv, callv_fn, List.nil_append, List.cons_append]
        exact ⟨i + 1, by omega, hx.trans hx2, by omega, rfl, by rw [htk, hp]⟩
    · have hi' : i = l.length := by omega
      subst hi'
      rw [List.take_length] at hc
      simp (maxSteps := 4000000) (disch := first | omega | assumption | (simp only [bxS, bxV, stOk, Nat.reduceBEq, Nat.reduceEqDiff, Nat.reduceAdd]; done) | (simp only [bxU]; omega) | ((try apply has_setN); apply has_ofL; simp only [bxL]; omega)) only [↓bxD, bxP, bxQ, Nat.reduceBEq, reduceCtorEq, Nat.reduceAdd, Nat.reduceSub, Nat.reduceMul, Nat.reduceLeDiff, Nat.reduceLT, bxR, hs1, hs2, h0, h1, h7, h8]
      show Wp fns K50_3 _ _ _
      unfold K50_3
      simp (maxSteps := 4000000) (disch := first | omega | assumption | (simp only [bxS, bxV, stOk, Nat.reduceBEq, Nat.reduceEqDiff, Nat.reduceAdd]; done) | (simp only [bxU]; omega) | ((try apply has_setN); apply has_ofL; simp only [bxL]; omega)) only [↓bxD, bxP, bxQ, Nat.reduceBEq, reduceCtorEq, Nat.reduceAdd, Nat.reduceSub, Nat.reduceMul, Nat.reduceLeDiff, Nat.reduceLT, bxR, hs1, hs2, h0, h1, h7, h8, R50, pack1]
      exact ⟨-1, rfl, by rw [hc]; rfl, hx⟩
  · exact ⟨.refl _, Nat.zero_le _, by simp only [bxP, bxQ, reduceCtorEq, hs1, hs2], by simp only [bxP, bxQ, reduceCtorEq, hs1, hs2], by simp only [bxP, bxQ, reduceCtorEq, hs1, hs2], by simp only [bxP, bxQ, reduceCtorEq, hs1, hs2] <;> rfl, rfl⟩
theorem contains_any {M : MH} {v : MV} {l : List Nat} {k : Nat} {px : MV} {p : Nat → Bool} (h : RowAt M 1 v (nv l)) (hl : l.length ≤ 9223372036854775807) (hP : ∀ M' z, Ext M M' → z ∈ l → Cp fns k [px, .i .i64 (z : Int)] M' fun m M'' => m = .b (p z) ∧ Ext M' M'') :
    Cp fns 27 [v, .fn (.func k) [px] []] M fun m M' => m = .b (l.any p) ∧ Ext M M' := by
  refine Cp_call (fn := F27) (by kernel_rfl) (Nat.le_of_ble_eq_true rfl) ?_
  show Wp fns B27 (T.set q1 (some (.fn (.func k) [px] [])) (T.set q0 (some v) T.lf)) M _
  unfold B27
  simp (maxSteps := 4000000) (disch := first | omega | assumption | (simp only [bxS, bxV, stOk, Nat.reduceBEq, Nat.reduceEqDiff, Nat.reduceAdd]; done) | (simp only [bxU]; omega) | ((try apply has_setN); apply has_ofL; simp only [bxL]; omega)) only [↓bxD, bxP, bxQ, Nat.reduceBEq, reduceCtorEq, Nat.reduceAdd, Nat.reduceSub, Nat.reduceMul, Nat.reduceLeDiff, Nat.reduceLT, bxR]
  refine bindP_call (index_any h hl hP) ?_
  rintro m M2 ⟨r, rfl, hr, hx⟩
  simp (maxSteps := 4000000) (disch := first | omega | assumption | (simp only [bxS, bxV, stOk, Nat.reduceBEq, Nat.reduceEqDiff, Nat.reduceAdd]; done) | (simp only [bxU]; omega) | ((try apply has_setN); apply has_ofL; simp only [bxL]; omega)) only [↓bxD, bxP, bxQ, Nat.reduceBEq, reduceCtorEq, Nat.reduceAdd, Nat.reduceSub, Nat.reduceMul, Nat.reduceLeDiff, Nat.reduceLT, bxR]
  exact ⟨by rw [hr], hx⟩
def hasA (sets : List (List MV)) (c i : Nat) : Bool := match sets[i]? with
  | some s => hasS s c
  | none => false
def ent1 (sets : List (List MV)) (c k : Nat) (s : List Nat × List Nat) (i : Nat) : List Nat × List Nat := if i < s.1.length ∧ s.1[i]? ≠ some k ∧ hasA sets c i = true then (s.1.set i k, s.2 ++ [i]) else s
def entP (sets : List (List MV)) (c k : Nat) (s : List Nat × List Nat) (l : List Nat) : List Nat × List Nat := l.foldl (ent1 sets c k) s
theorem entP_take {sets : List (List MV)} {c k : Nat} {s : List Nat × List Nat} {l : List Nat} {i z : Nat} (h : l[i]? = some z) : entP sets c k s (l.take (i + 1)) = ent1 sets c k (entP sets c k s (l.take i)) z := by
  unfold entP
  rw [List.take_add_one, h, List.foldl_append]
  rfl
theorem ent1_len (sets : List (List MV)) (c k : Nat) (s : List Nat × List Nat) (i : Nat) : (ent1 sets c k s i).1.length = s.1.length ∧ s.2.length ≤ (ent1 sets c k s i).2.length ∧ (ent1 sets c k s i).2.length ≤ s.2.length + 1 := by
  unfold ent1
  split
  · simp
  · omega
theorem entP_len (sets : List (List MV)) (c k : Nat) : ∀ (l : List Nat) (s : List Nat × List Nat), (entP sets c k s l).1.length = s.1.length ∧ (entP sets c k s l).2.length ≤ s.2.length + l.length
  | [], s => ⟨rfl, Nat.le_add_right _ _⟩
  | i :: l, s => by
    have h1 := ent1_len sets c k s i
    have h2 := entP_len sets c k l (ent1 sets c k s i)
    show (entP sets c k (ent1 sets c k s i) l).1.length = _ ∧ (entP sets c k (ent1 sets c k s i) l).2.length ≤ _
    rw [List.length_cons]
    omega
theorem countP_set : ∀ {l : List Nat} {i y k : Nat}, l[i]? = some y → y ≠ k → (l.set i k).countP (· == k) = l.countP (· == k) + 1
  | [], _, _, _, h, _ => by simp at h
  | a :: l, 0, y, k, h, hy => by
    simp only [List.getElem?_cons_zero, Option.some.injEq] at h
    subst h
    rw [List.set_cons_zero, List.countP_cons, List.countP_cons]
    simp [hy]
  | a :: l, i + 1, y, k, h, hy => by
    rw [List.getElem?_cons_succ] at h
    rw [List.set_cons_succ, List.countP_cons, List.countP_cons, countP_set h hy]
    omega
def Cnt (k : Nat) (s : List Nat × List Nat) : Prop := s.2.length = s.1.countP (· == k)
theorem ent1_cnt {sets : List (List MV)} {c k : Nat} {s : List Nat × List Nat} {i : Nat} (h : Cnt k s) : Cnt k (ent1 sets c k s i) := by
  unfold ent1
  split
  · rename_i hh
    obtain ⟨y, hy⟩ : ∃ y, s.1[i]? = some y := ⟨_, List.getElem?_eq_getElem hh.1⟩
    show (s.2 ++ [i]).length = (s.1.set i k).countP (· == k)
    rw [countP_set hy (fun e => hh.2.1 (by rw [hy, e])), List.length_append]
    show s.2.length + 1 = _
    rw [show s.2.length = _ from h]
  · exact h
theorem entP_cnt {sets : List (List MV)} {c k : Nat} : ∀ {l : List Nat} {s : List Nat × List Nat}, Cnt k s → Cnt k (entP sets c k s l)
  | [], _, h => h
  | i :: l, s, h => by
    show Cnt k (entP sets c k (ent1 sets c k s i) l)
    exact entP_cnt (ent1_cnt h)
theorem Cnt.le {k : Nat} {s : List Nat × List Nat} (h : Cnt k s) : s.2.length ≤ s.1.length := by
  rw [show s.2.length = _ from h]; exact List.countP_le_length
theorem WS.more {M0 M M' : MH} {wx : Nat} {ps : List MV} {tv : MV} {k : Nat} {tk nw : List Nat} {nowv spv : MV} (h : WS M0 M wx ps tv k tk nw nowv spv) (hx : Ext M M') : WS M0 M' wx ps tv k tk nw nowv spv where
  ext := h.ext.trans hx
  lo := h.lo
  w0 := h.w0
  w1 := Nat.lt_of_lt_of_le h.w1 hx.n
  ps5 := h.ps5
  cell := by
    obtain ⟨c, h1, h2⟩ := h.cell
    exact ⟨c, (hx.old _ h.w1).trans h1, h2⟩
  T := h.T.ext hx
  N := h.N.ext hx
  dT := h.dT
  dN := h.dN
structure Beside (M M' : MH) (wx : Nat) (tv nowv nowv' : MV) : Prop where
  n : M.n ≤ M'.n
  v : nowv' = nowv ∨ ∃ a b n d, nowv' = .sl a b n d ∧ M.n ≤ a
  old : ∀ j, j < M.n → j ≠ wx → (∀ a b n d, tv = .sl a b n d → a ≠ j) → (∀ a b n d, nowv = .sl a b n d → a ≠ j) → M'.get j = M.get j
theorem Beside.refl (M : MH) (wx : Nat) (tv nowv : MV) : Beside M M wx tv nowv nowv := ⟨Nat.le_refl _, .inl rfl, fun _ _ _ _ _ => rfl⟩
theorem Beside.trans {a b c : MH} {wx : Nat} {tv nu nv3 w : MV} (h : Beside a b wx tv nu nv3) (k : Beside b c wx tv nv3 w) : Beside a c wx tv nu w where
  n := Nat.le_trans h.n k.n
  v := by
    rcases k.v with k1 | ⟨x, y, n, d, k1, k2⟩
    · rw [k1]; exact h.v
    · exact .inr ⟨x, y, n, d, k1, Nat.le_trans h.n k2⟩
  old := fun j hj h1 h2 h3 => (k.old j (Nat.lt_of_lt_of_le hj h.n) h1 h2 (fun x y n d e => by
    rcases h.v with h4 | ⟨x', y', n', d', h4, h5⟩
    · exact h3 x y n d (h4 ▸ e)
    · rw [h4] at e
      injection e with e1
      omega)).trans (h.old j hj h1 h2 h3)
theorem Beside.more {a b c : MH} {wx : Nat} {tv nu nv3 : MV} (h : Beside a b wx tv nu nv3) (k : Ext b c) : Beside a c wx tv nu nv3 where
  n := Nat.le_trans h.n k.n
  v := h.v
  old := fun j hj h1 h2 h3 => (k.old j (Nat.lt_of_lt_of_le hj h.n)).trans (h.old j hj h1 h2 h3)
theorem nv_set (l : List Nat) (z k : Nat) : nv (l.set z k) = (nv l).set z [.i .i64 (k : Int)] := by
  unfold nv
  rw [List.map_set]
theorem WS.put {M0 M : MH} {wx : Nat} {ps : List MV} {tv : MV} {k : Nat} {tk nw : List Nat} {nowv spv : MV} (h : WS M0 M wx ps tv k tk nw nowv spv) {tid z : Nat} {ct : Ev.T MV} (htv : tv = .sl tid 0 (nv tk).length 0) (hg : M.get tid = some (.cs false 1 ct)) (hl : M0.n ≤ tid) (hn : tid < M.n) (hA : At ct 0 (nv tk).flatten) (hz : z < tk.length) {M' : MH} (hM : M.set tid (some (.cs false 1 (setN [.i .i64 (k : Int)] (z * 1) ct))) = M') : WS M0 M' wx ps tv k (tk.set z k) nw nowv spv ∧ Beside M M' wx tv nowv nowv := by
  subst hM
  have hw := h.dT _ _ _ _ htv
  obtain ⟨y, hy⟩ : ∃ y, tk[z]? = some y := ⟨_, List.getElem?_eq_getElem hz⟩
  refine ⟨⟨h.ext.set _ hl, h.lo, h.w0, h.w1, h.ps5, ?_, ?_, ?_, h.dT, h.dN⟩, Nat.le_refl _, .inl rfl, fun j hj h1 h2 h3 => set_ne (fun e => h2 _ _ _ _ htv e.symm)⟩
  · obtain ⟨c, h1, h2⟩ := h.cell
    exact ⟨c, (set_ne (fun e => hw e.symm)).trans h1, h2⟩
  · rw [nv_set]
    refine ⟨h.T.1.set z rfl, .inr ⟨tid, _, ?_, set_same _ _, hl, hn, hA.elem_set (sz := 1) (o := 0) h.T.1 (nv_at hy) (by omega) rfl⟩⟩
    rw [htv, List.length_set]
  · exact h.N.keep (Nat.le_refl _) fun a b n d e => set_ne ((h.dN a b n d e).2 _ _ _ _ htv)
theorem WS.now {M0 M M6 : MH} {wx : Nat} {ps : List MV} {tv : MV} {k : Nat} {tk nw : List Nat} {nowv spv v' : MV} (h : WS M0 M wx ps tv k tk nw nowv spv) {z n6 : Nat} {c : Ev.T MV} (hg : M6.get wx = some (.cs false 9 c)) (hA : At c 0 (ps ++ [.i .i64 (k : Int), nowv, spv, tv])) (hN : OwnRow M0.n M6 1 v' (nv nw ++ [[.i .i64 (z : Int)]])) (hn : M.n ≤ M6.n) (hlo : M6.lo = M.lo) (hold : ∀ j, j < M.n → (∀ a b n d, nowv = .sl a b n d → a ≠ j) → M6.get j = M.get j) (hold0 : ∀ j, j < M0.n → j < M.n → M6.get j = M.get j) (hv : v' = .sl M.n 0 n6 0) {M' : MH} (hM : M6.set wx (some (.cs false 9 (setN [v'] 6 c))) = M') : WS M0 M' wx ps tv k tk (nw ++ [z]) v' spv ∧ Beside M M' wx tv nowv v' := by
  subst hM
  have h5 := h.ps5
  have hw0 := h.w0
  have hw1 := h.w1
  have hen := h.ext.n
  refine ⟨⟨⟨by show M0.n ≤ M6.n; omega, by show M6.lo = M0.lo; rw [hlo]; exact h.ext.lo, fun j hj => ?_⟩, h.lo, h.w0, by show wx < M6.n; omega, h5, ?_, ?_, ?_, h.dT, ?_⟩, hn, .inr ⟨_, _, _, _, hv, Nat.le_refl _⟩, fun j hj h1 h2 h3 => ?_⟩
  · rw [set_ne (by omega), hold0 j hj (by omega)]
    exact h.ext.old j hj
  · refine ⟨_, set_same _ _, ?_⟩
    have := hA.set' (k := 6) 6 v' (by rw [List.length_append, h5]; show 6 < 5 + 4; omega) rfl
    rw [List.set_append_right _ _ (by omega), h5] at this
    exact this
  · refine (h.T.keep (M' := M6.set wx _) hn fun a b n d e => ?_)
    have ha := h.dT _ _ _ _ e
    rw [set_ne ha]
    obtain ⟨_, ⟨e1, _⟩ | ⟨tid, ct, e1, _, _, e4, _⟩⟩ := h.T
    · rw [e1] at e; cases e
    · rw [e1] at e
      injection e with e
      subst e
      exact hold _ e4 fun a' b' n' d' e' => (h.dN _ _ _ _ e').2 _ _ _ _ e1
  · rw [nv_app]
    refine hN.keep (Nat.le_refl _) fun a b n d e => set_ne ?_
    rw [hv] at e
    injection e with e
    omega
  · intro a b n d e
    rw [hv] at e
    injection e with e
    refine ⟨by omega, fun a' b' n' d' e' => ?_⟩
    obtain ⟨_, ⟨e1, _⟩ | ⟨tid, ct, e1, _, _, e4, _⟩⟩ := h.T
    · rw [e1] at e'; cases e'
    · rw [e1] at e'
      injection e' with e'
      omega
  · rw [set_ne h1]
    exact hold j hj h3
theorem enter_any {M0 M : MH} {wx : Nat} {vs bn vf vl vo tv : MV} {k : Nat} {tk nw : List Nat} {nowv spv : MV} {sets : List (List MV)} {l : List Nat} {lv : MV} {e : Nat} (h : WS M0 M wx [vs, bn, vf, vl, vo] tv k tk nw nowv spv) (hS : RowAt M0 4 vs sets) (h4 : ∀ s ∈ sets, ∃ a b c d, s = st4 a b c d) (hlen : tk.length = sets.length) (hL : RowAt M0 1 lv (nv l)) (hb : nw.length + l.length ≤ 1000000) (hk : k ≤ 1000000) (he : e < 256) :
    Cp fns 49 [.p wx 0, lv, .i .u8 (e : Int)] M fun _ M' => ∃ nowv', WS M0 M' wx [vs, bn, vf, vl, vo] tv k (entP sets e k (tk, nw) l).1 (entP sets e k (tk, nw) l).2 nowv' spv ∧ Beside M M' wx tv nowv nowv' := by
  obtain ⟨hs1, hs2⟩ := hL.sl
  have hs2 : slen lv = l.length := hs2.trans (nv_len l)
  refine Cp_call (fn := F49) (by kernel_rfl) (Nat.le_of_ble_eq_true rfl) ?_
  show Wp fns B49 (T.set q2 (some (.i .u8 (e : Int))) (T.set q1 (some lv) (T.set q0 (some (.p wx 0)) T.lf))) M _
  unfold B49
  simp (maxSteps := 4000000) (disch := first | omega | assumption | (simp only [bxS, bxV, stOk, Nat.reduceBEq, Nat.reduceEqDiff, Nat.reduceAdd]; done) | (simp only [bxU]; omega) | ((try apply has_setN); apply has_ofL; simp only [bxL]; omega)) only [↓bxD, bxP, bxQ, Nat.reduceBEq, reduceCtorEq, Nat.reduceAdd, Nat.reduceSub, Nat.reduceMul, Nat.reduceLeDiff, Nat.reduceLT, bxR, hs1, hs2]
  refine Wp_inv (σ := Nat) (fun i f M' => i ≤ l.length ∧ X.ev f (.t q0) = .p wx 0 ∧ X.ev f (.t q2) = .i .u8 (e : Int) ∧ X.ev f (.t q8) = lv ∧ X.ev f (.t q9) = .i .i64 (l.length : Int) ∧ X.ev f (.t q10) = .i .i64 (i : Int) ∧ ∃ nowv', WS M0 M' wx [vs, bn, vf, vl, vo] tv k (entP sets e k (tk, nw) (l.take i)).1 (entP sets e k (tk, nw) (l.take i)).2 nowv' spv ∧ Beside M M' wx tv nowv nowv') (fun i => l.length - i) ?_ 0 ?_
  · rintro i f M1 ⟨hi, h0, h2, h8, h9, h10, nv1, hW, hB⟩
    simp only [q0, q2, q8, q9, q10] at h0 h2 h8 h9 h10
    unfold L49_3
    simp (maxSteps := 4000000) (disch := first | omega | assumption | (simp only [bxS, bxV, stOk, Nat.reduceBEq, Nat.reduceEqDiff, Nat.reduceAdd]; done) | (simp only [bxU]; omega) | ((try apply has_setN); apply has_ofL; simp only [bxL]; omega)) only [↓bxD, bxP, bxQ, Nat.reduceBEq, reduceCtorEq, Nat.reduceAdd, Nat.reduceSub, Nat.reduceMul, Nat.reduceLeDiff, Nat.reduceLT, bxR, hs1, hs2, h0, h2, h8, h9, h10]
    refine condP_split (fun hlt => ?_) (fun hge => ?_)
    · have hi' : i < l.length := by omega
      obtain ⟨z, hz⟩ : ∃ z, l[i]? = some z := ⟨_, List.getElem?_eq_getElem hi'⟩
      obtain ⟨ro, s, t, hg, hid, hC⟩ := (hL.ext hW.ext).read (nv_at hz)
      have hC : cget t (soff lv + i * 1) = some (.i .i64 (z : Int)) := hC 0 _ rfl
      have htk := entP_take (sets := sets) (c := e) (k := k) (s := (tk, nw)) hz
      have hl1 := entP_len sets e k (l.take i) (tk, nw)
      rw [List.length_take] at hl1
      generalize hE : entP sets e k (tk, nw) (l.take i) = E at hW htk hl1
      obtain ⟨tk1, nw1⟩ := E
      have hW : WS M0 M1 wx [vs, bn, vf, vl, vo] tv k tk1 nw1 nv1 spv := hW
      have hl1 : tk1.length = tk.length ∧ nw1.length ≤ nw.length + min i l.length := hl1
      obtain ⟨c, hg1, hA1, c5, c6, c7, c8⟩ := hW.at5
      obtain ⟨ts1, ts2⟩ := hW.T.row.sl
      have ts2 : slen tv = tk1.length := ts2.trans (nv_len _)
      have hx1 := hW.ext
      have hlo1 : M1.lo ≤ M1.n := by have := hx1.lo; have := hx1.n; have := hW.lo; omega
      have hi10 : wrapF .i64 ((i : Int) + 1) = ((i + 1 : Nat) : Int) := by rw [wrap_in (by omega) (by omega)]; rfl
      simp (maxSteps := 4000000) (disch := first | omega | assumption | (simp only [bxS, bxV, stOk, Nat.reduceBEq, Nat.reduceEqDiff, Nat.reduceAdd]; done) | (simp only [bxU]; omega) | ((try apply has_setN); apply has_ofL; simp only [bxL]; omega)) only [↓bxD, bxP, bxQ, Nat.reduceBEq, reduceCtorEq, Nat.reduceAdd, Nat.reduceSub, Nat.reduceMul, Nat.reduceLeDiff, Nat.reduceLT, bxR, hs1, hs2, h0, h2, h8, h9, h10, hg, hC, hi']
      show Wp fns K49_2 _ _ _
      unfold K49_2
      simp (maxSteps := 4000000) (disch := first | omega | assumption | (simp only [bxS, bxV, stOk, Nat.reduceBEq, Nat.reduceEqDiff, Nat.reduceAdd]; done) | (simp only [bxU]; omega) | ((try apply has_setN); apply has_ofL; simp only [bxL]; omega)) only [↓bxD, bxP, bxQ, Nat.reduceBEq, reduceCtorEq, Nat.reduceAdd, Nat.reduceSub, Nat.reduceMul, Nat.reduceLeDiff, Nat.reduceLT, bxR, hs1, hs2, h0, h2, h8, h9, h10, hg, hC, hi']
      refine bindP_call (isPlace_any hg1 c8 ts1 ts2) ?_
      rintro m M2 ⟨rfl, rfl⟩
      have hno : ∀ M', Ext M2 M' → ent1 sets e k (tk1, nw1) z = (tk1, nw1) → ∃ nowv', WS M0 M' wx [vs, bn, vf, vl, vo] tv k (entP sets e k (tk, nw) (l.take (i + 1))).1 (entP sets e k (tk, nw) (l.take (i + 1))).2 nowv' spv ∧ Beside M M' wx tv nowv nowv' := fun M' hx he => by
        rw [htk, he]; exact ⟨nv1, hW.more hx, hB.more hx⟩
      by_cases hz1 : z < tk1.length
      · have hd : decide (z < tk1.length) = true := decide_eq_true hz1
        simp (maxSteps := 4000000) (disch := first | omega | assumption | (simp only [bxS, bxV, stOk, Nat.reduceBEq, Nat.reduceEqDiff, Nat.reduceAdd]; done) | (simp only [bxU]; omega) | ((try apply has_setN); apply has_ofL; simp only [bxL]; omega)) only [↓bxD, bxP, bxQ, Nat.reduceBEq, reduceCtorEq, Nat.reduceAdd, Nat.reduceSub, Nat.reduceMul, Nat.reduceLeDiff, Nat.reduceLT, bxR, h0, h2, h8, h9, h10, hd]
        refine bindP_call (isAt_any hlo1 hg1 hW.w1 c5 c8 hW.T.row) ?_
        rintro m M3 ⟨rfl, hx3⟩
        by_cases hz2 : tk1[z]? = some k
        · have hd2 : decide (tk1[z]? = some k) = true := decide_eq_true hz2
          simp (maxSteps := 4000000) (disch := first | omega | assumption | (simp only [bxS, bxV, stOk, Nat.reduceBEq, Nat.reduceEqDiff, Nat.reduceAdd]; done) | (simp only [bxU]; omega) | ((try apply has_setN); apply has_ofL; simp only [bxL]; omega)) only [↓bxD, bxP, bxQ, Nat.reduceBEq, reduceCtorEq, Nat.reduceAdd, Nat.reduceSub, Nat.reduceMul, Nat.reduceLeDiff, Nat.reduceLT, bxR, h0, h2, h8, h9, h10, hd, hd2]
          show Wp fns K49_1 _ _ _
          unfold K49_1
          simp (maxSteps := 4000000) (disch := first | omega | assumption | (simp only [bxS, bxV, stOk, Nat.reduceBEq, Nat.reduceEqDiff, Nat.reduceAdd]; done) | (simp only [bxU]; omega) | ((try apply has_setN); apply has_ofL; simp only [bxL]; omega)) only [↓bxD, bxP, bxQ, Nat.reduceBEq, reduceCtorEq, Nat.reduceAdd, Nat.reduceSub, Nat.reduceMul, Nat.reduceLeDiff, Nat.reduceLT, bxR, h0, h2, h8, h9, h10, hd, hd2]
          refine ⟨i + 1, by omega, by omega, rfl, hno _ hx3 ?_⟩
          unfold ent1
          rw [if_neg (fun hh => hh.2.1 hz2)]
        · have hd2 : decide (tk1[z]? = some k) = false := decide_eq_false hz2
          have hg3 : M3.get wx = some (.cs false 9 c) := (hx3.old _ hW.w1).trans hg1
          have c0 : cget c 0 = some vs := hA1 0 _ rfl
          have hlt4 : tk1.length = sets.length := hl1.1.trans hlen
          obtain ⟨s4, hs4⟩ : ∃ s4, sets[z]? = some s4 := ⟨_, List.getElem?_eq_getElem (by omega)⟩
          obtain ⟨a1, a2, a3, a4, rfl⟩ := h4 s4 (List.mem_of_getElem? hs4)
          obtain ⟨ss1, ss2⟩ := hS.sl
          obtain ⟨ro4, sz4, t4, hg4, _, hA4⟩ := (hS.ext (hx1.trans hx3)).read hs4
          have hN4 : getN t4 4 (soff vs + z * 4) = some (st4 a1 a2 a3 a4) := hA4.getN
          have hz4 : z < sets.length := by omega
          have hlo3 : M3.lo ≤ M3.n := by have := hx3.lo; have := hx3.n; omega
          simp (maxSteps := 4000000) (disch := first | omega | assumption | (simp only [bxS, bxV, stOk, Nat.reduceBEq, Nat.reduceEqDiff, Nat.reduceAdd]; done) | (simp only [bxU]; omega) | ((try apply has_setN); apply has_ofL; simp only [bxL]; omega)) only [↓bxD, bxP, bxQ, Nat.reduceBEq, reduceCtorEq, Nat.reduceAdd, Nat.reduceSub, Nat.reduceMul, Nat.reduceLeDiff, Nat.reduceLT, bxR, h0, h2, h8, h9, h10, hd, hd2, hg3, c0, ss1, ss2, hg4, hN4, hz4, nck_p, map_ag]
          refine bindP_call (hasByte he hlo3) ?_
          rintro m M4 ⟨rfl, hx4⟩
          have hhas : hasA sets e z = hasS (st4 a1 a2 a3 a4) e := by unfold hasA; rw [hs4]
          cases hq : hasS (st4 a1 a2 a3 a4) e with
          | false =>
            simp (maxSteps := 4000000) (disch := first | omega | assumption | (simp only [bxS, bxV, stOk, Nat.reduceBEq, Nat.reduceEqDiff, Nat.reduceAdd]; done) | (simp only [bxU]; omega) | ((try apply has_setN); apply has_ofL; simp only [bxL]; omega)) only [↓bxD, bxP, bxQ, Nat.reduceBEq, reduceCtorEq, Nat.reduceAdd, Nat.reduceSub, Nat.reduceMul, Nat.reduceLeDiff, Nat.reduceLT, bxR, h0, h2, h8, h9, h10, hd, hd2, hq]
            show Wp fns K49_1 _ _ _
            unfold K49_1
            simp (maxSteps := 4000000) (disch := first | omega | assumption | (simp only [bxS, bxV, stOk, Nat.reduceBEq, Nat.reduceEqDiff, Nat.reduceAdd]; done) | (simp only [bxU]; omega) | ((try apply has_setN); apply has_ofL; simp only [bxL]; omega)) only [↓bxD, bxP, bxQ, Nat.reduceBEq, reduceCtorEq, Nat.reduceAdd, Nat.reduceSub, Nat.reduceMul, Nat.reduceLeDiff, Nat.reduceLT, bxR, h0, h2, h8, h9, h10, hd, hd2, hq]
            refine ⟨i + 1, by omega, by omega, rfl, hno _ (hx3.trans hx4) ?_⟩
            unfold ent1
            rw [if_neg (fun hh => by have := hh.2.2; rw [hhas, hq] at this; cases this)]
          | true =>
            have hW4 := hW.more (hx3.trans hx4)
            have hg4x : M4.get wx = some (.cs false 9 c) := (hx4.old _ (by have := hx3.n; have := hW.w1; omega)).trans hg3
            have hx14 := hW4.ext
            have hlo4 : M4.lo ≤ M4.n := by have := hx4.lo; have := hx4.n; omega
            obtain ⟨y, hy⟩ : ∃ y, tk1[z]? = some y := ⟨_, List.getElem?_eq_getElem hz1⟩
            obtain ⟨tid, ct, htv, gt, tl1, tl2, tA⟩ : ∃ tid ct, tv = .sl tid 0 (nv tk1).length 0 ∧ M4.get tid = some (.cs false 1 ct) ∧ M0.n ≤ tid ∧ tid < M4.n ∧ At ct 0 (nv tk1).flatten := by
              obtain ⟨_, ⟨_, hn⟩ | ⟨tid, ct, q⟩⟩ := hW4.T
              · have := nv_at hy; rw [hn] at this; simp at this
              · exact ⟨tid, ct, q⟩
            have hsid : sid tv = tid := by rw [htv]; rfl
            have hoff : soff tv = 0 := by rw [htv]; rfl
            have hM0 := hW.lo
            have hl04 := hx14.lo
            have hb1 : hasB ct 1 (z * 1) = true := has_at tA (Nat.zero_le _) (by have hz1 := hW4.T.1; rw [hW4.T.1.flat, nv_len]; omega)
            simp (maxSteps := 4000000) (disch := first | omega | assumption | (simp only [bxS, bxV, stOk, Nat.reduceBEq, Nat.reduceEqDiff, Nat.reduceAdd]; done) | (simp only [bxU]; omega) | ((try apply has_setN); apply has_ofL; simp only [bxL]; omega)) only [↓bxD, bxP, bxQ, Nat.reduceBEq, reduceCtorEq, Nat.reduceAdd, Nat.reduceSub, Nat.reduceMul, Nat.reduceLeDiff, Nat.reduceLT, bxR, h0, h2, h8, h9, h10, hd, hd2, hq, hg4x, c5, c8, ts1, ts2, hsid, hoff, gt, hb1, nck_p, Nat.zero_add, cells_i]
            refine Wp_dreg_of hlo4 ?_
            simp (maxSteps := 4000000) (disch := first | omega | assumption | (simp only [bxS, bxV, stOk, Nat.reduceBEq, Nat.reduceEqDiff, Nat.reduceAdd]; done) | (simp only [bxU]; omega) | ((try apply has_setN); apply has_ofL; simp only [bxL]; omega)) only [↓bxD, bxP, bxQ, Nat.reduceBEq, reduceCtorEq, Nat.reduceAdd, Nat.reduceSub, Nat.reduceMul, Nat.reduceLeDiff, Nat.reduceLT, bxR, h0, h2, h8, h9, h10, hd, hd2, hq, hg4x, c5, c8, ts1, ts2, hsid, hoff, gt, hb1, nck_p, Nat.zero_add, cells_i]
            generalize hM5 : MH.set _ _ _ = M5
            obtain ⟨hW5, hB5⟩ := hW4.put htv gt tl1 tl2 tA hz1 hM5
            clear hM5
            obtain ⟨c', hg5, hA5, d5, d6, d7, d8⟩ := hW5.at5
            have hx5 := hW5.ext
            have hlo5 : M5.lo ≤ M5.n := by have := hx5.lo; have := hx5.n; omega
            show Wp fns K49_0 _ _ _
            unfold K49_0
            simp (maxSteps := 4000000) (disch := first | omega | assumption | (simp only [bxS, bxV, stOk, Nat.reduceBEq, Nat.reduceEqDiff, Nat.reduceAdd]; done) | (simp only [bxU]; omega) | ((try apply has_setN); apply has_ofL; simp only [bxL]; omega)) only [↓bxD, bxP, bxQ, Nat.reduceBEq, reduceCtorEq, Nat.reduceAdd, Nat.reduceSub, Nat.reduceMul, Nat.reduceLeDiff, Nat.reduceLT, bxR, h0, h2, h8, h9, h10, hd, hd2, hq, hg4x, c5, c8, ts1, ts2, hsid, hoff, gt, hb1, nck_p, Nat.zero_add, cells_i]
            simp (maxSteps := 4000000) (disch := first | omega | assumption | (simp only [bxS, bxV, stOk, Nat.reduceBEq, Nat.reduceEqDiff, Nat.reduceAdd]; done) | (simp only [bxU]; omega) | ((try apply has_setN); apply has_ofL; simp only [bxL]; omega)) only [↓bxD, bxP, bxQ, Nat.reduceBEq, reduceCtorEq, Nat.reduceAdd, Nat.reduceSub, Nat.reduceMul, Nat.reduceLeDiff, Nat.reduceLT, bxR, h0, h2, h8, h9, h10, hd, hd2, hq, hg5, d5, d6, nck_p, Nat.zero_add, cells_i]
            have hWp := hW5.more (.push M5 (.cs false 1 (ofL [MV.i IntKind.i64 (z : Int)] 0)))
            have hBp := (hB.more (hx3.trans hx4)).trans (hB5.more (.push M5 (.cs false 1 (ofL [MV.i IntKind.i64 (z : Int)] 0))))
            have hlp := hWp.ext.lo
            have hnp := hWp.ext.n
            obtain ⟨v6, M6, a1, a2, a3, a4, a5, a6, a7⟩ := app_rowX (bytes := 8) hWp.N (row_one (M := M5) (sz := 1) (e := [MV.i .i64 (z : Int)]) rfl) (by omega) hnp (by simp [allOne, one_i]) (by rw [nv_len]; show (nw1.length + 1) * 8 ≤ _; omega) (by rw [nv_len]; show nw1.length + 1 ≤ _; omega)
            obtain ⟨n6, a7⟩ := a7 (by simp)
            refine bindP_of a1 ?_
            have hg6 : M6.get wx = some (.cs false 9 c') := (a5 wx hWp.w1 (fun a b n d e => (hWp.dN _ _ _ _ e).1)).trans ((push_old hW5.w1).trans hg5)
            have hb6 : hasB c' 1 6 = true := has_at hA5 (Nat.zero_le _) (by simp)
            have hc6 : MV.cells v6 = [v6] := by rw [a7]; rfl
            have hu6 : isU v6 = false := by rw [a7]; rfl
            have ho6 : allOne [v6] = true := by rw [a7]; rfl
            have hl6 : M6.lo ≤ wx := by have := hW5.w0; rw [a4, hlp]; omega
            have hw0 := hW5.w0
            have hst : stW M6 1 wx 6 v6 (some (.cs false 9 c')) = some (.u, M6.set wx (some (.cs false 9 (setN v6.cells 6 c')))) := stW_cs hl6 (by rw [hc6]; rfl) hu6 (by rw [hc6]; exact ho6) hb6
            rw [hc6] at hst
            simp (maxSteps := 4000000) (disch := first | omega | assumption | (simp only [bxS, bxV, stOk, Nat.reduceBEq, Nat.reduceEqDiff, Nat.reduceAdd]; done) | (simp only [bxU]; omega) | ((try apply has_setN); apply has_ofL; simp only [bxL]; omega)) only [↓bxD, bxP, bxQ, Nat.reduceBEq, reduceCtorEq, Nat.reduceAdd, Nat.reduceSub, Nat.reduceMul, Nat.reduceLeDiff, Nat.reduceLT, bxR, h0, h2, h8, h9, h10, hd, hd2, hq, hg6, hst, nck_p, Nat.zero_add, cells_i]
            generalize hM7 : MH.set _ _ _ = M7
            obtain ⟨hW7, hB7⟩ := hWp.now hg6 hA5 a2 a3 a4 a5 a6 a7 hM7
            clear hM7
            show Wp fns K49_1 _ _ _
            unfold K49_1
            simp (maxSteps := 4000000) (disch := first | omega | assumption | (simp only [bxS, bxV, stOk, Nat.reduceBEq, Nat.reduceEqDiff, Nat.reduceAdd]; done) | (simp only [bxU]; omega) | ((try apply has_setN); apply has_ofL; simp only [bxL]; omega)) only [↓bxD, bxP, bxQ, Nat.reduceBEq, reduceCtorEq, Nat.reduceAdd, Nat.reduceSub, Nat.reduceMul, Nat.reduceLeDiff, Nat.reduceLT, bxR, h0, h2, h8, h9, h10, hd, hd2, hq, hg6, hst, nck_p, Nat.zero_add, cells_i]
            refine ⟨i + 1, by omega, by omega, rfl, v6, ?_, hBp.trans hB7⟩
            rw [htk]
            unfold ent1
            rw [if_pos ⟨hz1, hz2, by rw [hhas]; exact hq⟩]
            exact hW7
      · have hd : decide (z < tk1.length) = false := decide_eq_false hz1
        simp (maxSteps := 4000000) (disch := first | omega | assumption | (simp only [bxS, bxV, stOk, Nat.reduceBEq, Nat.reduceEqDiff, Nat.reduceAdd]; done) | (simp only [bxU]; omega) | ((try apply has_setN); apply has_ofL; simp only [bxL]; omega)) only [↓bxD, bxP, bxQ, Nat.reduceBEq, reduceCtorEq, Nat.reduceAdd, Nat.reduceSub, Nat.reduceMul, Nat.reduceLeDiff, Nat.reduceLT, bxR, h0, h2, h8, h9, h10, hd]
        show Wp fns K49_1 _ _ _
        unfold K49_1
        simp (maxSteps := 4000000) (disch := first | omega | assumption | (simp only [bxS, bxV, stOk, Nat.reduceBEq, Nat.reduceEqDiff, Nat.reduceAdd]; done) | (simp only [bxU]; omega) | ((try apply has_setN); apply has_ofL; simp only [bxL]; omega)) only [↓bxD, bxP, bxQ, Nat.reduceBEq, reduceCtorEq, Nat.reduceAdd, Nat.reduceSub, Nat.reduceMul, Nat.reduceLeDiff, Nat.reduceLT, bxR, h0, h2, h8, h9, h10, hd]
        refine ⟨i + 1, by omega, by omega, rfl, hno _ (.refl _) ?_⟩
        unfold ent1
        rw [if_neg (fun hh => hz1 hh.1)]
    · have hi' : i = l.length := by omega
      subst hi'
      rw [List.take_length] at hW
      simp (maxSteps := 4000000) (disch := first | omega | assumption | (simp only [bxS, bxV, stOk, Nat.reduceBEq, Nat.reduceEqDiff, Nat.reduceAdd]; done) | (simp only [bxU]; omega) | ((try apply has_setN); apply has_ofL; simp only [bxL]; omega)) only [↓bxD, bxP, bxQ, Nat.reduceBEq, reduceCtorEq, Nat.reduceAdd, Nat.reduceSub, Nat.reduceMul, Nat.reduceLeDiff, Nat.reduceLT, bxR, hs1, hs2, h0, h2, h8, h9, h10]
      simp (maxSteps := 4000000) (disch := first | omega | assumption | (simp only [bxS, bxV, stOk, Nat.reduceBEq, Nat.reduceEqDiff, Nat.reduceAdd]; done) | (simp only [bxU]; omega) | ((try apply has_setN); apply has_ofL; simp only [bxL]; omega)) only [↓bxD, bxP, bxQ, Nat.reduceBEq, reduceCtorEq, Nat.reduceAdd, Nat.reduceSub, Nat.reduceMul, Nat.reduceLeDiff, Nat.reduceLT, bxR, hs1, hs2, h0, h2, h8, h9, h10, resL_nil]
      exact ⟨nv1, hW, hB⟩
  · exact ⟨Nat.zero_le _, by simp only [bxP, bxQ, reduceCtorEq, hs1, hs2], by simp only [bxP, bxQ, reduceCtorEq, hs1, hs2], by simp only [bxP, bxQ, reduceCtorEq, hs1, hs2], by simp only [bxP, bxQ, reduceCtorEq, hs1, hs2], by simp only [bxP, bxQ, reduceCtorEq, hs1, hs2] <;> rfl, nowv, h, .refl _ _ _ _⟩
def fol1 (sets : List (List MV)) (fo : List (List Nat)) (c k : Nat) (s : List Nat × List Nat) (i : Nat) : List Nat × List Nat := match fo[i]? with
  | some l => entP sets c k s l
  | none => s
def folP (sets : List (List MV)) (fo : List (List Nat)) (c k : Nat) (s : List Nat × List Nat) (l : List Nat) : List Nat × List Nat := l.foldl (fol1 sets fo c k) s
def begP (sets : List (List MV)) (fi : List Nat) (c k : Nat) (tk : List Nat) : List Nat × List Nat := if k = 1 then entP sets c k (tk, []) fi else (tk, [])
def stepP (sets : List (List MV)) (fi : List Nat) (fo : List (List Nat)) (c k : Nat) (tk nw : List Nat) : List Nat × List Nat := folP sets fo c k (begP sets fi c k tk) nw
theorem folP_take {sets : List (List MV)} {fo : List (List Nat)} {c k : Nat} {s : List Nat × List Nat} {l : List Nat} {i z : Nat} (h : l[i]? = some z) : folP sets fo c k s (l.take (i + 1)) = fol1 sets fo c k (folP sets fo c k s (l.take i)) z := by
  unfold folP
  rw [List.take_add_one, h, List.foldl_append]
  rfl
theorem fol1_cnt {sets : List (List MV)} {fo : List (List Nat)} {c k : Nat} {s : List Nat × List Nat} {i : Nat} (h : Cnt k s) : Cnt k (fol1 sets fo c k s i) ∧ (fol1 sets fo c k s i).1.length = s.1.length := by
  unfold fol1
  split
  · exact ⟨entP_cnt h, (entP_len _ _ _ _ _).1⟩
  · exact ⟨h, rfl⟩
theorem folP_cnt {sets : List (List MV)} {fo : List (List Nat)} {c k : Nat} : ∀ {l : List Nat} {s : List Nat × List Nat}, Cnt k s → Cnt k (folP sets fo c k s l) ∧ (folP sets fo c k s l).1.length = s.1.length
  | [], s, h => ⟨h, rfl⟩
  | i :: l, s, h => by
    have h1 := fol1_cnt (sets := sets) (fo := fo) (c := c) (i := i) h
    have h2 := folP_cnt (sets := sets) (fo := fo) (c := c) (l := l) h1.1
    exact ⟨h2.1, h2.2.trans h1.2⟩
theorem begP_cnt {sets : List (List MV)} {fi : List Nat} {c k : Nat} {tk : List Nat} (h : ∀ y ∈ tk, y < k) : Cnt k (begP sets fi c k tk) ∧ (begP sets fi c k tk).1.length = tk.length := by
  have h0 : Cnt k (tk, []) := by
    show 0 = tk.countP (· == k)
    refine (List.countP_eq_zero.2 fun y hy => ?_).symm
    have := h y hy
    simp
    omega
  unfold begP
  split
  · exact ⟨entP_cnt h0, (entP_len _ _ _ _ _).1⟩
  · exact ⟨h0, rfl⟩
theorem ent1_le {sets : List (List MV)} {c k : Nat} {s : List Nat × List Nat} {i : Nat} (h : ∀ y ∈ s.1, y ≤ k) : ∀ y ∈ (ent1 sets c k s i).1, y ≤ k := by
  unfold ent1
  split
  · intro y hy
    rcases List.mem_or_eq_of_mem_set hy with h1 | h1
    · exact h y h1
    · omega
  · exact h
theorem entP_le {sets : List (List MV)} {c k : Nat} : ∀ {l : List Nat} {s : List Nat × List Nat}, (∀ y ∈ s.1, y ≤ k) → ∀ y ∈ (entP sets c k s l).1, y ≤ k
  | [], s, h => h
  | i :: l, s, h => by
    show ∀ y ∈ (entP sets c k (ent1 sets c k s i) l).1, y ≤ k
    exact entP_le (ent1_le h)
theorem fol1_le {sets : List (List MV)} {fo : List (List Nat)} {c k : Nat} {s : List Nat × List Nat} {i : Nat} (h : ∀ y ∈ s.1, y ≤ k) : ∀ y ∈ (fol1 sets fo c k s i).1, y ≤ k := by
  unfold fol1
  split
  · exact entP_le h
  · exact h
theorem folP_le {sets : List (List MV)} {fo : List (List Nat)} {c k : Nat} : ∀ {l : List Nat} {s : List Nat × List Nat}, (∀ y ∈ s.1, y ≤ k) → ∀ y ∈ (folP sets fo c k s l).1, y ≤ k
  | [], s, h => h
  | i :: l, s, h => by
    show ∀ y ∈ (folP sets fo c k (fol1 sets fo c k s i) l).1, y ≤ k
    exact folP_le (fol1_le h)
theorem stepP_le {sets : List (List MV)} {fi : List Nat} {fo : List (List Nat)} {c k : Nat} {tk nw : List Nat} (h : ∀ y ∈ tk, y < k) : ∀ y ∈ (stepP sets fi fo c k tk nw).1, y ≤ k := by
  refine folP_le ?_
  unfold begP
  have h0 : ∀ y ∈ (tk, ([] : List Nat)).1, y ≤ k := fun y hy => Nat.le_of_lt (h y hy)
  split
  · exact entP_le h0
  · exact h0
structure Spare (M0 M : MH) (wx : Nat) (tv nowv spv : MV) (sp : List Nat) : Prop where
  row : OwnRow M0.n M 1 spv (nv sp)
  d : ∀ a b n d, spv = .sl a b n d → a ≠ wx ∧ (∀ a' b' n' d', tv = .sl a' b' n' d' → a ≠ a') ∧ ∀ a' b' n' d', nowv = .sl a' b' n' d' → a ≠ a'
theorem step_any {M0 M : MH} {wx : Nat} {vs bn vf vl vo tv : MV} {k : Nat} {tk nw sp : List Nat} {nowv spv : MV} {sets : List (List MV)} {fi : List Nat} {fo : List (List Nat)} {e : Nat} (h : WS M0 M wx [vs, bn, vf, vl, vo] tv k tk nw nowv spv) (hs : Spare M0 M wx tv nowv spv sp) (hS : RowAt M0 4 vs sets) (h4 : ∀ s ∈ sets, ∃ a b c d, s = st4 a b c d) (hlen : tk.length = sets.length) (hF : RowAt M0 1 vf (nv fi)) (hO : ∃ es : List MV, RowAt M0 1 vo (es.map fun x => [x]) ∧ es.length = fo.length ∧ ∀ (i : Nat) x y, es[i]? = some x → fo[i]? = some y → RowAt M0 1 x (nv y)) (hsl : sets.length ≤ 1000) (hfi : fi.length ≤ 1000) (hfo : ∀ l ∈ fo, l.length ≤ 1000) (hfl : fo.length ≤ 1000) (hnw : nw.length ≤ 1000) (hk : k + 1 ≤ 1000000) (hle : ∀ y ∈ tk, y < k + 1) (he : e < 256) :
    Cp fns 26 [.p wx 0, .i .u8 (e : Int)] M fun m M' => m = .b (decide (0 < (stepP sets fi fo e (k + 1) tk nw).2.length)) ∧ ∃ nowv' spv' sp', WS M0 M' wx [vs, bn, vf, vl, vo] tv (k + 1) (stepP sets fi fo e (k + 1) tk nw).1 (stepP sets fi fo e (k + 1) tk nw).2 nowv' spv' ∧ Spare M0 M' wx tv nowv' spv' sp' ∧ M.n ≤ M'.n := by
  obtain ⟨c, hg, hA, c5, c6, c7, c8⟩ := h.at5
  have hlo := h.lo
  have hw0 := h.w0
  have hel := h.ext.lo
  obtain ⟨n1, n2⟩ := h.N.row.sl
  have n2 : slen nowv = nw.length := n2.trans (nv_len nw)
  refine Cp_call (fn := F26) (by kernel_rfl) (Nat.le_of_ble_eq_true rfl) ?_
  show Wp fns B26 (T.set q1 (some (.i .u8 (e : Int))) (T.set q0 (some (.p wx 0)) T.lf)) M _
  unfold B26
  have hcut : cutM 1 spv none (some (.i .i64 0)) = some (cutHi 0 spv) := cutM_hi (h := 0) hs.row.row.sl.1 (Nat.zero_le _)
  have k6 : (cutHi 0 spv).cells = [cutHi 0 spv] ∧ isU (cutHi 0 spv) = false ∧ allOne [cutHi 0 spv] = true := by
    obtain ⟨_, ⟨e1, _⟩ | ⟨tid, ct, e1, _⟩⟩ := hs.row <;> rw [e1] <;> exact ⟨rfl, rfl, rfl⟩
  have k7 : nowv.cells = [nowv] ∧ isU nowv = false ∧ allOne [nowv] = true := by
    obtain ⟨_, ⟨e1, _⟩ | ⟨tid, ct, e1, _⟩⟩ := h.N <;> rw [e1] <;> exact ⟨rfl, rfl, rfl⟩
  have hb : ∀ o, o < 9 → hasB c 1 o = true := fun o ho => has_at hA (Nat.zero_le _) (by show o + 1 ≤ 0 + 9; omega)
  have hl0 : M.lo ≤ wx := by omega
  have s1 : stW M 1 wx 6 (cutHi 0 spv) (some (.cs false 9 c)) = some (.u, M.set wx (some (.cs false 9 (setN [cutHi 0 spv] 6 c)))) := by
    have := stW_cs (M := M) (n := 1) (id := wx) (off := 6) (sz := 9) (t := c) (y := cutHi 0 spv) hl0 (by rw [k6.1]; rfl) k6.2.1 (by rw [k6.1]; exact k6.2.2) (hb 6 (by omega))
    rwa [k6.1] at this
  have hA1 : At (setN [cutHi 0 spv] 6 c) 0 [vs, bn, vf, vl, vo, .i .i64 (k : Int), cutHi 0 spv, spv, tv] := hA.set' (k := 6) 6 (cutHi 0 spv) (by show 6 < 9; omega) rfl
  have hA2 : At (setN [nowv] 7 (setN [cutHi 0 spv] 6 c)) 0 [vs, bn, vf, vl, vo, .i .i64 (k : Int), cutHi 0 spv, nowv, tv] := hA1.set' (k := 7) 7 nowv (by show 7 < 9; omega) rfl
  have hA3 : At (setN [.i .i64 ((k : Int) + 1)] 5 (setN [nowv] 7 (setN [cutHi 0 spv] 6 c))) 0 [vs, bn, vf, vl, vo, .i .i64 ((k : Int) + 1), cutHi 0 spv, nowv, tv] := hA2.set' (k := 5) 5 (.i .i64 ((k : Int) + 1)) (by show 5 < 9; omega) rfl
  generalize hc1 : setN [cutHi 0 spv] 6 c = d1 at hA1 hA2 hA3 s1
  generalize hc2 : setN [nowv] 7 d1 = d2 at hA2 hA3
  generalize hc3 : setN [.i .i64 ((k : Int) + 1)] 5 d2 = d3 at hA3
  have s2 : stW (M.set wx (some (.cs false 9 d1))) 1 wx 7 nowv (some (.cs false 9 d1)) = some (.u, (M.set wx (some (.cs false 9 d1))).set wx (some (.cs false 9 d2))) := by
    have := stW_cs (M := M.set wx (some (.cs false 9 d1))) (n := 1) (id := wx) (off := 7) (sz := 9) (t := d1) (y := nowv) hl0 (by rw [k7.1]; rfl) k7.2.1 (by rw [k7.1]; exact k7.2.2) (has_at hA1 (Nat.zero_le _) (by show 7 + 1 ≤ 0 + 9; omega))
    rwa [k7.1, hc2] at this
  have s3 : stW ((M.set wx (some (.cs false 9 d1))).set wx (some (.cs false 9 d2))) 1 wx 5 (.i .i64 ((k : Int) + 1)) (some (.cs false 9 d2)) = some (.u, ((M.set wx (some (.cs false 9 d1))).set wx (some (.cs false 9 d2))).set wx (some (.cs false 9 d3))) := by
    have := stW_cs (M := (M.set wx (some (.cs false 9 d1))).set wx (some (.cs false 9 d2))) (n := 1) (id := wx) (off := 5) (sz := 9) (t := d2) (y := .i .i64 ((k : Int) + 1)) hl0 rfl rfl rfl (has_at hA2 (Nat.zero_le _) (by show 5 + 1 ≤ 0 + 9; omega))
    rw [cells_i, hc3] at this
    exact this
  have e5 : cget d2 5 = some (.i .i64 (k : Int)) := hA2 5 _ rfl
  have e5' : cget d3 5 = some (.i .i64 ((k : Int) + 1)) := hA3 5 _ rfl
  have e2 : cget d3 2 = some vf := hA3 2 _ rfl
  simp (maxSteps := 4000000) (disch := first | omega | assumption | (simp only [bxS, bxV, stOk, Nat.reduceBEq, Nat.reduceEqDiff, Nat.reduceAdd]; done) | (simp only [bxU]; omega) | ((try apply has_setN); apply has_ofL; simp only [bxL]; omega)) only [↓bxD, bxP, bxQ, bxQ2, Nat.reduceBEq, reduceCtorEq, Nat.reduceAdd, Nat.reduceSub, Nat.reduceMul, Nat.reduceLeDiff, Nat.reduceLT, bxR, hg, c6, c7, hcut, s1, s2, s3, e5, e5', e2, nck_p, Nat.zero_add, Option.map_some, Option.map_none, set_same]
  generalize hM1 : MH.set (MH.set (MH.set M wx _) wx _) wx _ = M1
  have hB1 : ∀ j, j < M.n → j ≠ wx → M1.get j = M.get j := fun j hj hne => by rw [← hM1, set_ne hne, set_ne hne, set_ne hne]
  have hn1 : M1.n = M.n := by rw [← hM1]; rfl
  have hl1 : M1.lo = M.lo := by rw [← hM1]; rfl
  have hg1 : M1.get wx = some (.cs false 9 d3) := by rw [← hM1]; exact set_same _ _
  clear hM1
  have hcd : ∀ a b n d, cutHi 0 spv = .sl a b n d → ∃ n', spv = .sl a b n' d := by
    intro a b n d hh
    obtain ⟨_, ⟨q1, _⟩ | ⟨tid, ct, q1, _⟩⟩ := hs.row <;> rw [q1] at hh
    · cases hh
    · injection hh with x1 x2 x3 x4
      subst x1 x2 x4
      exact ⟨_, q1⟩
  have hW1 : WS M0 M1 wx [vs, bn, vf, vl, vo] tv (k + 1) tk [] (cutHi 0 spv) nowv := by
    have hen := h.ext.n
    refine ⟨⟨by omega, by omega, fun j hj => (hB1 j (by omega) (by omega)).trans (h.ext.old j hj)⟩, h.lo, hw0, by rw [hn1]; exact h.w1, rfl, ⟨d3, hg1, hA3⟩, ?_, ?_, h.dT, ?_⟩
    · refine h.T.keep (by omega) fun a b n d q => ?_
      have := h.dT _ _ _ _ q
      obtain ⟨_, ⟨x1, _⟩ | ⟨tid, ct, x1, _, _, x4, _⟩⟩ := h.T
      · rw [x1] at q; cases q
      · rw [x1] at q
        injection q with q
        subst q
        exact hB1 _ x4 this
    · obtain ⟨_, ⟨x1, _⟩ | ⟨tid, ct, x1, x2, x3, x4, x5⟩⟩ := hs.row
      · rw [x1]; exact .nil _ _ _
      · have := (hs.d _ _ _ _ x1).1
        refine ⟨fun x hx => (by cases hx), .inr ⟨tid, ct, by rw [x1]; rfl, (hB1 _ x4 this).trans x2, x3, by omega, .nil _ _⟩⟩
    · intro a b n d q
      obtain ⟨n', q⟩ := hcd a b n d q
      exact ⟨(hs.d _ _ _ _ q).1, (hs.d _ _ _ _ q).2.1⟩
  have hwas : ∀ M2 v2, Beside M1 M2 wx tv (cutHi 0 spv) v2 → OwnRow M0.n M2 1 nowv (nv nw) := by
    intro M2 v2 hB
    refine h.N.keep (by have := hB.n; omega) fun a b n d q => ?_
    have q0 := h.dN _ _ _ _ q
    obtain ⟨_, ⟨x1, _⟩ | ⟨tid, ct, x1, _, _, x4, _⟩⟩ := h.N
    · rw [x1] at q; cases q
    · have q' := q
      rw [x1] at q'
      injection q' with q'
      subst q'
      refine (hB.old _ (by omega) q0.1 (fun a' b' n' d' e' => fun e2 => q0.2 _ _ _ _ e' e2.symm) (fun a' b' n' d' e' e2 => ?_)).trans (hB1 _ x4 q0.1)
      obtain ⟨n2, e'⟩ := hcd _ _ _ _ e'
      exact (hs.d _ _ _ _ e').2.2 _ _ _ _ q e2
  have hbeg := begP_cnt (sets := sets) (fi := fi) (c := e) hle
  have rest : ∀ (f : Fr) (M2 : MH) (v2 : MV), X.ev f (.t q0) = .p wx 0 → X.ev f (.t q1) = .i .u8 (e : Int) → X.ev f (.t q5) = nowv → WS M0 M2 wx [vs, bn, vf, vl, vo] tv (k + 1) (begP sets fi e (k + 1) tk).1 (begP sets fi e (k + 1) tk).2 v2 nowv → Beside M1 M2 wx tv (cutHi 0 spv) v2 → Wp fns K26_4 f M2 (retQ F26 fun m M' => m = MV.b (decide (0 < (stepP sets fi fo e (k + 1) tk nw).2.length)) ∧ ∃ nowv' spv' sp', WS M0 M' wx [vs, bn, vf, vl, vo] tv (k + 1) (stepP sets fi fo e (k + 1) tk nw).1 (stepP sets fi fo e (k + 1) tk nw).2 nowv' spv' ∧ Spare M0 M' wx tv nowv' spv' sp' ∧ M.n ≤ M'.n) := by
    intro f M2 v2 h0 h1 h5 hW2 hB2
    simp only [q0, q1, q5] at h0 h1 h5
    unfold K26_4
    simp (maxSteps := 4000000) (disch := first | omega | assumption | (simp only [bxS, bxV, stOk, Nat.reduceBEq, Nat.reduceEqDiff, Nat.reduceAdd]; done) | (simp only [bxU]; omega) | ((try apply has_setN); apply has_ofL; simp only [bxL]; omega)) only [↓bxD, bxP, bxQ, bxQ2, Nat.reduceBEq, reduceCtorEq, Nat.reduceAdd, Nat.reduceSub, Nat.reduceMul, Nat.reduceLeDiff, Nat.reduceLT, bxR, h0, h1, h5, n1, n2]
    refine Wp_inv (σ := Nat) (fun i f M' => i ≤ nw.length ∧ X.ev f (.t q0) = .p wx 0 ∧ X.ev f (.t q1) = .i .u8 (e : Int) ∧ X.ev f (.t q44) = nowv ∧ X.ev f (.t q45) = .i .i64 (nw.length : Int) ∧ X.ev f (.t q46) = .i .i64 (i : Int) ∧ ∃ v', WS M0 M' wx [vs, bn, vf, vl, vo] tv (k + 1) (folP sets fo e (k + 1) (begP sets fi e (k + 1) tk) (nw.take i)).1 (folP sets fo e (k + 1) (begP sets fi e (k + 1) tk) (nw.take i)).2 v' nowv ∧ Beside M1 M' wx tv (cutHi 0 spv) v') (fun i => nw.length - i) ?_ 0 ?_
    · rintro i f M3 ⟨hi, h0, h1, h44, h45, h46, v3, hW3, hB3⟩
      simp only [q0, q1, q44, q45, q46] at h0 h1 h44 h45 h46
      unfold L26_2
      simp (maxSteps := 4000000) (disch := first | omega | assumption | (simp only [bxS, bxV, stOk, Nat.reduceBEq, Nat.reduceEqDiff, Nat.reduceAdd]; done) | (simp only [bxU]; omega) | ((try apply has_setN); apply has_ofL; simp only [bxL]; omega)) only [↓bxD, bxP, bxQ, bxQ2, Nat.reduceBEq, reduceCtorEq, Nat.reduceAdd, Nat.reduceSub, Nat.reduceMul, Nat.reduceLeDiff, Nat.reduceLT, bxR, n1, n2, h0, h1, h44, h45, h46]
      refine condP_split (fun hlt => ?_) (fun hge => ?_)
      · have hi' : i < nw.length := by omega
        obtain ⟨z, hz⟩ : ∃ z, nw[i]? = some z := ⟨_, List.getElem?_eq_getElem hi'⟩
        obtain ⟨ro, s, t, hg, hid, hC⟩ := (hwas M3 v3 hB3).row.read (nv_at hz)
        have hC : cget t (soff nowv + i * 1) = some (.i .i64 (z : Int)) := hC 0 _ rfl
        have htk := folP_take (sets := sets) (fo := fo) (c := e) (k := k + 1) (s := begP sets fi e (k + 1) tk) hz
        have hcn := folP_cnt (sets := sets) (fo := fo) (c := e) (l := nw.take i) hbeg.1
        generalize hE : folP sets fo e (k + 1) (begP sets fi e (k + 1) tk) (nw.take i) = E at hW3 htk hcn
        obtain ⟨tk3, nw3⟩ := E
        have hW3 : WS M0 M3 wx [vs, bn, vf, vl, vo] tv (k + 1) tk3 nw3 v3 nowv := hW3
        have hc1 : nw3.length ≤ tk3.length := hcn.1.le
        have hc2 : tk3.length = sets.length := hcn.2.trans (hbeg.2.trans hlen)
        obtain ⟨c', hg3, hA3', _⟩ := hW3.at5
        have f4 : cget c' 4 = some vo := hA3' 4 _ rfl
        obtain ⟨es, hO1, hO2, hO3⟩ := hO
        obtain ⟨o1, o2⟩ := hO1.sl
        have o2 : slen vo = fo.length := by rw [o2, List.length_map, hO2]
        simp (maxSteps := 4000000) (disch := first | omega | assumption | (simp only [bxS, bxV, stOk, Nat.reduceBEq, Nat.reduceEqDiff, Nat.reduceAdd]; done) | (simp only [bxU]; omega) | ((try apply has_setN); apply has_ofL; simp only [bxL]; omega)) only [↓bxD, bxP, bxQ, bxQ2, Nat.reduceBEq, reduceCtorEq, Nat.reduceAdd, Nat.reduceSub, Nat.reduceMul, Nat.reduceLeDiff, Nat.reduceLT, bxR, n1, n2, h0, h1, h44, h45, h46, hg, hC, hi', hg3, f4, o1, o2, nck_p, Nat.zero_add]
        show Wp fns K26_1 _ _ _
        unfold K26_1
        simp (maxSteps := 4000000) (disch := first | omega | assumption | (simp only [bxS, bxV, stOk, Nat.reduceBEq, Nat.reduceEqDiff, Nat.reduceAdd]; done) | (simp only [bxU]; omega) | ((try apply has_setN); apply has_ofL; simp only [bxL]; omega)) only [↓bxD, bxP, bxQ, bxQ2, Nat.reduceBEq, reduceCtorEq, Nat.reduceAdd, Nat.reduceSub, Nat.reduceMul, Nat.reduceLeDiff, Nat.reduceLT, bxR, n1, n2, h0, h1, h44, h45, h46, hg, hC, hi', hg3, f4, o1, o2, nck_p, Nat.zero_add]
        refine condP_split (fun hzl => ?_) (fun hzl => ?_)
        · have hz' : z < fo.length := by omega
          obtain ⟨l, hl⟩ : ∃ l, fo[z]? = some l := ⟨_, List.getElem?_eq_getElem hz'⟩
          obtain ⟨x, hx⟩ : ∃ x, es[z]? = some x := ⟨_, List.getElem?_eq_getElem (by omega)⟩
          have hL := hO3 z x l hx hl
          obtain ⟨ro5, s5, t5, hg5, _, hC5⟩ := (hO1.ext hW3.ext).read (i := z) (e := [x]) (by rw [List.getElem?_map, hx]; rfl)
          have hC5 : cget t5 (soff vo + z * 1) = some x := hC5 0 _ rfl
          simp (maxSteps := 4000000) (disch := first | omega | assumption | (simp only [bxS, bxV, stOk, Nat.reduceBEq, Nat.reduceEqDiff, Nat.reduceAdd]; done) | (simp only [bxU]; omega) | ((try apply has_setN); apply has_ofL; simp only [bxL]; omega)) only [↓bxD, bxP, bxQ, bxQ2, Nat.reduceBEq, reduceCtorEq, Nat.reduceAdd, Nat.reduceSub, Nat.reduceMul, Nat.reduceLeDiff, Nat.reduceLT, bxR, n1, n2, h0, h1, h44, h45, h46, hg, hC, hi', hg3, f4, o1, o2, hg5, hC5, hz', nck_p, Nat.zero_add]
          refine bindP_call (enter_any hW3 hS h4 hc2 hL (by have := hfo l (List.mem_of_getElem? hl); omega) hk he) ?_
          rintro m M4 ⟨v4, hW4, hB4⟩
          simp (maxSteps := 4000000) (disch := first | omega | assumption | (simp only [bxS, bxV, stOk, Nat.reduceBEq, Nat.reduceEqDiff, Nat.reduceAdd]; done) | (simp only [bxU]; omega) | ((try apply has_setN); apply has_ofL; simp only [bxL]; omega)) only [↓bxD, bxP, bxQ, bxQ2, Nat.reduceBEq, reduceCtorEq, Nat.reduceAdd, Nat.reduceSub, Nat.reduceMul, Nat.reduceLeDiff, Nat.reduceLT, bxR, h0, h1, h44, h45, h46]
          show Wp fns K26_0 _ _ _
          unfold K26_0
          simp (maxSteps := 4000000) (disch := first | omega | assumption | (simp only [bxS, bxV, stOk, Nat.reduceBEq, Nat.reduceEqDiff, Nat.reduceAdd]; done) | (simp only [bxU]; omega) | ((try apply has_setN); apply has_ofL; simp only [bxL]; omega)) only [↓bxD, bxP, bxQ, bxQ2, Nat.reduceBEq, reduceCtorEq, Nat.reduceAdd, Nat.reduceSub, Nat.reduceMul, Nat.reduceLeDiff, Nat.reduceLT, bxR, h0, h1, h44, h45, h46]
          refine ⟨i + 1, by omega, by omega, rfl, v4, ?_, hB3.trans hB4⟩
          rw [htk]
          unfold fol1
          rw [hl]
          exact hW4
        · have hzg : fo.length ≤ z := by omega
          simp (maxSteps := 4000000) (disch := first | omega | assumption | (simp only [bxS, bxV, stOk, Nat.reduceBEq, Nat.reduceEqDiff, Nat.reduceAdd]; done) | (simp only [bxU]; omega) | ((try apply has_setN); apply has_ofL; simp only [bxL]; omega)) only [↓bxD, bxP, bxQ, bxQ2, Nat.reduceBEq, reduceCtorEq, Nat.reduceAdd, Nat.reduceSub, Nat.reduceMul, Nat.reduceLeDiff, Nat.reduceLT, bxR, h0, h1, h44, h45, h46]
          show Wp fns K26_0 _ _ _
          unfold K26_0
          simp (maxSteps := 4000000) (disch := first | omega | assumption | (simp only [bxS, bxV, stOk, Nat.reduceBEq, Nat.reduceEqDiff, Nat.reduceAdd]; done) | (simp only [bxU]; omega) | ((try apply has_setN); apply has_ofL; simp only [bxL]; omega)) only [↓bxD, bxP, bxQ, bxQ2, Nat.reduceBEq, reduceCtorEq, Nat.reduceAdd, Nat.reduceSub, Nat.reduceMul, Nat.reduceLeDiff, Nat.reduceLT, bxR, h0, h1, h44, h45, h46]
          refine ⟨i + 1, by omega, by omega, rfl, v3, ?_, hB3⟩
          rw [htk]
          unfold fol1
          rw [List.getElem?_eq_none (by omega)]
          exact hW3
      · have hi' : i = nw.length := by omega
        subst hi'
        rw [List.take_length] at hW3
        obtain ⟨c', hg3, _, _, d6, _⟩ := hW3.at5
        obtain ⟨m1, m2⟩ := hW3.N.row.sl
        rw [nv_len] at m2
        simp (maxSteps := 4000000) (disch := first | omega | assumption | (simp only [bxS, bxV, stOk, Nat.reduceBEq, Nat.reduceEqDiff, Nat.reduceAdd]; done) | (simp only [bxU]; omega) | ((try apply has_setN); apply has_ofL; simp only [bxL]; omega)) only [↓bxD, bxP, bxQ, bxQ2, Nat.reduceBEq, reduceCtorEq, Nat.reduceAdd, Nat.reduceSub, Nat.reduceMul, Nat.reduceLeDiff, Nat.reduceLT, bxR, n1, n2, h0, h1, h44, h45, h46, hg3, d6, m1, m2, nck_p, Nat.zero_add]
        show Wp fns K26_3 _ _ _
        unfold K26_3
        simp (maxSteps := 4000000) (disch := first | omega | assumption | (simp only [bxS, bxV, stOk, Nat.reduceBEq, Nat.reduceEqDiff, Nat.reduceAdd]; done) | (simp only [bxU]; omega) | ((try apply has_setN); apply has_ofL; simp only [bxL]; omega)) only [↓bxD, bxP, bxQ, bxQ2, Nat.reduceBEq, reduceCtorEq, Nat.reduceAdd, Nat.reduceSub, Nat.reduceMul, Nat.reduceLeDiff, Nat.reduceLT, bxR, n1, n2, h0, h1, h44, h45, h46, hg3, d6, m1, m2, nck_p, Nat.zero_add]
        refine ⟨?_, v3, nowv, nw, hW3, ⟨hwas M3 v3 hB3, fun a b n d q => ⟨(h.dN _ _ _ _ q).1, (h.dN _ _ _ _ q).2, fun a' b' n' d' q' => ?_⟩⟩, by have := hB3.n; omega⟩
        · rw [show ∀ n : Nat, decide ((0 : Int) < (n : Int)) = decide (0 < n) from fun n => decide_eq_decide.2 (by omega)]
          rfl
        · rcases hB3.v with x1 | ⟨x, y, n2, d2, x1, x2⟩
          · rw [x1] at q'
            obtain ⟨n3, q'⟩ := hcd _ _ _ _ q'
            exact fun x => (hs.d _ _ _ _ q').2.2 _ _ _ _ q x.symm
          · rw [x1] at q'
            injection q' with q'
            obtain ⟨_, ⟨y1, _⟩ | ⟨tid, ct, y1, _, _, y4, _⟩⟩ := h.N
            · rw [y1] at q; cases q
            · rw [y1] at q
              injection q with q
              omega
    · exact ⟨Nat.zero_le _, by simp only [bxP, bxQ, bxQ2, reduceCtorEq, h0, h1, h5, n1, n2], by simp only [bxP, bxQ, bxQ2, reduceCtorEq, h0, h1, h5, n1, n2], by simp only [bxP, bxQ, bxQ2, reduceCtorEq, h0, h1, h5, n1, n2], by simp only [bxP, bxQ, bxQ2, reduceCtorEq, h0, h1, h5, n1, n2], by simp only [bxP, bxQ, bxQ2, reduceCtorEq, h0, h1, h5, n1, n2] <;> rfl, v2, hW2, hB2⟩
  refine condP_split (fun hk1 => ?_) (fun hk1 => ?_)
  · have hk0 : k = 0 := by omega
    obtain ⟨c', hg3, hA3', _⟩ := hW1.at5
    have f2 : cget c' 2 = some vf := hA3' 2 _ rfl
    simp (maxSteps := 4000000) (disch := first | omega | assumption | (simp only [bxS, bxV, stOk, Nat.reduceBEq, Nat.reduceEqDiff, Nat.reduceAdd]; done) | (simp only [bxU]; omega) | ((try apply has_setN); apply has_ofL; simp only [bxL]; omega)) only [↓bxD, bxP, bxQ, bxQ2, Nat.reduceBEq, reduceCtorEq, Nat.reduceAdd, Nat.reduceSub, Nat.reduceMul, Nat.reduceLeDiff, Nat.reduceLT, bxR, hg3, f2, nck_p, Nat.zero_add]
    refine bindP_call (enter_any hW1 hS h4 hlen hF (by show 0 + fi.length ≤ 1000000; omega) hk he) ?_
    rintro m M2 ⟨v2, hW2, hB2⟩
    simp (maxSteps := 4000000) (disch := first | omega | assumption | (simp only [bxS, bxV, stOk, Nat.reduceBEq, Nat.reduceEqDiff, Nat.reduceAdd]; done) | (simp only [bxU]; omega) | ((try apply has_setN); apply has_ofL; simp only [bxL]; omega)) only [↓bxD, bxP, bxQ, bxQ2, Nat.reduceBEq, reduceCtorEq, Nat.reduceAdd, Nat.reduceSub, Nat.reduceMul, Nat.reduceLeDiff, Nat.reduceLT, bxR, hg3, f2, nck_p, Nat.zero_add]
    refine rest _ M2 v2 (by simp only [bxP, bxQ, bxQ2, reduceCtorEq, hg3, f2, nck_p, Nat.zero_add]) (by simp only [bxP, bxQ, bxQ2, reduceCtorEq, hg3, f2, nck_p, Nat.zero_add]) (by simp only [bxP, bxQ, bxQ2, reduceCtorEq, hg3, f2, nck_p, Nat.zero_add]) ?_ hB2
    unfold begP
    rw [if_pos (by omega)]
    exact hW2
  · simp (maxSteps := 4000000) (disch := first | omega | assumption | (simp only [bxS, bxV, stOk, Nat.reduceBEq, Nat.reduceEqDiff, Nat.reduceAdd]; done) | (simp only [bxU]; omega) | ((try apply has_setN); apply has_ofL; simp only [bxL]; omega)) only [↓bxD, bxP, bxQ, bxQ2, Nat.reduceBEq, reduceCtorEq, Nat.reduceAdd, Nat.reduceSub, Nat.reduceMul, Nat.reduceLeDiff, Nat.reduceLT, bxR, hg, c6, c7, hcut, s1, s2, s3, e5, e5', e2, nck_p, Nat.zero_add, Option.map_some, Option.map_none, set_same]
    refine rest _ M1 _ (by simp only [bxP, bxQ, bxQ2, reduceCtorEq, hg, c6, c7, hcut, s1, s2, s3, e5, e5', e2, nck_p, Nat.zero_add, Option.map_some, Option.map_none, set_same]) (by simp only [bxP, bxQ, bxQ2, reduceCtorEq, hg, c6, c7, hcut, s1, s2, s3, e5, e5', e2, nck_p, Nat.zero_add, Option.map_some, Option.map_none, set_same]) (by simp only [bxP, bxQ, bxQ2, reduceCtorEq, hg, c6, c7, hcut, s1, s2, s3, e5, e5', e2, nck_p, Nat.zero_add, Option.map_some, Option.map_none, set_same]) ?_ (.refl _ _ _ _)
    unfold begP
    rw [if_neg (by omega)]
    exact hW1
def run1 (sets : List (List MV)) (fi : List Nat) (fo : List (List Nat)) (s : Option (Nat × List Nat × List Nat)) (c : Nat) : Option (Nat × List Nat × List Nat) := match s with
  | none => none
  | some (k, tk, nw) => if 0 < (stepP sets fi fo c (k + 1) tk nw).2.length then some (k + 1, stepP sets fi fo c (k + 1) tk nw) else none
def runP (sets : List (List MV)) (fi : List Nat) (fo : List (List Nat)) (s : Option (Nat × List Nat × List Nat)) (l : List Nat) : Option (Nat × List Nat × List Nat) := l.foldl (run1 sets fi fo) s
theorem run1_some (sets : List (List MV)) (fi : List Nat) (fo : List (List Nat)) (k : Nat) (tk nw : List Nat) (c : Nat) : run1 sets fi fo (some (k, tk, nw)) c = if 0 < (stepP sets fi fo c (k + 1) tk nw).2.length then some (k + 1, stepP sets fi fo c (k + 1) tk nw) else none := rfl
theorem runP_take {sets : List (List MV)} {fi : List Nat} {fo : List (List Nat)} {s : Option (Nat × List Nat × List Nat)} {l : List Nat} {i z : Nat} (h : l[i]? = some z) : runP sets fi fo s (l.take (i + 1)) = run1 sets fi fo (runP sets fi fo s (l.take i)) z := by
  unfold runP
  rw [List.take_add_one, h, List.foldl_append]
  rfl
theorem runP_none (sets : List (List MV)) (fi : List Nat) (fo : List (List Nat)) : ∀ (l : List Nat), runP sets fi fo none l = none
  | [] => rfl
  | _ :: l => runP_none sets fi fo l
def takesP (sets : List (List MV)) (nul : Bool) (fi la : List Nat) (fo : List (List Nat)) (b : List Nat) : Bool := if b = [] then nul else match runP sets fi fo (some (0, List.replicate sets.length 0, [])) b with
  | none => false
  | some (k, tk, _) => la.any fun i => decide (tk[i]? = some k)
def bvs (l : List Nat) : List (List MV) := l.map fun (n : Nat) => [.i .u8 (n : Int)]
theorem bvs_len (l : List Nat) : (bvs l).length = l.length := by unfold bvs; rw [List.length_map]
theorem bvs_at {l : List Nat} {i n : Nat} (h : l[i]? = some n) : (bvs l)[i]? = some [.i .u8 (n : Int)] := by unfold bvs; rw [List.getElem?_map, h]; rfl
noncomputable def mksV (sz bytes : Nat) (zs : List MV) (x y : MV) (id : Nat) : Option (MV × MO) := match x, y with
  | .i _ (.ofNat l), .i _ (.ofNat c) => bif Nat.ble l c && Nat.ble (bytes * c) 281474976710656 && Nat.ble c 9223372036854775807 then some (.sl id 0 l 0, .cs false sz (ofL (zrow zs c) 0)) else none
  | _, _ => none
theorem float_mks (sz bytes : Nat) (zs : List MV) (x y : X) (f : Fr) (id : Nat) : floatEv (.mks sz bytes zs x y) f id = mksV sz bytes zs (x.ev f) (y.ev f) id := rfl
theorem mks_nat {n id : Nat} (h : n ≤ 1000) : mksV 1 8 [.i .i64 0] (.i .i64 (n : Int)) (.i .i64 (n : Int)) id = some (.sl id 0 n 0, .cs false 1 (ofL (zrow [.i .i64 0] n) 0)) := by
  show (bif Nat.ble n n && Nat.ble (8 * n) 281474976710656 && Nat.ble n 9223372036854775807 then some (MV.sl id 0 n 0, MO.cs false 1 (ofL (zrow [.i .i64 0] n) 0)) else none) = _
  rw [Nat.ble_eq_true_of_le (Nat.le_refl n), Nat.ble_eq_true_of_le (by omega), Nat.ble_eq_true_of_le (by omega)]
  rfl
theorem zrow_nv : ∀ n, zrow [MV.i .i64 0] n = (nv (List.replicate n 0)).flatten
  | 0 => rfl
  | n + 1 => by
    rw [List.replicate_succ]
    show MV.i .i64 0 :: zrow [MV.i .i64 0] n = MV.i .i64 0 :: (nv (List.replicate n 0)).flatten
    rw [zrow_nv n]
theorem row_cell {M : MH} {sz : Nat} {v : MV} {es : List (List MV)} (h : RowAt M sz v es) : v.one = true := by
  obtain ⟨_, ⟨rfl, _⟩ | ⟨_, _, _, _, _, _, rfl, _⟩⟩ := h <;> rfl
theorem runP_app (sets : List (List MV)) (fi : List Nat) (fo : List (List Nat)) (s : Option (Nat × List Nat × List Nat)) (l l' : List Nat) : runP sets fi fo s (l ++ l') = runP sets fi fo (runP sets fi fo s l) l' := by
  unfold runP
  exact List.foldl_append
theorem stepP_len {sets : List (List MV)} {fi : List Nat} {fo : List (List Nat)} {c k : Nat} {tk nw : List Nat} (h : ∀ y ∈ tk, y < k) : (stepP sets fi fo c k tk nw).1.length = tk.length ∧ (stepP sets fi fo c k tk nw).2.length ≤ tk.length := by
  have h1 := begP_cnt (sets := sets) (fi := fi) (c := c) h
  have h2 := folP_cnt (sets := sets) (fo := fo) (c := c) (l := nw) h1.1
  have h3 := h2.2.trans h1.2
  refine ⟨h3, ?_⟩
  have := h2.1.le
  rw [h3] at this
  exact this
theorem takes_any {M : MH} {vs vf vl vo bv : MV} {nul : Bool} {sets : List (List MV)} {fi la : List Nat} {fo : List (List Nat)} {b : List Nat} (hlo : M.lo ≤ M.n) (hS : RowAt M 4 vs sets) (h4 : ∀ s ∈ sets, ∃ a b c d, s = st4 a b c d) (hF : RowAt M 1 vf (nv fi)) (hL : RowAt M 1 vl (nv la)) (hO : ∃ es : List MV, RowAt M 1 vo (es.map fun x => [x]) ∧ es.length = fo.length ∧ ∀ (i : Nat) x y, es[i]? = some x → fo[i]? = some y → RowAt M 1 x (nv y)) (hb : RowAt M 1 bv (bvs b)) (hsl : sets.length ≤ 1000) (hfi : fi.length ≤ 1000) (hla : la.length ≤ 1000) (hfo : ∀ l ∈ fo, l.length ≤ 1000) (hfl : fo.length ≤ 1000) (hbl : b.length ≤ 100000) (h256 : ∀ c ∈ b, c < 256) :
    Cp fns 11 [.ag [vs, .b nul, vf, vl, vo], bv] M fun m M' => m = .b (takesP sets nul fi la fo b) ∧ Ext M M' := by
  obtain ⟨b1, b2⟩ := hb.sl
  rw [bvs_len] at b2
  refine Cp_call (fn := F11) (by kernel_rfl) (Nat.le_of_ble_eq_true rfl) ?_
  show Wp fns B11 (T.set q1 (some bv) (T.set q0 (some (.ag [vs, .b nul, vf, vl, vo])) T.lf)) M _
  unfold B11
  have hU : isU (.ag [vs, .b nul, vf, vl, vo]) = false := rfl
  have hcl : MV.cells (.ag [vs, .b nul, vf, vl, vo]) = [vs, .b nul, vf, vl, vo] := rfl
  have hlen : [vs, .b nul, vf, vl, vo].length = 5 := rfl
  simp (maxSteps := 4000000) (disch := first | omega | assumption | (simp only [bxS, bxV, stOk, Nat.reduceBEq, Nat.reduceEqDiff, Nat.reduceAdd]; done) | (simp only [bxU]; omega) | ((try apply has_setN); apply has_ofL; simp only [bxL]; omega)) only [↓bxD, bxP, bxQ, Nat.reduceBEq, reduceCtorEq, Nat.reduceAdd, Nat.reduceSub, Nat.reduceMul, Nat.reduceLeDiff, Nat.reduceLT, bxR, hU, hcl, hlen, b1, b2]
  generalize hM1 : M.push _ = M1
  have g1 : M1.get M.n = some (.cs false 5 (ofL [vs, .b nul, vf, vl, vo] 0)) := by rw [← hM1]; exact push_new _
  have hx1 : Ext M M1 := by rw [← hM1]; exact .push M _
  have hn1 : M1.n = M.n + 1 := by rw [← hM1]; rfl
  have hl1 := hx1.lo
  clear hM1
  have p1 : cget (ofL [vs, .b nul, vf, vl, vo] 0) 1 = some (.b nul) := at_ofL [vs, .b nul, vf, vl, vo] 1 _ rfl
  have p0 : cget (ofL [vs, .b nul, vf, vl, vo] 0) 0 = some vs := at_ofL [vs, .b nul, vf, vl, vo] 0 _ rfl
  have p3 : cget (ofL [vs, .b nul, vf, vl, vo] 0) 3 = some vl := at_ofL [vs, .b nul, vf, vl, vo] 3 _ rfl
  have p5 : getN (ofL [vs, .b nul, vf, vl, vo] 0) 5 0 = some [vs, .b nul, vf, vl, vo] := (at_ofL [vs, .b nul, vf, vl, vo]).getN
  refine condP_split (fun h0 => ?_) (fun h0 => ?_)
  · have hb0 : b = [] := List.length_eq_zero_iff.1 (by omega)
    simp (maxSteps := 4000000) (disch := first | omega | assumption | (simp only [bxS, bxV, stOk, Nat.reduceBEq, Nat.reduceEqDiff, Nat.reduceAdd]; done) | (simp only [bxU]; omega) | ((try apply has_setN); apply has_ofL; simp only [bxL]; omega)) only [↓bxD, bxP, bxQ, Nat.reduceBEq, reduceCtorEq, Nat.reduceAdd, Nat.reduceSub, Nat.reduceMul, Nat.reduceLeDiff, Nat.reduceLT, bxR, g1, p1]
    unfold takesP
    rw [if_pos hb0]
    exact ⟨rfl, hx1⟩
  · have hb0 : b ≠ [] := fun h => h0 (by rw [h]; rfl)
    obtain ⟨v1, v2⟩ := hS.sl
    simp (maxSteps := 4000000) (disch := first | omega | assumption | (simp only [bxS, bxV, stOk, Nat.reduceBEq, Nat.reduceEqDiff, Nat.reduceAdd]; done) | (simp only [bxU]; omega) | ((try apply has_setN); apply has_ofL; simp only [bxL]; omega)) only [↓bxD, bxP, bxQ, Nat.reduceBEq, reduceCtorEq, Nat.reduceAdd, Nat.reduceSub, Nat.reduceMul, Nat.reduceLeDiff, Nat.reduceLT, bxR, b1, b2, g1, p0, p5, v1, v2, map_ag]
    show Wp fns K11_5 _ _ _
    unfold K11_5
    simp (maxSteps := 4000000) (disch := first | omega | assumption | (simp only [bxS, bxV, stOk, Nat.reduceBEq, Nat.reduceEqDiff, Nat.reduceAdd]; done) | (simp only [bxU]; omega) | ((try apply has_setN); apply has_ofL; simp only [bxL]; omega)) only [↓bxD, bxP, bxQ, Nat.reduceBEq, reduceCtorEq, Nat.reduceAdd, Nat.reduceSub, Nat.reduceMul, Nat.reduceLeDiff, Nat.reduceLT, bxR, b1, b2, g1, p0, p5, v1, v2, map_ag]
    have ff : fillM [(0, 5, MV.ag [vs, MV.b nul, vf, vl, vo]), (8, 1, MV.sl M1.n 0 sets.length 0)] [.nils, .b false, .nils, .nils, .nils, .i .i64 0, .nils, .nils, .nils] = some [vs, .b nul, vf, vl, vo, .i .i64 0, .nils, .nils, .sl M1.n 0 sets.length 0] := rfl
    refine Wp_dreg_of (by omega) ?_
    simp (maxSteps := 4000000) (disch := first | omega | assumption | (simp only [bxS, bxV, stOk, Nat.reduceBEq, Nat.reduceEqDiff, Nat.reduceAdd]; done) | (simp only [bxU]; omega) | ((try apply has_setN); apply has_ofL; simp only [bxL]; omega)) only [↓bxD, bxP, bxQ, Nat.reduceBEq, reduceCtorEq, Nat.reduceAdd, Nat.reduceSub, Nat.reduceMul, Nat.reduceLeDiff, Nat.reduceLT, bxR, b1, b2, g1, p0, p5, v1, v2, map_ag, float_new, float_mks, mks_nat hsl, ff]
    rw [lateL_of (by rfl)]
    simp (maxSteps := 4000000) (disch := first | omega | assumption | (simp only [bxS, bxV, stOk, Nat.reduceBEq, Nat.reduceEqDiff, Nat.reduceAdd]; done) | (simp only [bxU]; omega) | ((try apply has_setN); apply has_ofL; simp only [bxL]; omega)) only [↓bxD, bxP, bxQ, Nat.reduceBEq, reduceCtorEq, Nat.reduceAdd, Nat.reduceSub, Nat.reduceMul, Nat.reduceLeDiff, Nat.reduceLT, bxR, b1, b2, g1, p0, p5, v1, v2, map_ag, float_new, float_mks, mks_nat hsl, ff, adopt_cons]
    generalize hM2 : MH.set (MH.set (M1.room 2) M1.n _) (M1.n + 1) _ = M2
    have r1 := row_cell hS
    have r2 := row_cell hF
    have r3 := row_cell hL
    obtain ⟨es, hO1, hO2, hO3⟩ := hO
    have r4 := row_cell hO1
    have hlo2 : M2.lo = M.lo := by rw [← hM2]; exact hl1
    have hn2 : M2.n = M1.n + 2 := by rw [← hM2]; rfl
    have g2 : M2.get M1.n = some (.cs false 1 (ofL (zrow [MV.i .i64 0] sets.length) 0)) := by rw [← hM2, set_ne (by omega)]; exact set_same _ _
    have x2 : Ext M1 M2 := by
      rw [← hM2]
      exact ((Ext.room M1 2).set _ (Nat.le_refl _)).set _ (by omega)
    have hst : stW M2 9 (M1.n + 1) 0 (.ag [vs, .b nul, vf, vl, vo, .i .i64 0, .nils, .nils, .sl M1.n 0 sets.length 0]) (some (.cs false 9 (ofL [.nils, .b false, .nils, .nils, .nils, .i .i64 0, .nils, .nils, .nils] 0))) = some (.u, M2.set (M1.n + 1) (some (.cs false 9 (setN [vs, .b nul, vf, vl, vo, .i .i64 0, .nils, .nils, .sl M1.n 0 sets.length 0] 0 (ofL [.nils, .b false, .nils, .nils, .nils, .i .i64 0, .nils, .nils, .nils] 0))))) := stW_cs (by omega) rfl rfl (by show (vs.one && (true && (vf.one && (vl.one && (vo.one && true))))) = true; rw [r1, r2, r3, r4]; rfl) (has_ofL _ _ _ (by decide))
    clear hM2
    simp (maxSteps := 4000000) (disch := first | omega | assumption | (simp only [bxS, bxV, stOk, Nat.reduceBEq, Nat.reduceEqDiff, Nat.reduceAdd]; done) | (simp only [bxU]; omega) | ((try apply has_setN); apply has_ofL; simp only [bxL]; omega)) only [↓bxD, bxP, bxQ, Nat.reduceBEq, reduceCtorEq, Nat.reduceAdd, Nat.reduceSub, Nat.reduceMul, Nat.reduceLeDiff, Nat.reduceLT, bxR, hst]
    generalize hM3 : MH.set M2 (M1.n + 1) _ = M3
    have n3 : M3.n = M1.n + 2 := by rw [← hM3]; exact hn2
    have x3 : Ext M1 M3 := by rw [← hM3]; exact x2.set _ (by omega)
    have g3 : M3.get M1.n = some (.cs false 1 (ofL (zrow [MV.i .i64 0] sets.length) 0)) := by rw [← hM3, set_ne (by omega)]; exact g2
    have gw : M3.get (M1.n + 1) = some (.cs false 9 (setN [vs, .b nul, vf, vl, vo, .i .i64 0, .nils, .nils, .sl M1.n 0 sets.length 0] 0 (ofL [.nils, .b false, .nils, .nils, .nils, .i .i64 0, .nils, .nils, .nils] 0))) := by rw [← hM3]; exact set_same _ _
    clear hM3
    have hr0 : (nv (List.replicate sets.length 0)).length = sets.length := by rw [nv_len, List.length_replicate]
    have hW0 : WS M1 M3 (M1.n + 1) [vs, .b nul, vf, vl, vo] (.sl M1.n 0 sets.length 0) 0 (List.replicate sets.length 0) [] .nils .nils := by
      refine ⟨x3, by omega, by omega, by omega, rfl, ⟨_, gw, at_setN _ _ _⟩, ⟨fun x hx => ?_, .inr ⟨M1.n, _, by rw [hr0], g3, Nat.le_refl _, by omega, ?_⟩⟩, .nil _ _ _, fun a b n d q => ?_, fun a b n d q => (by cases q)⟩
      · unfold nv at hx
        obtain ⟨y, _, rfl⟩ := List.mem_map.1 hx
        rfl
      · rw [← zrow_nv]; exact at_ofL _
      · injection q with q; omega
    have hP0 : Spare M1 M3 (M1.n + 1) (.sl M1.n 0 sets.length 0) .nils .nils [] := ⟨.nil _ _ _, fun a b n d q => (by cases q)⟩
    generalize hwx : M1.n + 1 = wx at hW0 hP0
    generalize htv : MV.sl M1.n 0 sets.length 0 = tv at hW0 hP0
    show Wp fns K11_4 _ _ _
    unfold K11_4
    simp (maxSteps := 4000000) (disch := first | omega | assumption | (simp only [bxS, bxV, stOk, Nat.reduceBEq, Nat.reduceEqDiff, Nat.reduceAdd]; done) | (simp only [bxU]; omega) | ((try apply has_setN); apply has_ofL; simp only [bxL]; omega)) only [↓bxD, bxP, bxQ, Nat.reduceBEq, reduceCtorEq, Nat.reduceAdd, Nat.reduceSub, Nat.reduceMul, Nat.reduceLeDiff, Nat.reduceLT, bxR, hst]
    simp (maxSteps := 4000000) (disch := first | omega | assumption | (simp only [bxS, bxV, stOk, Nat.reduceBEq, Nat.reduceEqDiff, Nat.reduceAdd]; done) | (simp only [bxU]; omega) | ((try apply has_setN); apply has_ofL; simp only [bxL]; omega)) only [↓bxD, bxP, bxQ, Nat.reduceBEq, reduceCtorEq, Nat.reduceAdd, Nat.reduceSub, Nat.reduceMul, Nat.reduceLeDiff, Nat.reduceLT, bxR, b1, b2]
    refine Wp_inv (σ := Nat) (fun i f M' => i ≤ b.length ∧ X.ev f (.t q2) = .p M.n 0 ∧ X.ev f (.t q5) = .p wx 0 ∧ X.ev f (.t q19) = bv ∧ X.ev f (.t q20) = .i .i64 (b.length : Int) ∧ X.ev f (.t q21) = .i .i64 (i : Int) ∧ ∃ tk nw nowv spv sp, runP sets fi fo (some (0, List.replicate sets.length 0, [])) (b.take i) = some (i, tk, nw) ∧ WS M1 M' wx [vs, .b nul, vf, vl, vo] tv i tk nw nowv spv ∧ Spare M1 M' wx tv nowv spv sp ∧ tk.length = sets.length ∧ (∀ y ∈ tk, y ≤ i) ∧ nw.length ≤ 1000) (fun i => b.length - i) ?_ 0 ?_
    · rintro i f M4 ⟨hi, k2, k5, k19, k20, k21, tk, nw, nowv, spv, sp, hR, hW, hP, ht, hle, hnw⟩
      simp only [q2, q5, q19, q20, q21] at k2 k5 k19 k20 k21
      unfold L11_2
      simp (maxSteps := 4000000) (disch := first | omega | assumption | (simp only [bxS, bxV, stOk, Nat.reduceBEq, Nat.reduceEqDiff, Nat.reduceAdd]; done) | (simp only [bxU]; omega) | ((try apply has_setN); apply has_ofL; simp only [bxL]; omega)) only [↓bxD, bxP, bxQ, Nat.reduceBEq, reduceCtorEq, Nat.reduceAdd, Nat.reduceSub, Nat.reduceMul, Nat.reduceLeDiff, Nat.reduceLT, bxR, b1, b2, k2, k5, k19, k20, k21]
      refine condP_split (fun hlt => ?_) (fun hge => ?_)
      · have hi' : i < b.length := by omega
        obtain ⟨z, hz⟩ : ∃ z, b[i]? = some z := ⟨_, List.getElem?_eq_getElem hi'⟩
        obtain ⟨ro, s, t, hg, hid, hC⟩ := (hb.ext (hx1.trans hW.ext)).read (bvs_at hz)
        have hC : cget t (soff bv + i * 1) = some (.i .u8 (z : Int)) := hC 0 _ rfl
        have htk := runP_take (sets := sets) (fi := fi) (fo := fo) (s := some (0, List.replicate sets.length 0, [])) hz
        rw [hR] at htk
        simp (maxSteps := 4000000) (disch := first | omega | assumption | (simp only [bxS, bxV, stOk, Nat.reduceBEq, Nat.reduceEqDiff, Nat.reduceAdd]; done) | (simp only [bxU]; omega) | ((try apply has_setN); apply has_ofL; simp only [bxL]; omega)) only [↓bxD, bxP, bxQ, Nat.reduceBEq, reduceCtorEq, Nat.reduceAdd, Nat.reduceSub, Nat.reduceMul, Nat.reduceLeDiff, Nat.reduceLT, bxR, b1, b2, k2, k5, k19, k20, k21, hg, hC, hi']
        show Wp fns K11_1 _ _ _
        unfold K11_1
        simp (maxSteps := 4000000) (disch := first | omega | assumption | (simp only [bxS, bxV, stOk, Nat.reduceBEq, Nat.reduceEqDiff, Nat.reduceAdd]; done) | (simp only [bxU]; omega) | ((try apply has_setN); apply has_ofL; simp only [bxL]; omega)) only [↓bxD, bxP, bxQ, Nat.reduceBEq, reduceCtorEq, Nat.reduceAdd, Nat.reduceSub, Nat.reduceMul, Nat.reduceLeDiff, Nat.reduceLT, bxR, b1, b2, k2, k5, k19, k20, k21, hg, hC, hi']
        have hlt' : ∀ y ∈ tk, y < i + 1 := fun y hy => Nat.lt_succ_of_le (hle y hy)
        refine bindP_call (step_any hW hP (hS.ext hx1) h4 ht (hF.ext hx1) ⟨es, hO1.ext hx1, hO2, fun j x y u v => (hO3 j x y u v).ext hx1⟩ hsl hfi hfo hfl hnw (by omega) hlt' (h256 z (List.mem_of_getElem? hz))) ?_
        rintro m M5 ⟨rfl, nowv5, spv5, sp5, hW5, hP5, _⟩
        have hsl5 := stepP_len (sets := sets) (fi := fi) (fo := fo) (c := z) (nw := nw) hlt'
        by_cases h5 : 0 < (stepP sets fi fo z (i + 1) tk nw).2.length
        · have hd : decide (0 < (stepP sets fi fo z (i + 1) tk nw).2.length) = true := decide_eq_true h5
          simp (maxSteps := 4000000) (disch := first | omega | assumption | (simp only [bxS, bxV, stOk, Nat.reduceBEq, Nat.reduceEqDiff, Nat.reduceAdd]; done) | (simp only [bxU]; omega) | ((try apply has_setN); apply has_ofL; simp only [bxL]; omega)) only [↓bxD, bxP, bxQ, Nat.reduceBEq, reduceCtorEq, Nat.reduceAdd, Nat.reduceSub, Nat.reduceMul, Nat.reduceLeDiff, Nat.reduceLT, bxR, k2, k5, k19, k20, k21, hd]
          show Wp fns K11_0 _ _ _
          unfold K11_0
          simp (maxSteps := 4000000) (disch := first | omega | assumption | (simp only [bxS, bxV, stOk, Nat.reduceBEq, Nat.reduceEqDiff, Nat.reduceAdd]; done) | (simp only [bxU]; omega) | ((try apply has_setN); apply has_ofL; simp only [bxL]; omega)) only [↓bxD, bxP, bxQ, Nat.reduceBEq, reduceCtorEq, Nat.reduceAdd, Nat.reduceSub, Nat.reduceMul, Nat.reduceLeDiff, Nat.reduceLT, bxR, k2, k5, k19, k20, k21, hd]
          refine ⟨i + 1, by omega, by omega, rfl, _, _, nowv5, spv5, sp5, ?_, hW5, hP5, hsl5.1.trans ht, stepP_le hlt', by omega⟩
          rw [htk, run1_some, if_pos h5]
        · have hd : decide (0 < (stepP sets fi fo z (i + 1) tk nw).2.length) = false := decide_eq_false h5
          simp (maxSteps := 4000000) (disch := first | omega | assumption | (simp only [bxS, bxV, stOk, Nat.reduceBEq, Nat.reduceEqDiff, Nat.reduceAdd]; done) | (simp only [bxU]; omega) | ((try apply has_setN); apply has_ofL; simp only [bxL]; omega)) only [↓bxD, bxP, bxQ, Nat.reduceBEq, reduceCtorEq, Nat.reduceAdd, Nat.reduceSub, Nat.reduceMul, Nat.reduceLeDiff, Nat.reduceLT, bxR, k2, k5, k19, k20, k21, hd]
          refine ⟨?_, hx1.trans hW5.ext⟩
          unfold takesP
          rw [if_neg hb0]
          have : runP sets fi fo (some (0, List.replicate sets.length 0, [])) b = none := by
            rw [← List.take_append_drop (i + 1) b, runP_app, htk, run1_some, if_neg h5]
            exact runP_none _ _ _ _
          rw [this]
      · have hi' : i = b.length := by omega
        subst hi'
        rw [List.take_length] at hR
        have hg4 : M4.get M.n = some (.cs false 5 (ofL [vs, .b nul, vf, vl, vo] 0)) := (hW.ext.old _ (by omega)).trans g1
        simp (maxSteps := 4000000) (disch := first | omega | assumption | (simp only [bxS, bxV, stOk, Nat.reduceBEq, Nat.reduceEqDiff, Nat.reduceAdd]; done) | (simp only [bxU]; omega) | ((try apply has_setN); apply has_ofL; simp only [bxL]; omega)) only [↓bxD, bxP, bxQ, Nat.reduceBEq, reduceCtorEq, Nat.reduceAdd, Nat.reduceSub, Nat.reduceMul, Nat.reduceLeDiff, Nat.reduceLT, bxR, b1, b2, k2, k5, k19, k20, k21]
        show Wp fns K11_3 _ _ _
        unfold K11_3
        simp (maxSteps := 4000000) (disch := first | omega | assumption | (simp only [bxS, bxV, stOk, Nat.reduceBEq, Nat.reduceEqDiff, Nat.reduceAdd]; done) | (simp only [bxU]; omega) | ((try apply has_setN); apply has_ofL; simp only [bxL]; omega)) only [↓bxD, bxP, bxQ, Nat.reduceBEq, reduceCtorEq, Nat.reduceAdd, Nat.reduceSub, Nat.reduceMul, Nat.reduceLeDiff, Nat.reduceLT, bxR, b1, b2, k2, k5, k19, k20, k21, hg4, p3]
        have hx14 := hx1.trans hW.ext
        refine bindP_call (contains_any (p := fun j => decide (tk[j]? = some b.length)) (hL.ext hx14) (by omega) (fun M' z hx' _ => ?_)) ?_
        · have hW' := hW.more hx'
          obtain ⟨c, q1, _, q5, _, _, q8⟩ := hW'.at5
          exact isAt_any (by have := hW'.ext.lo; have := hW'.ext.n; omega) q1 hW'.w1 q5 q8 hW'.T.row
        · rintro m M6 ⟨rfl, hx6⟩
          simp (maxSteps := 4000000) (disch := first | omega | assumption | (simp only [bxS, bxV, stOk, Nat.reduceBEq, Nat.reduceEqDiff, Nat.reduceAdd]; done) | (simp only [bxU]; omega) | ((try apply has_setN); apply has_ofL; simp only [bxL]; omega)) only [↓bxD, bxP, bxQ, Nat.reduceBEq, reduceCtorEq, Nat.reduceAdd, Nat.reduceSub, Nat.reduceMul, Nat.reduceLeDiff, Nat.reduceLT, bxR, b1, b2, k2, k5, k19, k20, k21, hg4, p3]
          refine ⟨?_, hx14.trans hx6⟩
          unfold takesP
          rw [if_neg hb0, hR]
    · exact ⟨Nat.zero_le _, by simp only [bxP, bxQ, reduceCtorEq, b1, b2], by simp only [bxP, bxQ, reduceCtorEq, b1, b2], by simp only [bxP, bxQ, reduceCtorEq, b1, b2], by simp only [bxP, bxQ, reduceCtorEq, b1, b2], by simp only [bxP, bxQ, reduceCtorEq, b1, b2] <;> rfl, _, [], _, _, [], rfl, hW0, hP0, List.length_replicate, fun y hy => by rw [(List.mem_replicate.1 hy).2]; exact Nat.le_refl _, Nat.zero_le _⟩
def Edge (fol : List Nat) (i j : Nat) : Prop := ∃ N, fol[i]? = some N ∧ N.testBit j = true
def Tk (has : List MV → Nat → Bool) (sets : List (List MV)) (j c : Nat) : Prop := ∃ s, sets[j]? = some s ∧ has s c = true
def Pth (E : Nat → Nat → Prop) (S : Nat → Nat → Prop) (la : Nat) : Nat → List Nat → Prop
  | i, [] => la.testBit i = true
  | i, c :: w => ∃ j, E i j ∧ S j c ∧ Pth E S la j w
def Acc (E : Nat → Nat → Prop) (S : Nat → Nat → Prop) (p : Pm) : List Nat → Prop
  | [] => p.null = true
  | c :: w => ∃ j, p.fi.testBit j = true ∧ S j c ∧ Pth E S p.la j w
def Cc (A B : List Nat → Prop) (w : List Nat) : Prop := ∃ u v, w = u ++ v ∧ A u ∧ B v
inductive St1 (A : List Nat → Prop) : List Nat → Prop
  | nil : St1 A []
  | cons {u v : List Nat} : u ≠ [] → A u → St1 A v → St1 A (u ++ v)
theorem Pth.iff {E E' S S' : Nat → Nat → Prop} {la la' : Nat} {R : Nat → Prop} (hE : ∀ i, R i → ∀ j, (E i j ↔ E' i j)) (hR : ∀ i j, R i → E i j → R j) (hS : ∀ i c, R i → (S i c ↔ S' i c)) (hl : ∀ i, R i → (la.testBit i = true ↔ la'.testBit i = true)) : ∀ (w : List Nat) (i : Nat), R i → (Pth E S la i w ↔ Pth E' S' la' i w)
  | [], i, hi => hl i hi
  | c :: w, i, hi => by
    unfold Pth
    constructor
    · rintro ⟨j, h1, h2, h3⟩
      have hj := hR i j hi h1
      exact ⟨j, (hE i hi j).1 h1, (hS j c hj).1 h2, (Pth.iff hE hR hS hl w j hj).1 h3⟩
    · rintro ⟨j, h1, h2, h3⟩
      have h1 := (hE i hi j).2 h1
      have hj := hR i j hi h1
      exact ⟨j, h1, (hS j c hj).2 h2, (Pth.iff hE hR hS hl w j hj).2 h3⟩
theorem Acc.iff {E E' S S' : Nat → Nat → Prop} {p : Pm} {R : Nat → Prop} (hE : ∀ i, R i → ∀ j, (E i j ↔ E' i j)) (hR : ∀ i j, R i → E i j → R j) (hS : ∀ i c, R i → (S i c ↔ S' i c)) (hf : ∀ i, p.fi.testBit i = true → R i) (w : List Nat) : Acc E S p w ↔ Acc E' S' p w := by
  cases w with
  | nil => exact Iff.rfl
  | cons c w =>
    unfold Acc
    constructor
    · rintro ⟨j, h1, h2, h3⟩
      exact ⟨j, h1, (hS j c (hf j h1)).1 h2, (Pth.iff hE hR hS (fun _ _ => Iff.rfl) w j (hf j h1)).1 h3⟩
    · rintro ⟨j, h1, h2, h3⟩
      exact ⟨j, h1, (hS j c (hf j h1)).2 h2, (Pth.iff hE hR hS (fun _ _ => Iff.rfl) w j (hf j h1)).2 h3⟩
theorem cat_path {E1 E2 E S : Nat → Nat → Prop} {p q : Pm} {la : Nat} {n1 : Nat} (hpE : ∀ i j, i < n1 → E1 i j → j < n1) (hqE : ∀ i j, n1 ≤ i → E2 i j → n1 ≤ j) (hqf : ∀ j, q.fi.testBit j = true → n1 ≤ j) (hpl : ∀ j, p.la.testBit j = true → j < n1) (hql : ∀ j, q.la.testBit j = true → n1 ≤ j)
    (hE1 : ∀ i j, i < n1 → (E i j ↔ E1 i j ∨ (p.la.testBit i = true ∧ q.fi.testBit j = true))) (hE2 : ∀ i j, n1 ≤ i → (E i j ↔ E2 i j)) (hla1 : ∀ i, i < n1 → (la.testBit i = true ↔ q.null = true ∧ p.la.testBit i = true)) (hla2 : ∀ i, n1 ≤ i → (la.testBit i = true ↔ q.la.testBit i = true)) :
    (∀ (w : List Nat) (i : Nat), n1 ≤ i → (Pth E S la i w ↔ Pth E2 S q.la i w)) ∧ ∀ (w : List Nat) (i : Nat), i < n1 → (Pth E S la i w ↔ Cc (Pth E1 S p.la i) (Acc E2 S q) w) := by
  have h2 : ∀ (w : List Nat) (i : Nat), n1 ≤ i → (Pth E S la i w ↔ Pth E2 S q.la i w) := fun w i hi => Pth.iff (R := fun i => n1 ≤ i) (fun i hi j => hE2 i j hi) (fun i j hi h => hqE i j hi ((hE2 i j hi).1 h)) (fun _ _ _ => Iff.rfl) (fun i hi => hla2 i hi) w i hi
  refine ⟨h2, fun w => ?_⟩
  induction w with
  | nil =>
    intro i hi
    show la.testBit i = true ↔ _
    rw [hla1 i hi]
    constructor
    · rintro ⟨e1, e2⟩; exact ⟨[], [], rfl, e2, e1⟩
    · rintro ⟨u, v, e, e1, e2⟩
      obtain ⟨rfl, rfl⟩ := List.append_eq_nil_iff.1 e.symm
      exact ⟨e2, e1⟩
  | cons c w ih =>
    intro i hi
    show (∃ j, E i j ∧ S j c ∧ Pth E S la j w) ↔ _
    constructor
    · rintro ⟨j, e1, e2, e3⟩
      rcases (hE1 i j hi).1 e1 with e1 | ⟨e1, e4⟩
      · obtain ⟨u, v, rfl, f1, f2⟩ := (ih j (hpE i j hi e1)).1 e3
        exact ⟨c :: u, v, rfl, ⟨j, e1, e2, f1⟩, f2⟩
      · exact ⟨[], c :: w, rfl, e1, j, e4, e2, (h2 w j (hqf j e4)).1 e3⟩
    · rintro ⟨u, v, e, f1, f2⟩
      cases u with
      | nil =>
        rw [List.nil_append] at e
        subst e
        obtain ⟨j, e4, e2, e3⟩ := f2
        exact ⟨j, (hE1 i j hi).2 (.inr ⟨f1, e4⟩), e2, (h2 w j (hqf j e4)).2 e3⟩
      | cons c' u =>
        rw [List.cons_append, List.cons.injEq] at e
        obtain ⟨rfl, rfl⟩ := e
        obtain ⟨j, e1, e2, e3⟩ := f1
        have hj := hpE i j hi e1
        exact ⟨j, (hE1 i j hi).2 (.inl e1), e2, (ih j hj).2 ⟨u, v, rfl, e3, f2⟩⟩
theorem cat_acc {E1 E2 E S : Nat → Nat → Prop} {p q r : Pm} {n1 : Nat} (hpE : ∀ i j, i < n1 → E1 i j → j < n1) (hqE : ∀ i j, n1 ≤ i → E2 i j → n1 ≤ j) (hqf : ∀ j, q.fi.testBit j = true → n1 ≤ j) (hpf : ∀ j, p.fi.testBit j = true → j < n1) (hpl : ∀ j, p.la.testBit j = true → j < n1) (hql : ∀ j, q.la.testBit j = true → n1 ≤ j)
    (hE1 : ∀ i j, i < n1 → (E i j ↔ E1 i j ∨ (p.la.testBit i = true ∧ q.fi.testBit j = true))) (hE2 : ∀ i j, n1 ≤ i → (E i j ↔ E2 i j)) (hr : r = catP p q) (w : List Nat) : Acc E S r w ↔ Cc (Acc E1 S p) (Acc E2 S q) w := by
  subst hr
  have hla1 : ∀ i, i < n1 → ((catP p q).la.testBit i = true ↔ q.null = true ∧ p.la.testBit i = true) := fun i hi => by
    have hq : q.la.testBit i = false := by
      cases e : q.la.testBit i with
      | false => rfl
      | true => have := hql i e; omega
    show (if q.null = true then p.la ||| q.la else q.la).testBit i = true ↔ _
    split
    · rename_i e; rw [Nat.testBit_or, hq, Bool.or_false]; exact ⟨fun h => ⟨e, h⟩, fun h => h.2⟩
    · rename_i e; rw [hq]; exact ⟨fun h => (by cases h), fun h => (e h.1).elim⟩
  have hla2 : ∀ i, n1 ≤ i → ((catP p q).la.testBit i = true ↔ q.la.testBit i = true) := fun i hi => by
    have hp : p.la.testBit i = false := by
      cases e : p.la.testBit i with
      | false => rfl
      | true => have := hpl i e; omega
    show (if q.null = true then p.la ||| q.la else q.la).testBit i = true ↔ _
    split
    · rw [Nat.testBit_or, hp, Bool.false_or]
    · exact Iff.rfl
  obtain ⟨h2, h1⟩ := cat_path (S := S) hpE hqE hqf hpl hql hE1 hE2 hla1 hla2
  have hfi : ∀ j, (catP p q).fi.testBit j = true ↔ p.fi.testBit j = true ∨ (p.null = true ∧ q.fi.testBit j = true) := fun j => by
    show (if p.null = true then p.fi ||| q.fi else p.fi).testBit j = true ↔ _
    split
    · rename_i e; rw [Nat.testBit_or, Bool.or_eq_true]; simp [e]
    · rename_i e; simp [e]
  cases w with
  | nil =>
    show (p.null && q.null) = true ↔ _
    rw [Bool.and_eq_true]
    constructor
    · rintro ⟨e1, e2⟩; exact ⟨[], [], rfl, e1, e2⟩
    · rintro ⟨u, v, e, e1, e2⟩
      obtain ⟨rfl, rfl⟩ := List.append_eq_nil_iff.1 e.symm
      exact ⟨e1, e2⟩
  | cons c w =>
    show (∃ j, (catP p q).fi.testBit j = true ∧ S j c ∧ Pth E S (catP p q).la j w) ↔ _
    constructor
    · rintro ⟨j, e1, e2, e3⟩
      rcases (hfi j).1 e1 with e1 | ⟨e0, e1⟩
      · obtain ⟨u, v, rfl, f1, f2⟩ := (h1 w j (hpf j e1)).1 e3
        exact ⟨c :: u, v, rfl, ⟨j, e1, e2, f1⟩, f2⟩
      · exact ⟨[], c :: w, rfl, e0, j, e1, e2, (h2 w j (hqf j e1)).1 e3⟩
    · rintro ⟨u, v, e, f1, f2⟩
      cases u with
      | nil =>
        rw [List.nil_append] at e
        subst e
        obtain ⟨j, e1, e2, e3⟩ := f2
        exact ⟨j, (hfi j).2 (.inr ⟨f1, e1⟩), e2, (h2 w j (hqf j e1)).2 e3⟩
      | cons c' u =>
        rw [List.cons_append, List.cons.injEq] at e
        obtain ⟨rfl, rfl⟩ := e
        obtain ⟨j, e1, e2, e3⟩ := f1
        exact ⟨j, (hfi j).2 (.inl e1), e2, (h1 _ j (hpf j e1)).2 ⟨u, v, rfl, e3, f2⟩⟩
theorem St1.app {A : List Nat → Prop} {u v : List Nat} (h : A u) (k : St1 A v) : St1 A (u ++ v) := by
  cases u with
  | nil => exact k
  | cons c u => exact .cons (by simp) h k
theorem rep_path {E1 E S : Nat → Nat → Prop} {q : Pm} (hE : ∀ i j, (E i j ↔ E1 i j ∨ (q.la.testBit i = true ∧ q.fi.testBit j = true))) : ∀ (w : List Nat) (i : Nat), (Pth E S q.la i w ↔ Cc (Pth E1 S q.la i) (St1 (Acc E1 S q)) w)
  | [], i => by
    constructor
    · intro h; exact ⟨[], [], rfl, h, .nil⟩
    · rintro ⟨u, v, e, e1, e2⟩
      obtain ⟨rfl, rfl⟩ := List.append_eq_nil_iff.1 e.symm
      exact e1
  | c :: w, i => by
    constructor
    · rintro ⟨j, e1, e2, e3⟩
      obtain ⟨u, v, rfl, f1, f2⟩ := (rep_path hE w j).1 e3
      rcases (hE i j).1 e1 with e1 | ⟨e1, e4⟩
      · exact ⟨c :: u, v, rfl, ⟨j, e1, e2, f1⟩, f2⟩
      · exact ⟨[], (c :: u) ++ v, rfl, e1, .cons (by simp) ⟨j, e4, e2, f1⟩ f2⟩
    · rintro ⟨u, v, e, f1, f2⟩
      cases u with
      | nil =>
        rw [List.nil_append] at e
        subst e
        generalize hx : c :: w = x at f2
        cases f2 with
        | nil => cases hx
        | @cons u' v' h1 h2 h3 =>
          cases u' with
          | nil => exact (h1 rfl).elim
          | cons c' u' =>
            rw [List.cons_append, List.cons.injEq] at hx
            obtain ⟨rfl, rfl⟩ := hx
            obtain ⟨j, e4, e2, e3⟩ := h2
            exact ⟨j, (hE i j).2 (.inr ⟨f1, e4⟩), e2, (rep_path hE _ j).2 ⟨u', v', rfl, e3, h3⟩⟩
      | cons c' u =>
        rw [List.cons_append, List.cons.injEq] at e
        obtain ⟨rfl, rfl⟩ := e
        obtain ⟨j, e1, e2, e3⟩ := f1
        exact ⟨j, (hE i j).2 (.inl e1), e2, (rep_path hE _ j).2 ⟨u, v, rfl, e3, f2⟩⟩
theorem rep_acc {E1 E S : Nat → Nat → Prop} {q r : Pm} (hE : ∀ i j, (E i j ↔ E1 i j ∨ (q.la.testBit i = true ∧ q.fi.testBit j = true))) (hf : r.fi = q.fi) (hl : r.la = q.la) {c : Nat} {w : List Nat} : Acc E S r (c :: w) ↔ ∃ u v, c :: w = u ++ v ∧ u ≠ [] ∧ Acc E1 S q u ∧ St1 (Acc E1 S q) v := by
  show (∃ j, r.fi.testBit j = true ∧ S j c ∧ Pth E S r.la j w) ↔ _
  rw [hf, hl]
  constructor
  · rintro ⟨j, e1, e2, e3⟩
    obtain ⟨u, v, rfl, f1, f2⟩ := (rep_path hE w j).1 e3
    exact ⟨c :: u, v, rfl, by simp, ⟨j, e1, e2, f1⟩, f2⟩
  · rintro ⟨u, v, e, h0, f1, f2⟩
    cases u with
    | nil => exact (h0 rfl).elim
    | cons c' u =>
      rw [List.cons_append, List.cons.injEq] at e
      obtain ⟨rfl, rfl⟩ := e
      obtain ⟨j, e1, e2, e3⟩ := f1
      exact ⟨j, e1, e2, (rep_path hE _ j).2 ⟨u, v, rfl, e3, f2⟩⟩
theorem alt_acc {E1 E2 E S : Nat → Nat → Prop} {p q : Pm} {n1 : Nat} (hpE : ∀ i j, i < n1 → E1 i j → j < n1) (hqE : ∀ i j, n1 ≤ i → E2 i j → n1 ≤ j) (hqf : ∀ j, q.fi.testBit j = true → n1 ≤ j) (hpf : ∀ j, p.fi.testBit j = true → j < n1) (hpl : ∀ j, p.la.testBit j = true → j < n1) (hql : ∀ j, q.la.testBit j = true → n1 ≤ j)
    (hE1 : ∀ i j, i < n1 → (E i j ↔ E1 i j)) (hE2 : ∀ i j, n1 ≤ i → (E i j ↔ E2 i j)) (w : List Nat) : Acc E S (altP p q) w ↔ Acc E1 S p w ∨ Acc E2 S q w := by
  have la1 : ∀ i, i < n1 → ((altP p q).la.testBit i = true ↔ p.la.testBit i = true) := fun i hi => by
    have hq : q.la.testBit i = false := by
      cases e : q.la.testBit i with
      | false => rfl
      | true => have := hql i e; omega
    show (p.la ||| q.la).testBit i = true ↔ _
    rw [Nat.testBit_or, hq, Bool.or_false]
  have la2 : ∀ i, n1 ≤ i → ((altP p q).la.testBit i = true ↔ q.la.testBit i = true) := fun i hi => by
    have hp : p.la.testBit i = false := by
      cases e : p.la.testBit i with
      | false => rfl
      | true => have := hpl i e; omega
    show (p.la ||| q.la).testBit i = true ↔ _
    rw [Nat.testBit_or, hp, Bool.false_or]
  cases w with
  | nil =>
    show (p.null || q.null) = true ↔ p.null = true ∨ q.null = true
    rw [Bool.or_eq_true]
  | cons c w =>
    have hf : ∀ j, (altP p q).fi.testBit j = true ↔ p.fi.testBit j = true ∨ q.fi.testBit j = true := fun j => by
      show (p.fi ||| q.fi).testBit j = true ↔ _
      rw [Nat.testBit_or, Bool.or_eq_true]
    have h1 : ∀ j, j < n1 → (Pth E S (altP p q).la j w ↔ Pth E1 S p.la j w) := fun j hj => Pth.iff (R := fun i => i < n1) (fun i hi j => hE1 i j hi) (fun i j hi h => hpE i j hi ((hE1 i j hi).1 h)) (fun _ _ _ => Iff.rfl) la1 w j hj
    have h2 : ∀ j, n1 ≤ j → (Pth E S (altP p q).la j w ↔ Pth E2 S q.la j w) := fun j hj => Pth.iff (R := fun i => n1 ≤ i) (fun i hi j => hE2 i j hi) (fun i j hi h => hqE i j hi ((hE2 i j hi).1 h)) (fun _ _ _ => Iff.rfl) la2 w j hj
    show (∃ j, (altP p q).fi.testBit j = true ∧ S j c ∧ Pth E S (altP p q).la j w) ↔ (∃ j, p.fi.testBit j = true ∧ S j c ∧ Pth E1 S p.la j w) ∨ ∃ j, q.fi.testBit j = true ∧ S j c ∧ Pth E2 S q.la j w
    constructor
    · rintro ⟨j, e1, e2, e3⟩
      rcases (hf j).1 e1 with e1 | e1
      · exact .inl ⟨j, e1, e2, (h1 j (hpf j e1)).1 e3⟩
      · exact .inr ⟨j, e1, e2, (h2 j (hqf j e1)).1 e3⟩
    · rintro (⟨j, e1, e2, e3⟩ | ⟨j, e1, e2, e3⟩)
      · exact ⟨j, (hf j).2 (.inl e1), e2, (h1 j (hpf j e1)).2 e3⟩
      · exact ⟨j, (hf j).2 (.inr e1), e2, (h2 j (hqf j e1)).2 e3⟩
mutual
def Lx (has : List MV → Nat → Bool) : Rx → List Nat → Prop
  | .mk op a b c d kids => if op = 1 then (fun w => ∃ e, w = [e] ∧ has (st4 a b c d) e = true) else if op = 2 then LC has kids else if op = 3 then LA has kids else if op = 4 then St1 (L1 has kids) else if op = 5 then Cc (L1 has kids) (St1 (L1 has kids)) else if op = 6 then (fun w => w = [] ∨ L1 has kids w) else (fun w => w = [])
def LC (has : List MV → Nat → Bool) : List Rx → List Nat → Prop
  | [] => fun w => w = []
  | k :: r => Cc (Lx has k) (LC has r)
def LA (has : List MV → Nat → Bool) : List Rx → List Nat → Prop
  | [] => fun _ => False
  | k :: r => fun w => Lx has k w ∨ LA has r w
def L1 (has : List MV → Nat → Bool) : List Rx → List Nat → Prop
  | [] => fun w => w = []
  | k :: _ => Lx has k
end
mutual
def Wf : Rx → Prop
  | .mk op _ _ _ _ kids => (op = 3 → kids ≠ []) ∧ WfL kids
def WfL : List Rx → Prop
  | [] => True
  | k :: r => Wf k ∧ WfL r
end
theorem Cc_nil {A : List Nat → Prop} : Cc (fun w => w = []) A = A := by
  funext w
  apply propext
  constructor
  · rintro ⟨u, v, rfl, rfl, h⟩; exact h
  · intro h; exact ⟨[], w, rfl, rfl, h⟩
theorem Cc_assoc {A B C : List Nat → Prop} : Cc (Cc A B) C = Cc A (Cc B C) := by
  funext w
  apply propext
  constructor
  · rintro ⟨u, v, rfl, ⟨u1, u2, rfl, h1, h2⟩, h3⟩; exact ⟨u1, u2 ++ v, List.append_assoc _ _ _, h1, u2, v, rfl, h2, h3⟩
  · rintro ⟨u, v, rfl, h1, v1, v2, rfl, h2, h3⟩; exact ⟨u ++ v1, v2, (List.append_assoc _ _ _).symm, ⟨u, v1, rfl, h1, h2⟩, h3⟩
theorem St1_nil : St1 (fun w => w = []) = fun w => w = [] := by
  funext w
  apply propext
  constructor
  · intro h
    cases h with
    | nil => rfl
    | cons h0 h1 _ => exact (h0 h1).elim
  · rintro rfl; exact .nil
mutual
theorem Lx_zero (has : List MV → Nat → Bool) : ∀ (x : Rx), Wf x → cnt x = 0 → Lx has x = fun w => w = []
  | .mk op a b c d kids, hw, h0 => by
    rw [Wf] at hw
    rw [cnt] at h0
    rw [Lx]
    by_cases h1 : op = 1
    · rw [if_pos h1] at h0; cases h0
    rw [if_neg h1] at h0 ⊢
    by_cases h2 : op = 2
    · rw [if_pos (.inl h2)] at h0; rw [if_pos h2]; exact LC_zero has kids hw.2 h0
    rw [if_neg h2]
    by_cases h3 : op = 3
    · rw [if_pos (.inr h3)] at h0; rw [if_pos h3]; exact LA_zero has kids hw.2 h0 (hw.1 h3)
    rw [if_neg (fun h => h.elim h2 h3)] at h0
    rw [if_neg h3]
    by_cases h456 : op = 4 ∨ op = 5 ∨ op = 6
    · rw [if_pos h456] at h0
      rw [L1_zero has kids hw.2 h0, St1_nil, Cc_nil]
      split
      · rfl
      split
      · rfl
      split
      · funext w; simp
      · rfl
    · rw [if_neg (fun h => h456 (.inl h)), if_neg (fun h => h456 (.inr (.inl h))), if_neg (fun h => h456 (.inr (.inr h)))]
theorem LC_zero (has : List MV → Nat → Bool) : ∀ (l : List Rx), WfL l → cntL l = 0 → LC has l = fun w => w = []
  | [], _, _ => by rw [LC]
  | k :: r, hw, h0 => by
    rw [WfL] at hw
    rw [cntL] at h0
    rw [LC, Lx_zero has k hw.1 (by omega), LC_zero has r hw.2 (by omega), Cc_nil]
theorem LA_zero (has : List MV → Nat → Bool) : ∀ (l : List Rx), WfL l → cntL l = 0 → l ≠ [] → LA has l = fun w => w = []
  | [], _, _, h => (h rfl).elim
  | k :: r, hw, h0, _ => by
    rw [WfL] at hw
    rw [cntL] at h0
    rw [LA, Lx_zero has k hw.1 (by omega)]
    cases r with
    | nil => rw [LA]; funext w; simp
    | cons k2 r2 => rw [LA_zero has (k2 :: r2) hw.2 (by omega) (by simp)]; funext w; simp
theorem L1_zero (has : List MV → Nat → Bool) : ∀ (l : List Rx), WfL l → cnt1 l = 0 → L1 has l = fun w => w = []
  | [], _, _ => by rw [L1]
  | k :: r, hw, h0 => by
    rw [WfL] at hw
    rw [cnt1] at h0
    rw [L1, Lx_zero has k hw.1 h0]
end
structure Good (has : List MV → Nat → Bool) (n0 : Nat) (p : Pm) (st : Bs) (A : List Nat → Prop) : Prop where
  hl : st.fol.length = st.sets.length
  h0 : n0 ≤ st.sets.length
  hf : ∀ j, p.fi.testBit j = true → n0 ≤ j ∧ j < st.sets.length
  ha : ∀ j, p.la.testBit j = true → n0 ≤ j ∧ j < st.sets.length
  he : ∀ i j, n0 ≤ i → Edge st.fol i j → n0 ≤ j ∧ j < st.sets.length
  ac : ∀ w, Acc (Edge st.fol) (Tk has st.sets) p w ↔ A w
def Pre (n : Nat) (st st' : Bs) : Prop := (∀ i, i < n → st'.sets[i]? = st.sets[i]?) ∧ (∀ i, i < n → st'.fol[i]? = st.fol[i]?)
theorem Pre.rfl' {n : Nat} {st : Bs} : Pre n st st := ⟨fun _ _ => rfl, fun _ _ => rfl⟩
theorem Pre.trans {n m : Nat} {a b c : Bs} (h : Pre n a b) (k : Pre m b c) (hm : n ≤ m) : Pre n a c := ⟨fun i hi => (k.1 i (by omega)).trans (h.1 i hi), fun i hi => (k.2 i (by omega)).trans (h.2 i hi)⟩
theorem Edge_lt {fol : List Nat} {i j : Nat} (h : Edge fol i j) : i < fol.length := by
  obtain ⟨N, h, _⟩ := h
  exact (List.getElem?_eq_some_iff.1 h).1
theorem Edge_link {fol : List Nat} {la fi i j : Nat} : Edge (linkM fol la fi) i j ↔ Edge fol i j ∨ (i < fol.length ∧ la.testBit i = true ∧ fi.testBit j = true) := by
  unfold Edge linkM
  rw [List.getElem?_mapIdx]
  constructor
  · rintro ⟨N, h1, h2⟩
    cases e : fol[i]? with
    | none => rw [e] at h1; cases h1
    | some F =>
      have hi := (List.getElem?_eq_some_iff.1 e).1
      rw [e, Option.map_some, Option.some.injEq] at h1
      subst h1
      split at h2
      · rename_i hla
        rw [Nat.testBit_or, Bool.or_eq_true] at h2
        rcases h2 with h2 | h2
        · exact .inl ⟨F, rfl, h2⟩
        · exact .inr ⟨hi, hla, h2⟩
      · exact .inl ⟨F, rfl, h2⟩
  · rintro (⟨F, h1, h2⟩ | ⟨hi, h1, h2⟩)
    · rw [h1]
      refine ⟨_, rfl, ?_⟩
      show (if la.testBit i = true then F ||| fi else F).testBit j = true
      split
      · rw [Nat.testBit_or, h2, Bool.true_or]
      · exact h2
    · rw [List.getElem?_eq_getElem hi]
      refine ⟨_, rfl, ?_⟩
      show (if la.testBit i = true then _ ||| fi else _).testBit j = true
      rw [if_pos h1, Nat.testBit_or, h2, Bool.or_true]
theorem Edge_pre {n : Nat} {st st' : Bs} (h : Pre n st st') {i j : Nat} (hi : i < n) : Edge st'.fol i j ↔ Edge st.fol i j := by
  unfold Edge
  rw [h.2 i hi]
theorem Tk_pre {has : List MV → Nat → Bool} {n : Nat} {st st' : Bs} (h : Pre n st st') {i c : Nat} (hi : i < n) : Tk has st'.sets i c ↔ Tk has st.sets i c := by
  unfold Tk
  rw [h.1 i hi]
theorem good_p0 {has : List MV → Nat → Bool} {st : Bs} (hl : st.fol.length = st.sets.length) : Good has st.sets.length p0M st (fun w => w = []) where
  hl := hl
  h0 := Nat.le_refl _
  hf := fun j h => by rw [show p0M.fi = 0 from rfl, Nat.zero_testBit] at h; cases h
  ha := fun j h => by rw [show p0M.la = 0 from rfl, Nat.zero_testBit] at h; cases h
  he := fun i j hi h => by have := Edge_lt h; omega
  ac := fun w => by
    cases w with
    | nil => exact ⟨fun _ => rfl, fun _ => rfl⟩
    | cons c w =>
      constructor
      · rintro ⟨j, h, _⟩; rw [show p0M.fi = 0 from rfl, Nat.zero_testBit] at h; cases h
      · intro h; cases h
theorem good_none {has : List MV → Nat → Bool} {st : Bs} (hl : st.fol.length = st.sets.length) : Good has st.sets.length ⟨false, 0, 0⟩ st (fun _ => False) where
  hl := hl
  h0 := Nat.le_refl _
  hf := fun j h => by rw [Nat.zero_testBit] at h; cases h
  ha := fun j h => by rw [Nat.zero_testBit] at h; cases h
  he := fun i j hi h => by have := Edge_lt h; omega
  ac := fun w => by
    cases w with
    | nil => exact ⟨fun h => (by cases h), fun h => h.elim⟩
    | cons c w =>
      constructor
      · rintro ⟨j, h, _⟩; rw [Nat.zero_testBit] at h; cases h
      · intro h; exact h.elim
theorem good_place {has : List MV → Nat → Bool} {st : Bs} (hl : st.fol.length = st.sets.length) (s : List MV) : Good has st.sets.length (placeM s st).1 (placeM s st).2 (fun w => ∃ e, w = [e] ∧ has s e = true) ∧ Pre st.sets.length st (placeM s st).2 := by
  have hb : ∀ j, (2 ^ st.sets.length).testBit j = true ↔ j = st.sets.length := fun j => by
    rw [Nat.testBit_two_pow]
    constructor
    · intro h; exact (of_decide_eq_true h).symm
    · intro h; exact decide_eq_true h.symm
  have hE : ∀ i j, st.sets.length ≤ i → ¬ Edge (st.fol ++ [0]) i j := fun i j hi h => by
    obtain ⟨N, h1, h2⟩ := h
    rw [List.getElem?_append_right (by omega)] at h1
    have h1 := List.mem_of_getElem? h1
    rw [List.mem_singleton] at h1
    rw [h1, Nat.zero_testBit] at h2
    cases h2
  have hlen : (st.sets ++ [s]).length = st.sets.length + 1 := by rw [List.length_append]; rfl
  refine ⟨⟨?_, ?_, ?_, ?_, ?_, ?_⟩, ?_, ?_⟩
  · show (st.fol ++ [0]).length = (st.sets ++ [s]).length
    rw [List.length_append, List.length_append, hl]; rfl
  · show _ ≤ (st.sets ++ [s]).length
    omega
  · intro j h
    have := (hb j).1 h
    show _ ∧ j < (st.sets ++ [s]).length
    omega
  · intro j h
    have := (hb j).1 h
    show _ ∧ j < (st.sets ++ [s]).length
    omega
  · intro i j hi h; exact (hE i j hi h).elim
  · intro w
    have hs : (st.sets ++ [s])[st.sets.length]? = some s := by rw [List.getElem?_append_right (by omega), Nat.sub_self]; rfl
    cases w with
    | nil => exact ⟨fun h => (by cases h), (by rintro ⟨e, h, _⟩; cases h)⟩
    | cons c w =>
      constructor
      · rintro ⟨j, h1, ⟨s', h2, h3⟩, h4⟩
        have hj := (hb j).1 h1
        subst hj
        have h2 := hs.symm.trans h2
        rw [Option.some.injEq] at h2
        subst h2
        cases w with
        | nil => exact ⟨c, rfl, h3⟩
        | cons c' w =>
          obtain ⟨j', e1, _⟩ := h4
          exact (hE _ _ (Nat.le_refl _) e1).elim
      · rintro ⟨e, h1, h2⟩
        cases h1
        exact ⟨st.sets.length, (hb _).2 rfl, ⟨s, hs, h2⟩, (hb _).2 rfl⟩
  · intro i hi
    exact List.getElem?_append_left hi
  · intro i hi
    exact List.getElem?_append_left (by omega)
theorem linkM_at {fol : List Nat} {la fi i : Nat} (h : la.testBit i = false) : (linkM fol la fi)[i]? = fol[i]? := by
  unfold linkM
  rw [List.getElem?_mapIdx, h]
  cases fol[i]? <;> rfl
theorem catP_fi {p q : Pm} {j : Nat} (h : (catP p q).fi.testBit j = true) : p.fi.testBit j = true ∨ q.fi.testBit j = true := by
  have h : (if p.null = true then p.fi ||| q.fi else p.fi).testBit j = true := h
  split at h
  · rwa [Nat.testBit_or, Bool.or_eq_true] at h
  · exact .inl h
theorem catP_la {p q : Pm} {j : Nat} (h : (catP p q).la.testBit j = true) : p.la.testBit j = true ∨ q.la.testBit j = true := by
  have h : (if q.null = true then p.la ||| q.la else q.la).testBit j = true := h
  split at h
  · rwa [Nat.testBit_or, Bool.or_eq_true] at h
  · exact .inr h
theorem Good.later {has : List MV → Nat → Bool} {n0 : Nat} {p : Pm} {st st1 : Bs} {A : List Nat → Prop} (hA : Good has n0 p st A) (hp : Pre st.sets.length st st1) : Acc (fun i j => n0 ≤ i ∧ Edge st.fol i j) (Tk has st1.sets) p = A := by
  funext w
  apply propext
  refine (Acc.iff (R := fun i => n0 ≤ i ∧ i < st.sets.length) (fun i hi j => ?_) (fun i j hi h => ?_) (fun i c hi => ?_) (fun i h => hA.hf i h) w).trans (hA.ac w)
  · exact ⟨fun h => h.2, fun h => ⟨hi.1, h⟩⟩
  · exact hA.he i j hi.1 h.2
  · exact Tk_pre hp hi.2
theorem Good.here {has : List MV → Nat → Bool} {n0 : Nat} {p : Pm} {st : Bs} {A : List Nat → Prop} (hA : Good has n0 p st A) : Acc (Edge st.fol) (Tk has st.sets) p = A := funext fun w => propext (hA.ac w)
theorem good_cat {has : List MV → Nat → Bool} {n0 : Nat} {p q : Pm} {st st1 : Bs} {A B : List Nat → Prop} (hA : Good has n0 p st A) (hB : Good has st.sets.length q st1 B) (hp : Pre st.sets.length st st1) : Good has n0 (catP p q) (linkB st1 p.la q.fi) (Cc A B) ∧ Pre n0 st (linkB st1 p.la q.fi) := by
  have hEl : ∀ i j, Edge (linkB st1 p.la q.fi).fol i j ↔ Edge st1.fol i j ∨ (i < st1.fol.length ∧ p.la.testBit i = true ∧ q.fi.testBit j = true) := fun i j => Edge_link
  have hn := hA.h0
  have hm := hB.h0
  have hl1 := hB.hl
  have he : ∀ i j, n0 ≤ i → Edge (linkB st1 p.la q.fi).fol i j → n0 ≤ j ∧ j < st1.sets.length := fun i j hi h => by
    rcases (hEl i j).1 h with h | ⟨_, _, h⟩
    · by_cases hi1 : i < st.sets.length
      · have := hA.he i j hi ((Edge_pre hp hi1).1 h); omega
      · have := hB.he i j (by omega) h; omega
    · have := hB.hf j h; omega
  refine ⟨⟨?_, ?_, ?_, ?_, he, ?_⟩, ?_, ?_⟩
  · exact (linkM_len _ _ _).trans hl1
  · show n0 ≤ st1.sets.length
    omega
  · intro j h
    show n0 ≤ j ∧ j < st1.sets.length
    rcases catP_fi h with h | h
    · have := hA.hf j h; omega
    · have := hB.hf j h; omega
  · intro j h
    show n0 ≤ j ∧ j < st1.sets.length
    rcases catP_la h with h | h
    · have := hA.ha j h; omega
    · have := hB.ha j h; omega
  · intro w
    have key := cat_acc (E1 := fun i j => n0 ≤ i ∧ Edge st.fol i j) (E2 := Edge st1.fol) (E := fun i j => n0 ≤ i ∧ Edge (linkB st1 p.la q.fi).fol i j) (S := Tk has st1.sets) (p := p) (q := q) (r := catP p q) (n1 := st.sets.length) (fun i j _ h => (hA.he i j h.1 h.2).2) (fun i j hi h => (hB.he i j hi h).1) (fun j h => (hB.hf j h).1) (fun j h => (hA.hf j h).2) (fun j h => (hA.ha j h).2) (fun j h => (hB.ha j h).1)
      (fun i j hi => by
        have e := Edge_pre hp (j := j) hi
        rw [hEl, e]
        constructor
        · rintro ⟨h0, h | ⟨_, h⟩⟩
          · exact .inl ⟨h0, h⟩
          · exact .inr h
        · rintro (h | h)
          · exact ⟨h.1, .inl h.2⟩
          · exact ⟨(hA.ha i h.1).1, .inr ⟨by omega, h⟩⟩)
      (fun i j hi => by
        rw [hEl]
        constructor
        · rintro ⟨h0, h | ⟨_, h, _⟩⟩
          · exact h
          · have := (hA.ha i h).2; omega
        · intro h; exact ⟨by omega, .inl h⟩)
      rfl w
    rw [hA.later hp, hB.here] at key
    refine Iff.trans ?_ key
    exact Acc.iff (R := fun i => n0 ≤ i) (fun i hi j => ⟨fun h => ⟨hi, h⟩, fun h => h.2⟩) (fun i j hi h => (he i j hi h).1) (fun _ _ _ => Iff.rfl) (fun j h => by
      rcases catP_fi h with h | h
      · exact (hA.hf j h).1
      · have := hB.hf j h; omega) w
  · intro i hi
    exact hp.1 i (by omega)
  · intro i hi
    refine (linkM_at ?_).trans (hp.2 i (by omega))
    cases e : p.la.testBit i with
    | false => rfl
    | true => have := (hA.ha i e).1; omega
theorem good_alt {has : List MV → Nat → Bool} {n0 : Nat} {p q : Pm} {st st1 : Bs} {A B : List Nat → Prop} (hA : Good has n0 p st A) (hB : Good has st.sets.length q st1 B) (hp : Pre st.sets.length st st1) : Good has n0 (altP p q) st1 (fun w => A w ∨ B w) := by
  have hn := hA.h0
  have hm := hB.h0
  have hl1 := hB.hl
  have he : ∀ i j, n0 ≤ i → Edge st1.fol i j → n0 ≤ j ∧ j < st1.sets.length := fun i j hi h => by
    by_cases hi1 : i < st.sets.length
    · have := hA.he i j hi ((Edge_pre hp hi1).1 h); omega
    · have := hB.he i j (by omega) h; omega
  have hf : ∀ j, (altP p q).fi.testBit j = true → n0 ≤ j ∧ j < st1.sets.length := fun j h => by
    have h : (p.fi ||| q.fi).testBit j = true := h
    rw [Nat.testBit_or, Bool.or_eq_true] at h
    rcases h with h | h
    · have := hA.hf j h; omega
    · have := hB.hf j h; omega
  refine ⟨hl1, by omega, hf, ?_, he, ?_⟩
  · intro j h
    have h : (p.la ||| q.la).testBit j = true := h
    rw [Nat.testBit_or, Bool.or_eq_true] at h
    rcases h with h | h
    · have := hA.ha j h; omega
    · have := hB.ha j h; omega
  · intro w
    have key := alt_acc (E1 := fun i j => n0 ≤ i ∧ Edge st.fol i j) (E2 := Edge st1.fol) (E := fun i j => n0 ≤ i ∧ Edge st1.fol i j) (S := Tk has st1.sets) (p := p) (q := q) (n1 := st.sets.length) (fun i j _ h => (hA.he i j h.1 h.2).2) (fun i j hi h => (hB.he i j hi h).1) (fun j h => (hB.hf j h).1) (fun j h => (hA.hf j h).2) (fun j h => (hA.ha j h).2) (fun j h => (hB.ha j h).1)
      (fun i j hi => by rw [Edge_pre hp hi])
      (fun i j hi => ⟨fun h => h.2, fun h => ⟨by omega, h⟩⟩) w
    rw [hA.later hp, hB.here] at key
    refine Iff.trans ?_ key
    exact Acc.iff (R := fun i => n0 ≤ i) (fun i hi j => ⟨fun h => ⟨hi, h⟩, fun h => h.2⟩) (fun i j hi h => (he i j hi h).1) (fun _ _ _ => Iff.rfl) (fun j h => (hf j h).1) w
theorem good_link {has : List MV → Nat → Bool} {n0 : Nat} {q : Pm} {st : Bs} {A : List Nat → Prop} (hA : Good has n0 q st A) (b : Bool) {B : List Nat → Prop} (h0 : b = true ↔ B []) (h1 : ∀ c w, B (c :: w) ↔ ∃ u v, c :: w = u ++ v ∧ u ≠ [] ∧ A u ∧ St1 A v) : Good has n0 ⟨b, q.fi, q.la⟩ (linkB st q.la q.fi) B ∧ ∀ i, i < n0 → (linkB st q.la q.fi).fol[i]? = st.fol[i]? := by
  have hEl : ∀ i j, Edge (linkB st q.la q.fi).fol i j ↔ Edge st.fol i j ∨ (i < st.fol.length ∧ q.la.testBit i = true ∧ q.fi.testBit j = true) := fun i j => Edge_link
  have hl := hA.hl
  refine ⟨⟨(linkM_len _ _ _).trans hl, hA.h0, hA.hf, hA.ha, fun i j hi h => ?_, fun w => ?_⟩, fun i hi => ?_⟩
  · rcases (hEl i j).1 h with h | ⟨_, _, h⟩
    · exact hA.he i j hi h
    · exact hA.hf j h
  · cases w with
    | nil => exact h0
    | cons c w =>
      rw [h1]
      have key := rep_acc (E1 := Edge st.fol) (E := Edge (linkB st q.la q.fi).fol) (S := Tk has st.sets) (q := q) (r := ⟨b, q.fi, q.la⟩) (fun i j => by
        rw [hEl]
        constructor
        · rintro (h | ⟨_, h⟩)
          · exact .inl h
          · exact .inr h
        · rintro (h | h)
          · exact .inl h
          · exact .inr ⟨by have := hA.ha i h.1; omega, h⟩) rfl rfl (c := c) (w := w)
      rw [hA.here] at key
      exact key
  · refine linkM_at ?_
    cases e : q.la.testBit i with
    | false => rfl
    | true => have := (hA.ha i e).1; omega
theorem St1_cons {A : List Nat → Prop} {c : Nat} {w : List Nat} : St1 A (c :: w) ↔ ∃ u v, c :: w = u ++ v ∧ u ≠ [] ∧ A u ∧ St1 A v := by
  constructor
  · intro h
    generalize hx : c :: w = x at h
    cases h with
    | nil => cases hx
    | @cons u v h1 h2 h3 => exact ⟨u, v, rfl, h1, h2, h3⟩
  · rintro ⟨u, v, e, h1, h2, h3⟩
    rw [e]
    exact .cons h1 h2 h3
theorem Cc_plus {A : List Nat → Prop} {c : Nat} {w : List Nat} : Cc A (St1 A) (c :: w) ↔ ∃ u v, c :: w = u ++ v ∧ u ≠ [] ∧ A u ∧ St1 A v := by
  constructor
  · rintro ⟨u, v, e, h1, h2⟩
    cases u with
    | nil =>
      rw [List.nil_append] at e
      subst e
      exact St1_cons.1 h2
    | cons c' u => exact ⟨c' :: u, v, e, by simp, h1, h2⟩
  · rintro ⟨u, v, e, h1, h2, h3⟩
    exact ⟨u, v, e, h2, h3⟩
mutual
theorem part_good (has : List MV → Nat → Bool) : ∀ (x : Rx) (st : Bs), Wf x → st.fol.length = st.sets.length → Good has st.sets.length (partM x st).1 (partM x st).2 (Lx has x) ∧ Pre st.sets.length st (partM x st).2
  | .mk op a b c d kids, st, hw, hl => by
    by_cases h0 : cnt (.mk op a b c d kids) = 0
    · rw [Lx_zero has _ hw h0, partM, if_pos h0]; exact ⟨good_p0 hl, Pre.rfl'⟩
    rw [partM, if_neg h0, Lx]
    rw [Wf] at hw
    rw [cnt] at h0
    by_cases h1 : op = 1
    · rw [if_pos h1, if_pos h1]; exact good_place hl _
    rw [if_neg h1, if_neg h1]
    rw [if_neg h1] at h0
    by_cases h2 : op = 2
    · rw [if_pos h2, if_pos h2]
      have := cat_good has kids p0M st (fun w => w = []) st.sets.length hw.2 (good_p0 hl)
      rwa [Cc_nil] at this
    rw [if_neg h2, if_neg h2]
    by_cases h3 : op = 3
    · rw [if_pos h3, if_pos h3]
      have := alt_good has kids ⟨false, 0, 0⟩ st (fun _ => False) st.sets.length hw.2 (good_none hl)
      rw [show (fun w => False ∨ LA has kids w) = LA has kids from funext fun w => false_or _] at this
      exact this
    rw [if_neg h3, if_neg h3]
    rw [if_neg (fun h => h.elim h2 h3)] at h0
    by_cases h456 : op = 4 ∨ op = 5 ∨ op = 6
    · exact rep_good has op kids st hw.2 hl h456
    · rw [if_neg h456] at h0; exact (h0 rfl).elim
theorem cat_good (has : List MV → Nat → Bool) : ∀ (l : List Rx) (p : Pm) (st : Bs) (A : List Nat → Prop) (n0 : Nat), WfL l → Good has n0 p st A → Good has n0 (catM l p st).1 (catM l p st).2 (Cc A (LC has l)) ∧ Pre n0 st (catM l p st).2
  | [], p, st, A, n0, _, hA => by
    rw [catM, LC]
    rw [show Cc A (fun w => w = []) = A from by
      funext w
      apply propext
      constructor
      · rintro ⟨u, v, rfl, h, rfl⟩; rwa [List.append_nil]
      · intro h; exact ⟨w, [], (List.append_nil w).symm, h, rfl⟩]
    exact ⟨hA, Pre.rfl'⟩
  | k :: r, p, st, A, n0, hw, hA => by
    rw [catM, LC, ← Cc_assoc]
    rw [WfL] at hw
    have h1 := part_good has k st hw.1 hA.hl
    have h2 := good_cat hA h1.1 h1.2
    have h3 := cat_good has r _ _ _ n0 hw.2 h2.1
    exact ⟨h3.1, h2.2.trans h3.2 (Nat.le_refl _)⟩
theorem alt_good (has : List MV → Nat → Bool) : ∀ (l : List Rx) (p : Pm) (st : Bs) (A : List Nat → Prop) (n0 : Nat), WfL l → Good has n0 p st A → Good has n0 (altM l p st).1 (altM l p st).2 (fun w => A w ∨ LA has l w) ∧ Pre n0 st (altM l p st).2
  | [], p, st, A, n0, _, hA => by
    rw [altM, LA]
    rw [show (fun w => A w ∨ False) = A from funext fun w => or_false _]
    exact ⟨hA, Pre.rfl'⟩
  | k :: r, p, st, A, n0, hw, hA => by
    rw [altM, LA]
    rw [WfL] at hw
    have h1 := part_good has k st hw.1 hA.hl
    have h2 := good_alt hA h1.1 h1.2
    have h3 := alt_good has r _ _ _ n0 hw.2 h2
    rw [show (fun w => (A w ∨ Lx has k w) ∨ LA has r w) = fun w => A w ∨ Lx has k w ∨ LA has r w from funext fun w => propext or_assoc] at h3
    exact ⟨h3.1, Pre.trans ⟨fun i hi => h1.2.1 i (by have := hA.h0; omega), fun i hi => h1.2.2 i (by have := hA.h0; omega)⟩ h3.2 (Nat.le_refl _)⟩
theorem rep_good (has : List MV → Nat → Bool) (op : Int) : ∀ (l : List Rx) (st : Bs), WfL l → st.fol.length = st.sets.length → (op = 4 ∨ op = 5 ∨ op = 6) → Good has st.sets.length (rep1M op l st).1 (rep1M op l st).2 (if op = 4 then St1 (L1 has l) else if op = 5 then Cc (L1 has l) (St1 (L1 has l)) else if op = 6 then (fun w => w = [] ∨ L1 has l w) else (fun w => w = [])) ∧ Pre st.sets.length st (rep1M op l st).2
  | [], st, _, hl, _ => by
    rw [rep1M, L1, St1_nil, Cc_nil]
    have e : (if op = 4 then (fun w : List Nat => w = []) else if op = 5 then (fun w => w = []) else if op = 6 then (fun w => w = [] ∨ w = []) else (fun w => w = [])) = fun w => w = [] := by
      split
      · rfl
      split
      · rfl
      split
      · funext w; simp
      · rfl
    rw [e]
    exact ⟨good_p0 hl, Pre.rfl'⟩
  | k :: r, st, hw, hl, h456 => by
    rw [rep1M, L1]
    rw [WfL] at hw
    have h1 := part_good has k st hw.1 hl
    generalize partM k st = q at h1 ⊢
    obtain ⟨p, st1⟩ := q
    obtain ⟨hA, hP⟩ := h1
    have hA : Good has st.sets.length p st1 (Lx has k) := hA
    have hP : Pre st.sets.length st st1 := hP
    unfold repP
    by_cases h4 : op = 4
    · subst h4
      show Good has st.sets.length ⟨true, p.fi, p.la⟩ (linkB st1 p.la p.fi) (St1 (Lx has k)) ∧ Pre st.sets.length st (linkB st1 p.la p.fi)
      obtain ⟨g1, g2⟩ := good_link hA true (B := St1 (Lx has k)) ⟨fun _ => .nil, fun _ => rfl⟩ (fun c w => St1_cons)
      exact ⟨g1, hP.1, fun i hi => (g2 i hi).trans (hP.2 i hi)⟩
    by_cases h5 : op = 5
    · subst h5
      show Good has st.sets.length ⟨p.null, p.fi, p.la⟩ (linkB st1 p.la p.fi) (Cc (Lx has k) (St1 (Lx has k))) ∧ Pre st.sets.length st (linkB st1 p.la p.fi)
      obtain ⟨g1, g2⟩ := good_link hA p.null (B := Cc (Lx has k) (St1 (Lx has k))) (by
        have := hA.ac []
        refine Iff.trans this ?_
        constructor
        · intro h; exact ⟨[], [], rfl, h, .nil⟩
        · rintro ⟨u, v, e, h, _⟩
          obtain ⟨rfl, rfl⟩ := List.append_eq_nil_iff.1 e.symm
          exact h) (fun c w => Cc_plus)
      exact ⟨g1, hP.1, fun i hi => (g2 i hi).trans (hP.2 i hi)⟩
    have h6 : op = 6 := by omega
    subst h6
    show Good has st.sets.length ⟨true, p.fi, p.la⟩ st1 (fun w => w = [] ∨ Lx has k w) ∧ Pre st.sets.length st st1
    refine ⟨⟨hA.hl, hA.h0, hA.hf, hA.ha, hA.he, fun w => ?_⟩, hP⟩
    cases w with
    | nil => exact ⟨fun _ => .inl rfl, fun _ => rfl⟩
    | cons c w =>
      refine Iff.trans (hA.ac (c :: w)) ?_
      constructor
      · intro h; exact .inr h
      · rintro (h | h)
        · cases h
        · exact h
end
def Inv1 (k : Nat) (s : List Nat × List Nat) : Prop := ∀ j, j ∈ s.2 ↔ s.1[j]? = some k
theorem ent1_mem {sets : List (List MV)} {c k : Nat} {s : List Nat × List Nat} {i : Nat} (h : Inv1 k s) : Inv1 k (ent1 sets c k s i) ∧ ∀ j, j ∈ (ent1 sets c k s i).2 ↔ j ∈ s.2 ∨ (j = i ∧ j < s.1.length ∧ hasA sets c j = true) := by
  unfold ent1
  split
  · rename_i hh
    have hm : ∀ j, j ∈ s.2 ++ [i] ↔ j ∈ s.2 ∨ j = i := fun j => by rw [List.mem_append, List.mem_singleton]
    refine ⟨fun j => ?_, fun j => ?_⟩
    · show j ∈ s.2 ++ [i] ↔ (s.1.set i k)[j]? = some k
      rw [hm, List.getElem?_set, h j]
      by_cases e : i = j
      · subst e; simp [hh.1]
      · rw [if_neg e]
        constructor
        · rintro (h1 | h1)
          · exact h1
          · exact (e h1.symm).elim
        · exact .inl
    · show j ∈ s.2 ++ [i] ↔ _
      rw [hm]
      constructor
      · rintro (h1 | h1)
        · exact .inl h1
        · subst h1; exact .inr ⟨rfl, hh.1, hh.2.2⟩
      · rintro (h1 | h1)
        · exact .inl h1
        · exact .inr h1.1
  · rename_i hh
    refine ⟨h, fun j => ⟨.inl, ?_⟩⟩
    rintro (h1 | ⟨rfl, h1, h2⟩)
    · exact h1
    · refine (h j).2 ?_
      by_cases e : s.1[j]? = some k
      · exact e
      · exact (hh ⟨h1, e, h2⟩).elim
theorem entP_mem {sets : List (List MV)} {c k : Nat} : ∀ {l : List Nat} {s : List Nat × List Nat}, Inv1 k s → Inv1 k (entP sets c k s l) ∧ ∀ j, j ∈ (entP sets c k s l).2 ↔ j ∈ s.2 ∨ (j ∈ l ∧ j < s.1.length ∧ hasA sets c j = true)
  | [], s, h => ⟨h, fun j => by
    show j ∈ s.2 ↔ _
    simp⟩
  | i :: l, s, h => by
    obtain ⟨h1, h2⟩ := ent1_mem (sets := sets) (c := c) (i := i) h
    obtain ⟨h3, h4⟩ := entP_mem (sets := sets) (c := c) (l := l) h1
    refine ⟨h3, fun j => ?_⟩
    have h4 := h4 j
    rw [(ent1_len sets c k s i).1, h2] at h4
    refine h4.trans ?_
    rw [List.mem_cons]
    constructor
    · rintro ((a | a) | a)
      · exact .inl a
      · exact .inr ⟨.inl a.1, a.2⟩
      · exact .inr ⟨.inr a.1, a.2⟩
    · rintro (a | ⟨a | a, b⟩)
      · exact .inl (.inl a)
      · exact .inl (.inr ⟨a, b⟩)
      · exact .inr ⟨a, b⟩
theorem folP_mem {sets : List (List MV)} {fo : List (List Nat)} {c k : Nat} : ∀ {l : List Nat} {s : List Nat × List Nat}, Inv1 k s → Inv1 k (folP sets fo c k s l) ∧ ∀ j, j ∈ (folP sets fo c k s l).2 ↔ j ∈ s.2 ∨ ((∃ i ∈ l, ∃ t, fo[i]? = some t ∧ j ∈ t) ∧ j < s.1.length ∧ hasA sets c j = true)
  | [], s, h => ⟨h, fun j => by
    show j ∈ s.2 ↔ _
    simp⟩
  | i :: l, s, h => by
    have h12 : Inv1 k (fol1 sets fo c k s i) ∧ (fol1 sets fo c k s i).1.length = s.1.length ∧ ∀ j, j ∈ (fol1 sets fo c k s i).2 ↔ j ∈ s.2 ∨ ((∃ t, fo[i]? = some t ∧ j ∈ t) ∧ j < s.1.length ∧ hasA sets c j = true) := by
      unfold fol1
      cases e : fo[i]? with
      | none => exact ⟨h, rfl, fun j => ⟨.inl, fun hh => hh.elim id (fun hh => by obtain ⟨⟨t, q, _⟩, _⟩ := hh; cases q)⟩⟩
      | some t =>
        obtain ⟨a, b⟩ := entP_mem (sets := sets) (c := c) (l := t) h
        refine ⟨a, (entP_len _ _ _ _ _).1, fun j => (b j).trans ?_⟩
        constructor
        · rintro (q | ⟨q, q2⟩)
          · exact .inl q
          · exact .inr ⟨⟨t, rfl, q⟩, q2⟩
        · rintro (q | ⟨⟨t', q0, q⟩, q2⟩)
          · exact .inl q
          · injection q0 with q0
            subst q0
            exact .inr ⟨q, q2⟩
    obtain ⟨h1, hl, h2⟩ := h12
    obtain ⟨h3, h4⟩ := folP_mem (sets := sets) (fo := fo) (c := c) (l := l) h1
    refine ⟨h3, fun j => ?_⟩
    have h4 := h4 j
    rw [hl, h2] at h4
    refine h4.trans ?_
    constructor
    · rintro ((a | ⟨a, b⟩) | ⟨⟨x, a, b⟩, d⟩)
      · exact .inl a
      · exact .inr ⟨⟨i, List.mem_cons_self, a⟩, b⟩
      · exact .inr ⟨⟨x, List.mem_cons_of_mem _ a, b⟩, d⟩
    · rintro (a | ⟨⟨x, a, b⟩, d⟩)
      · exact .inl (.inl a)
      · rcases List.mem_cons.1 a with a | a
        · subst a; exact .inl (.inr ⟨b, d⟩)
        · exact .inr ⟨⟨x, a, b⟩, d⟩
theorem stepP_mem {sets : List (List MV)} {fi : List Nat} {fo : List (List Nat)} {c k : Nat} {tk nw : List Nat} (h : ∀ y ∈ tk, y < k) : Inv1 k (stepP sets fi fo c k tk nw) ∧ ∀ j, j ∈ (stepP sets fi fo c k tk nw).2 ↔ ((k = 1 ∧ j ∈ fi) ∨ ∃ i ∈ nw, ∃ t, fo[i]? = some t ∧ j ∈ t) ∧ j < tk.length ∧ hasA sets c j = true := by
  have h0 : Inv1 k (tk, []) := fun j => by
    constructor
    · intro q; cases q
    · intro q
      have := h k (List.mem_of_getElem? q)
      omega
  have hb : Inv1 k (begP sets fi c k tk) ∧ ∀ j, j ∈ (begP sets fi c k tk).2 ↔ (k = 1 ∧ j ∈ fi) ∧ j < tk.length ∧ hasA sets c j = true := by
    unfold begP
    split
    · rename_i e
      obtain ⟨a, b⟩ := entP_mem (sets := sets) (c := c) (l := fi) h0
      refine ⟨a, fun j => (b j).trans ?_⟩
      constructor
      · rintro (q | ⟨q, q2⟩)
        · cases q
        · exact ⟨⟨e, q⟩, q2⟩
      · rintro ⟨⟨_, q⟩, q2⟩; exact .inr ⟨q, q2⟩
    · rename_i e
      refine ⟨h0, fun j => ⟨fun q => (by cases q), fun q => (e q.1.1).elim⟩⟩
  have hl := (begP_cnt (sets := sets) (fi := fi) (c := c) h).2
  obtain ⟨a, b⟩ := folP_mem (sets := sets) (fo := fo) (c := c) (l := nw) hb.1
  refine ⟨a, fun j => ?_⟩
  have b := b j
  rw [hl, hb.2] at b
  refine b.trans ?_
  constructor
  · rintro (⟨q, q2⟩ | ⟨q, q2⟩)
    · exact ⟨.inl q, q2⟩
    · exact ⟨.inr q, q2⟩
  · rintro ⟨q | q, q2⟩
    · exact .inl ⟨q, q2⟩
    · exact .inr ⟨q, q2⟩
def tells (la : List Nat) (o : Option (Nat × List Nat × List Nat)) : Bool := match o with
  | none => false
  | some (k, tk, _) => la.any fun i => decide (tk[i]? = some k)
theorem run_path {sets : List (List MV)} {fi la : List Nat} {fo : List (List Nat)} {E S : Nat → Nat → Prop} {m : Nat} (hE : ∀ i j, (∃ t, fo[i]? = some t ∧ j ∈ t) ↔ E i j) (hS : ∀ j c, (j < sets.length ∧ hasA sets c j = true) ↔ S j c) (hla : ∀ j, j ∈ la ↔ m.testBit j = true) : ∀ (w : List Nat) (k : Nat) (tk nw : List Nat), 1 ≤ k → Inv1 k (tk, nw) → tk.length = sets.length → (∀ y ∈ tk, y ≤ k) → (tells la (runP sets fi fo (some (k, tk, nw)) w) = true ↔ ∃ j ∈ nw, Pth E S m j w)
  | [], k, tk, nw, _, hI, _, _ => by
    show (la.any fun i => decide (tk[i]? = some k)) = true ↔ ∃ j ∈ nw, m.testBit j = true
    rw [List.any_eq_true]
    constructor
    · rintro ⟨i, h1, h2⟩; exact ⟨i, (hI i).2 (of_decide_eq_true h2), (hla i).1 h1⟩
    · rintro ⟨i, h1, h2⟩; exact ⟨i, (hla i).2 h2, decide_eq_true ((hI i).1 h1)⟩
  | c :: w, k, tk, nw, hk, _, ht, hle => by
    have hlt : ∀ y ∈ tk, y < k + 1 := fun y hy => Nat.lt_succ_of_le (hle y hy)
    obtain ⟨h1, h2⟩ := stepP_mem (sets := sets) (fi := fi) (fo := fo) (c := c) (nw := nw) hlt
    have hl := stepP_len (sets := sets) (fi := fi) (fo := fo) (c := c) (nw := nw) hlt
    have hm : ∀ j, j ∈ (stepP sets fi fo c (k + 1) tk nw).2 ↔ (∃ i ∈ nw, E i j) ∧ S j c := fun j => by
      rw [h2, ht, hS]
      constructor
      · rintro ⟨q | ⟨i, q1, q2⟩, q3⟩
        · omega
        · exact ⟨⟨i, q1, (hE i j).1 q2⟩, q3⟩
      · rintro ⟨⟨i, q1, q2⟩, q3⟩; exact ⟨.inr ⟨i, q1, (hE i j).2 q2⟩, q3⟩
    show tells la (runP sets fi fo (run1 sets fi fo (some (k, tk, nw)) c) w) = true ↔ ∃ i ∈ nw, ∃ j, E i j ∧ S j c ∧ Pth E S m j w
    have key : (∃ i ∈ nw, ∃ j, E i j ∧ S j c ∧ Pth E S m j w) ↔ ∃ j ∈ (stepP sets fi fo c (k + 1) tk nw).2, Pth E S m j w := by
      constructor
      · rintro ⟨i, q1, j, q2, q3, q4⟩; exact ⟨j, (hm j).2 ⟨⟨i, q1, q2⟩, q3⟩, q4⟩
      · rintro ⟨j, q, q4⟩
        obtain ⟨⟨i, q1, q2⟩, q3⟩ := (hm j).1 q
        exact ⟨i, q1, j, q2, q3, q4⟩
    rw [key, run1_some]
    split
    · exact run_path hE hS hla w (k + 1) _ _ (by omega) h1 (hl.1.trans ht) (stepP_le hlt)
    · rename_i h0
      have h0 : (stepP sets fi fo c (k + 1) tk nw).2 = [] := List.length_eq_zero_iff.1 (by omega)
      rw [runP_none, h0]
      constructor
      · intro q; cases q
      · rintro ⟨j, q, _⟩; cases q
theorem takes_acc {sets : List (List MV)} {fi la : List Nat} {fo : List (List Nat)} {E S : Nat → Nat → Prop} {p : Pm} (hE : ∀ i j, (∃ t, fo[i]? = some t ∧ j ∈ t) ↔ E i j) (hS : ∀ j c, (j < sets.length ∧ hasA sets c j = true) ↔ S j c) (hla : ∀ j, j ∈ la ↔ p.la.testBit j = true) (hfi : ∀ j, j ∈ fi ↔ p.fi.testBit j = true) (w : List Nat) : takesP sets p.null fi la fo w = true ↔ Acc E S p w := by
  cases w with
  | nil => exact Iff.rfl
  | cons c w =>
    have hlt : ∀ y ∈ List.replicate sets.length 0, y < 0 + 1 := fun y hy => by rw [(List.mem_replicate.1 hy).2]; omega
    obtain ⟨h1, h2⟩ := stepP_mem (sets := sets) (fi := fi) (fo := fo) (c := c) (nw := []) hlt
    have hl := stepP_len (sets := sets) (fi := fi) (fo := fo) (c := c) (nw := []) hlt
    rw [List.length_replicate] at h2 hl
    have hm : ∀ j, j ∈ (stepP sets fi fo c (0 + 1) (List.replicate sets.length 0) []).2 ↔ p.fi.testBit j = true ∧ S j c := fun j => by
      rw [h2, hS, hfi]
      constructor
      · rintro ⟨q | ⟨i, q1, q2⟩, q3⟩
        · exact ⟨q.2, q3⟩
        · cases q1
      · rintro ⟨q, q3⟩; exact ⟨.inl ⟨rfl, q⟩, q3⟩
    show tells la (runP sets fi fo (run1 sets fi fo (some (0, List.replicate sets.length 0, [])) c) w) = true ↔ ∃ j, p.fi.testBit j = true ∧ S j c ∧ Pth E S p.la j w
    have key : (∃ j, p.fi.testBit j = true ∧ S j c ∧ Pth E S p.la j w) ↔ ∃ j ∈ (stepP sets fi fo c (0 + 1) (List.replicate sets.length 0) []).2, Pth E S p.la j w := by
      constructor
      · rintro ⟨j, q2, q3, q4⟩; exact ⟨j, (hm j).2 ⟨q2, q3⟩, q4⟩
      · rintro ⟨j, q, q4⟩
        obtain ⟨q2, q3⟩ := (hm j).1 q
        exact ⟨j, q2, q3, q4⟩
    rw [key, run1_some]
    split
    · exact run_path hE hS hla w (0 + 1) (stepP sets fi fo c (0 + 1) (List.replicate sets.length 0) []).1 (stepP sets fi fo c (0 + 1) (List.replicate sets.length 0) []).2 (by omega) h1 hl.1 (stepP_le hlt)
    · rename_i h0
      have h0 : (stepP sets fi fo c (0 + 1) (List.replicate sets.length 0) []).2 = [] := List.length_eq_zero_iff.1 (by omega)
      rw [runP_none, h0]
      constructor
      · intro q; cases q
      · rintro ⟨j, q, _⟩; cases q
theorem mem_bits {N n j : Nat} : j ∈ bitsOf N n ↔ j < n ∧ N.testBit j = true := by
  unfold bitsOf
  rw [List.mem_filter, List.mem_range]
theorem takes_lang (x : Rx) (hw : Wf x) (hc : cnt x ≤ 150) (w : List Nat) : takesP (partM x ⟨[], []⟩).2.sets (partM x ⟨[], []⟩).1.null (bitsOf (partM x ⟨[], []⟩).1.fi 150) (bitsOf (partM x ⟨[], []⟩).1.la 150) ((partM x ⟨[], []⟩).2.fol.map fun N => bitsOf N 150) w = true ↔ Lx hasS x w := by
  have hG := (part_good hasS x ⟨[], []⟩ hw rfl).1
  have hlen := partM_len x ⟨[], []⟩
  have hlen : (partM x ⟨[], []⟩).2.sets.length = cnt x := by rw [hlen]; exact Nat.zero_add _
  refine Iff.trans (takes_acc (E := Edge (partM x ⟨[], []⟩).2.fol) (S := Tk hasS (partM x ⟨[], []⟩).2.sets) (fun i j => ?_) (fun j c => ?_) (fun j => ?_) (fun j => ?_) w) (hG.ac w)
  · unfold Edge
    rw [List.getElem?_map]
    constructor
    · rintro ⟨t, h1, h2⟩
      cases e : (partM x ⟨[], []⟩).2.fol[i]? with
      | none => rw [e] at h1; cases h1
      | some N =>
        rw [e] at h1
        injection h1 with h1
        subst h1
        exact ⟨N, rfl, (mem_bits.1 h2).2⟩
    · rintro ⟨N, h1, h2⟩
      refine ⟨bitsOf N 150, by rw [h1]; rfl, mem_bits.2 ⟨?_, h2⟩⟩
      have := (hG.he i j (Nat.zero_le _) ⟨N, h1, h2⟩).2
      omega
  · unfold Tk hasA
    constructor
    · rintro ⟨h1, h2⟩
      rw [List.getElem?_eq_getElem h1] at h2 ⊢
      exact ⟨_, rfl, h2⟩
    · rintro ⟨s, h1, h2⟩
      refine ⟨(List.getElem?_eq_some_iff.1 h1).1, ?_⟩
      rw [h1]
      exact h2
  · rw [mem_bits]
    exact ⟨fun h => h.2, fun h => ⟨by have := (hG.ha j h).2; omega, h⟩⟩
  · rw [mem_bits]
    exact ⟨fun h => h.2, fun h => ⟨by have := (hG.hf j h).2; omega, h⟩⟩
mutual
theorem partM_st4 : ∀ (x : Rx) (st : Bs), (∀ s ∈ st.sets, ∃ a b c d, s = st4 a b c d) → ∀ s ∈ (partM x st).2.sets, ∃ a b c d, s = st4 a b c d
  | .mk op a b c d kids, st, h => by
    rw [partM]
    split
    · exact h
    split
    · intro s hs
      rcases List.mem_append.1 hs with hs | hs
      · exact h s hs
      · rw [List.mem_singleton] at hs; exact ⟨a, b, c, d, hs⟩
    split
    · exact catM_st4 kids _ st h
    split
    · exact altM_st4 kids _ st h
    · exact rep1M_st4 op kids st h
theorem catM_st4 : ∀ (l : List Rx) (p : Pm) (st : Bs), (∀ s ∈ st.sets, ∃ a b c d, s = st4 a b c d) → ∀ s ∈ (catM l p st).2.sets, ∃ a b c d, s = st4 a b c d
  | [], p, st, h => by rw [catM]; exact h
  | k :: r, p, st, h => by rw [catM]; exact catM_st4 r _ _ (partM_st4 k st h)
theorem altM_st4 : ∀ (l : List Rx) (p : Pm) (st : Bs), (∀ s ∈ st.sets, ∃ a b c d, s = st4 a b c d) → ∀ s ∈ (altM l p st).2.sets, ∃ a b c d, s = st4 a b c d
  | [], p, st, h => by rw [altM]; exact h
  | k :: r, p, st, h => by rw [altM]; exact altM_st4 r _ _ (partM_st4 k st h)
theorem rep1M_st4 : ∀ (op : Int) (l : List Rx) (st : Bs), (∀ s ∈ st.sets, ∃ a b c d, s = st4 a b c d) → ∀ s ∈ (rep1M op l st).2.sets, ∃ a b c d, s = st4 a b c d
  | op, [], st, h => by rw [rep1M]; exact h
  | op, k :: r, st, h => by rw [rep1M, repP_sets]; exact partM_st4 k st h
end
theorem takes_of {M : MH} {lo : Nat} {m bv : MV} {x : Rx} {w : List Nat} (hlo : M.lo ≤ M.n) (hp : PosAt lo M m (partM x ⟨[], []⟩).1 (partM x ⟨[], []⟩).2) (hw : Wf x) (hc : cnt x ≤ 150) (hb : RowAt M 1 bv (bvs w)) (hbl : w.length ≤ 100000) (h256 : ∀ c ∈ w, c < 256) : Cp fns 11 [m, bv] M fun m' M' => (∃ r, m' = .b r ∧ (r = true ↔ Lx hasS x w)) ∧ Ext M M' := by
  obtain ⟨vs, vf, vl, vo, rfl, h1, h2, h3, es, h4, h5, h6⟩ := hp
  have hl := takes_lang x hw hc w
  have hn := partM_len x ⟨[], []⟩
  have hn : (partM x ⟨[], []⟩).2.sets.length = cnt x := by rw [hn]; exact Nat.zero_add _
  have hf := (part_good hasS x ⟨[], []⟩ hw rfl).1.hl
  refine (takes_any hlo h1.row (partM_st4 x ⟨[], []⟩ (fun s hs => (by cases hs))) h2.row h3.row ⟨es, h4.row, h5, fun i a b u v => (h6 i a b u v).row⟩ hb (by omega) (by have := bitsOf_len (partM x ⟨[], []⟩).1.fi 150; omega) (by have := bitsOf_len (partM x ⟨[], []⟩).1.la 150; omega) (fun l hl => ?_) (by rw [List.length_map]; omega) hbl h256).mono ?_
  · obtain ⟨N, _, rfl⟩ := List.mem_map.1 hl
    have := bitsOf_len N 150
    omega
  · rintro m' M' ⟨rfl, hx⟩
    exact ⟨⟨_, rfl, hl⟩, hx⟩
theorem row_hi {M : MH} {v : MV} {w : List Nat} {i : Nat} (h : RowAt M 1 v (bvs w)) (hi : i ≤ w.length) : RowAt M 1 (cutHi i v) (bvs (w.take i)) := by
  have e : bvs (w.take i) = (bvs w).take i := by unfold bvs; rw [List.map_take]
  have hl := bvs_len w
  rw [e]
  obtain ⟨hs, ⟨rfl, h2⟩ | ⟨id, off, ed, ro, s, c, rfl, h2, h3, h4⟩⟩ := h
  · rw [h2]; exact ⟨fun x hx => (by simp at hx), .inl ⟨rfl, by simp⟩⟩
  · refine ⟨fun x hx => hs x (List.mem_of_mem_take hx), .inr ⟨id, off, ed, ro, s, c, ?_, h2, h3, ?_⟩⟩
    · show MV.sl id off i ed = _
      rw [List.length_take, Nat.min_eq_left (by omega)]
    · rw [← List.take_append_drop i (bvs w), List.flatten_append] at h4
      exact h4.left
theorem row_lo {M : MH} {v : MV} {w : List Nat} {i : Nat} (h : RowAt M 1 v (bvs w)) (hi : i ≤ w.length) : RowAt M 1 (cutLo 1 i v) (bvs (w.drop i)) := by
  have e : bvs (w.drop i) = (bvs w).drop i := by unfold bvs; rw [List.map_drop]
  have hl := bvs_len w
  rw [e]
  obtain ⟨hs, ⟨rfl, h2⟩ | ⟨id, off, ed, ro, s, c, rfl, h2, h3, h4⟩⟩ := h
  · rw [h2]; exact ⟨fun x hx => (by simp at hx), .inl ⟨rfl, by simp⟩⟩
  · refine ⟨fun x hx => hs x (List.mem_of_mem_drop hx), .inr ⟨id, off + i * 1, ed + i, ro, s, c, ?_, h2, h3, ?_⟩⟩
    · show MV.sl id (off + i * 1) ((bvs w).length - i) (ed + i) = _
      rw [List.length_drop]
    · have hz : ((bvs w).take i).flatten.length = i * 1 := by
        rw [Sized.flat (sz := 1) (fun x hx => hs x (List.mem_of_mem_take hx)), List.length_take, Nat.min_eq_left (by omega)]
      rw [← List.take_append_drop i (bvs w), List.flatten_append] at h4
      have := h4.right
      rwa [hz] at this
def XAt (M : MH) : MV → Rx → Prop
  | v, .mk op a b c d kids => ∃ kv, v = .ag [.i .i64 op, .i .u64 a, .i .u64 b, .i .u64 c, .i .u64 d, kv] ∧ isSl kv = true ∧ slen kv = kids.length ∧ NodesAt M kids (sid kv) (soff kv)
theorem XAt.ext {M M' : MH} {v : MV} {x : Rx} (h : XAt M v x) (k : Ext M M') : XAt M' v x := by
  obtain ⟨op, a, b, c, d, kids⟩ := x
  obtain ⟨kv, h1, h2, h3, h4⟩ := h
  exact ⟨kv, h1, h2, h3, h4.ext k⟩
theorem NodeAt.xat {M : MH} {x : Rx} {id off : Nat} (h : NodeAt M x id off) : ∃ t v, M.get id = some (.cs false 6 t) ∧ (getN t 6 off).map MV.ag = some v ∧ XAt M v x := by
  obtain ⟨op, a, b, c, d, kids⟩ := x
  unfold NodeAt at h
  obtain ⟨t, kv, h1, h2, h3, h4, h5, h6⟩ := h
  exact ⟨t, _, h1, by rw [show getN t 6 off = some _ from h3.getN]; rfl, kv, rfl, h4, h5, h6⟩
mutual
def Wk : Rx → Prop
  | .mk op _ _ _ _ kids => (2 ≤ op ∧ op ≤ 6 → kids ≠ []) ∧ WkL kids
def WkL : List Rx → Prop
  | [] => True
  | k :: r => Wk k ∧ WkL r
end
mutual
theorem Wk.wf : ∀ {x : Rx}, Wk x → Wf x
  | .mk op a b c d kids, h => by
    rw [Wk] at h
    rw [Wf]
    exact ⟨fun e => h.1 (by omega), WkL.wf h.2⟩
theorem WkL.wf : ∀ {l : List Rx}, WkL l → WfL l
  | [], _ => by rw [WfL]; trivial
  | k :: r, h => by
    rw [WkL] at h
    rw [WfL]
    exact ⟨Wk.wf h.1, WkL.wf h.2⟩
end
theorem WkL.get : ∀ {l : List Rx} {i : Nat} {x : Rx}, WkL l → l[i]? = some x → Wk x
  | [], _, _, _, h => by simp at h
  | k :: r, 0, x, hw, h => by
    rw [WkL] at hw
    simp only [List.getElem?_cons_zero, Option.some.injEq] at h
    subst h; exact hw.1
  | k :: r, i + 1, x, hw, h => by
    rw [WkL] at hw
    rw [List.getElem?_cons_succ] at h
    exact WkL.get hw.2 h
def TkPost (M : MH) (x : Rx) (w : List Nat) (m : MV) (M' : MH) : Prop := (∃ r, m = .b r ∧ (r = true ↔ Lx hasS x w)) ∧ Ext M M'
def TkIH (F : Nat) : Prop := ∀ (M : MH) (v : MV) (y : Rx) (bv : MV) (w : List Nat), M.lo ≤ M.n → XAt M v y → Wk y → RowAt M 1 bv (bvs w) → wei y + w.length ≤ F → (∀ c ∈ w, c < 256) → Cp fns 12 [v, bv, .i .i64 (F : Int)] M (TkPost M y w)
structure TkAt (M : MH) (f : Fr) (M1 : MH) (op a b c d : Int) (kv bv : MV) (F : Nat) (bx : Nat) (t : Ev.T MV) : Prop where
  h1 : X.ev f (.t q1) = bv
  h2 : X.ev f (.t q2) = .i .i64 ((F : Int) + 1)
  h3 : X.ev f (.t q3) = .p bx 0
  g : M1.get bx = some (.cs false 6 t)
  lt : bx < M1.n
  at_ : At t 0 [.i .i64 op, .i .u64 a, .i .u64 b, .i .u64 c, .i .u64 d, kv]
  ext : Ext M M1
theorem take_in {M : MH} {op a b c d : Int} {kv bv : MV} {F : Nat} {P : MV → MH → Prop} (hlo : M.lo ≤ M.n) (h : ∀ f M1 bx t, TkAt M f M1 op a b c d kv bv F bx t → Wp fns K12_18 f M1 (retQ F12 P)) : Cp fns 12 [.ag [.i .i64 op, .i .u64 a, .i .u64 b, .i .u64 c, .i .u64 d, kv], bv, .i .i64 ((F + 1 : Nat) : Int)] M P := by
  refine Cp_call (fn := F12) (by kernel_rfl) (Nat.le_of_ble_eq_true rfl) ?_
  show Wp fns B12 (T.set q2 (some (.i .i64 ((F + 1 : Nat) : Int))) (T.set q1 (some bv) (T.set q0 (some (.ag [.i .i64 op, .i .u64 a, .i .u64 b, .i .u64 c, .i .u64 d, kv])) T.lf))) M _
  unfold B12
  have hU : isU (.ag [.i .i64 op, .i .u64 a, .i .u64 b, .i .u64 c, .i .u64 d, kv]) = false := rfl
  have hcl : MV.cells (.ag [.i .i64 op, .i .u64 a, .i .u64 b, .i .u64 c, .i .u64 d, kv]) = [.i .i64 op, .i .u64 a, .i .u64 b, .i .u64 c, .i .u64 d, kv] := rfl
  have hlen : [MV.i .i64 op, .i .u64 a, .i .u64 b, .i .u64 c, .i .u64 d, kv].length = 6 := rfl
  have hF : decide (((F + 1 : Nat) : Int) < 0) = false := decide_eq_false (by omega)
  simp (maxSteps := 4000000) (disch := first | omega | assumption | (simp only [bxS, bxV, stOk, Nat.reduceBEq, Nat.reduceEqDiff, Nat.reduceAdd]; done) | (simp only [bxU]; omega) | ((try apply has_setN); apply has_ofL; simp only [bxL]; omega)) only [↓bxD, bxP, bxQ, bxQ2, Nat.reduceBEq, reduceCtorEq, Nat.reduceAdd, Nat.reduceSub, Nat.reduceMul, Nat.reduceLeDiff, Nat.reduceLT, bxR, hU, hcl, hlen, hF]
  refine h _ _ M.n _ ⟨by simp only [bxP, bxQ, bxQ2, reduceCtorEq, hU, hcl, hlen, hF], by simp only [bxP, bxQ, bxQ2, reduceCtorEq, hU, hcl, hlen, hF] <;> rfl, by simp only [bxP, bxQ, bxQ2, reduceCtorEq, hU, hcl, hlen, hF], push_new _, Nat.lt_succ_self _, at_ofL _, .push M _⟩
theorem TkAt.more {M : MH} {f : Fr} {M1 : MH} {op a b c d : Int} {kv bv : MV} {F bx : Nat} {t : Ev.T MV} (h : TkAt M f M1 op a b c d kv bv F bx t) (hlo : M.lo ≤ M.n) : M1.lo ≤ M1.n ∧ cget t 0 = some (.i .i64 op) ∧ getN t 4 1 = some (st4 a b c d) ∧ cget t 5 = some kv := by
  refine ⟨by have := h.ext.lo; have := h.ext.n; omega, h.at_ 0 _ rfl, (show At t 1 (st4 a b c d) from fun j x hj => ?_).getN, h.at_ 5 _ rfl⟩
  have h4 : j < 4 := (List.getElem?_eq_some_iff.1 hj).1
  have := h.at_ (1 + j) x (by rw [Nat.add_comm, List.getElem?_cons_succ]; match j, h4 with | 0, _ => exact hj | 1, _ => exact hj | 2, _ => exact hj | 3, _ => exact hj)
  rwa [Nat.zero_add] at this
theorem take_set {M : MH} {a b c d : Int} {kids : List Rx} {v bv : MV} {w : List Nat} {F : Nat} (hlo : M.lo ≤ M.n) (hX : XAt M v (.mk 1 a b c d kids)) (hb : RowAt M 1 bv (bvs w)) (h256 : ∀ c ∈ w, c < 256) : Cp fns 12 [v, bv, .i .i64 ((F + 1 : Nat) : Int)] M (TkPost M (.mk 1 a b c d kids) w) := by
  obtain ⟨kv, rfl, k1, k2, k3⟩ := hX
  obtain ⟨b1, b2⟩ := hb.sl
  rw [bvs_len] at b2
  refine take_in hlo fun f M1 bx t hT => ?_
  obtain ⟨hlo1, c0, c1, c5⟩ := hT.more hlo
  obtain ⟨h1, h2, h3, g1, hlt, _, hx1⟩ := hT
  simp only [q1, q2, q3] at h1 h2 h3
  unfold K12_18
  by_cases hw : w.length = 1
  · obtain ⟨e, rfl⟩ := List.length_eq_one_iff.1 hw
    have he := h256 e List.mem_cons_self
    obtain ⟨ro, sz, tb, gb, _, hA⟩ := (hb.ext hx1).read (bvs_at (l := [e]) (i := 0) rfl)
    have hA : cget tb (soff bv) = some (.i .u8 (e : Int)) := by have := hA 0 _ rfl; simpa using this
    have b2 : slen bv = 1 := b2
    have hix : ixV 1 bv (.i .i64 0) = some (.p (sid bv) (soff bv)) := by have := ix_sl (s := 1) (k := .i64) (i := 0) b1 (by omega); simpa using this
    have hd1 : decide (((1 : Nat) : Int) = 1) = true := rfl
    simp (maxSteps := 4000000) (disch := first | omega | assumption | (simp only [bxS, bxV, stOk, Nat.reduceBEq, Nat.reduceEqDiff, Nat.reduceAdd]; done) | (simp only [bxU]; omega) | ((try apply has_setN); apply has_ofL; simp only [bxL]; omega)) only [↓bxD, bxP, bxQ, bxQ2, Nat.reduceBEq, reduceCtorEq, Nat.reduceAdd, Nat.reduceSub, Nat.reduceMul, Nat.reduceLeDiff, Nat.reduceLT, bxR, h1, h2, h3, g1, c0, c1, b1, b2, gb, hA, hix, map_ag, hd1]
    refine Wp_dreg_of hlo1 ?_
    simp (maxSteps := 4000000) (disch := first | omega | assumption | (simp only [bxS, bxV, stOk, Nat.reduceBEq, Nat.reduceEqDiff, Nat.reduceAdd]; done) | (simp only [bxU]; omega) | ((try apply has_setN); apply has_ofL; simp only [bxL]; omega)) only [↓bxD, bxP, bxQ, bxQ2, Nat.reduceBEq, reduceCtorEq, Nat.reduceAdd, Nat.reduceSub, Nat.reduceMul, Nat.reduceLeDiff, Nat.reduceLT, bxR, h1, h2, h3, g1, c0, c1, b1, b2, gb, hA, hix, map_ag, hd1]
    refine bindP_call (hasByte' he hlo1) ?_
    rintro m M2 ⟨rfl, hx2⟩
    simp (maxSteps := 4000000) (disch := first | omega | assumption | (simp only [bxS, bxV, stOk, Nat.reduceBEq, Nat.reduceEqDiff, Nat.reduceAdd]; done) | (simp only [bxU]; omega) | ((try apply has_setN); apply has_ofL; simp only [bxL]; omega)) only [↓bxD, bxP, bxQ, bxQ2, Nat.reduceBEq, reduceCtorEq, Nat.reduceAdd, Nat.reduceSub, Nat.reduceMul, Nat.reduceLeDiff, Nat.reduceLT, bxR, h1, h2, h3, g1, c0, c1, b1, b2, gb, hA, hix, map_ag, hd1]
    show Wp fns IC.ret _ _ _
    simp (maxSteps := 4000000) (disch := first | omega | assumption | (simp only [bxS, bxV, stOk, Nat.reduceBEq, Nat.reduceEqDiff, Nat.reduceAdd]; done) | (simp only [bxU]; omega) | ((try apply has_setN); apply has_ofL; simp only [bxL]; omega)) only [↓bxD, bxP, bxQ, bxQ2, Nat.reduceBEq, reduceCtorEq, Nat.reduceAdd, Nat.reduceSub, Nat.reduceMul, Nat.reduceLeDiff, Nat.reduceLT, bxR, h1, h2, h3, g1, c0, c1, b1, b2, gb, hA, hix, map_ag, hd1]
    refine ⟨⟨_, rfl, ?_⟩, hx1.trans hx2⟩
    rw [Lx, if_pos rfl]
    constructor
    · intro q; exact ⟨e, rfl, q⟩
    · rintro ⟨e', q, q2⟩
      injection q with q
      subst q
      exact q2
  · have hd : decide ((w.length : Int) = 1) = false := decide_eq_false (by omega)
    simp (maxSteps := 4000000) (disch := first | omega | assumption | (simp only [bxS, bxV, stOk, Nat.reduceBEq, Nat.reduceEqDiff, Nat.reduceAdd]; done) | (simp only [bxU]; omega) | ((try apply has_setN); apply has_ofL; simp only [bxL]; omega)) only [↓bxD, bxP, bxQ, bxQ2, Nat.reduceBEq, reduceCtorEq, Nat.reduceAdd, Nat.reduceSub, Nat.reduceMul, Nat.reduceLeDiff, Nat.reduceLT, bxR, h1, h2, h3, g1, c0, c1, b1, b2, hd]
    refine Wp_dreg_of hlo1 ?_
    simp (maxSteps := 4000000) (disch := first | omega | assumption | (simp only [bxS, bxV, stOk, Nat.reduceBEq, Nat.reduceEqDiff, Nat.reduceAdd]; done) | (simp only [bxU]; omega) | ((try apply has_setN); apply has_ofL; simp only [bxL]; omega)) only [↓bxD, bxP, bxQ, bxQ2, Nat.reduceBEq, reduceCtorEq, Nat.reduceAdd, Nat.reduceSub, Nat.reduceMul, Nat.reduceLeDiff, Nat.reduceLT, bxR, h1, h2, h3, g1, c0, c1, b1, b2, hd]
    show Wp fns IC.ret _ _ _
    simp (maxSteps := 4000000) (disch := first | omega | assumption | (simp only [bxS, bxV, stOk, Nat.reduceBEq, Nat.reduceEqDiff, Nat.reduceAdd]; done) | (simp only [bxU]; omega) | ((try apply has_setN); apply has_ofL; simp only [bxL]; omega)) only [↓bxD, bxP, bxQ, bxQ2, Nat.reduceBEq, reduceCtorEq, Nat.reduceAdd, Nat.reduceSub, Nat.reduceMul, Nat.reduceLeDiff, Nat.reduceLT, bxR, h1, h2, h3, g1, c0, c1, b1, b2, hd]
    refine ⟨⟨_, rfl, ?_⟩, hx1⟩
    rw [Lx, if_pos rfl]
    constructor
    · intro q; cases q
    · rintro ⟨e', q, q2⟩
      rw [q] at hw
      exact (hw rfl).elim
theorem take_none {M : MH} {op a b c d : Int} {kids : List Rx} {v bv : MV} {w : List Nat} {F : Nat} (hop : op < 1 ∨ 6 < op) (hlo : M.lo ≤ M.n) (hX : XAt M v (.mk op a b c d kids)) (hb : RowAt M 1 bv (bvs w)) : Cp fns 12 [v, bv, .i .i64 ((F + 1 : Nat) : Int)] M (TkPost M (.mk op a b c d kids) w) := by
  obtain ⟨kv, rfl, k1, k2, k3⟩ := hX
  obtain ⟨b1, b2⟩ := hb.sl
  rw [bvs_len] at b2
  refine take_in hlo fun f M1 bx t hT => ?_
  obtain ⟨hlo1, c0, c1, c5⟩ := hT.more hlo
  obtain ⟨h1, h2, h3, g1, hlt, _, hx1⟩ := hT
  simp only [q1, q2, q3] at h1 h2 h3
  unfold K12_18
  have d1 : decide (op = 1) = false := decide_eq_false (by omega)
  have d2 : decide (op = 2) = false := decide_eq_false (by omega)
  have d3 : decide (op = 3) = false := decide_eq_false (by omega)
  have d4 : decide (op = 4) = false := decide_eq_false (by omega)
  have d5 : decide (op = 5) = false := decide_eq_false (by omega)
  have d6 : decide (op = 6) = false := decide_eq_false (by omega)
  simp (maxSteps := 4000000) (disch := first | omega | assumption | (simp only [bxS, bxV, stOk, Nat.reduceBEq, Nat.reduceEqDiff, Nat.reduceAdd]; done) | (simp only [bxU]; omega) | ((try apply has_setN); apply has_ofL; simp only [bxL]; omega)) only [↓bxD, bxP, bxQ, bxQ2, Nat.reduceBEq, reduceCtorEq, Nat.reduceAdd, Nat.reduceSub, Nat.reduceMul, Nat.reduceLeDiff, Nat.reduceLT, bxR, h1, h2, h3, g1, c0, c1, b1, b2, d1, d2, d3, d4, d5, d6]
  show Wp fns K12_16 _ _ _
  unfold K12_16
  simp (maxSteps := 4000000) (disch := first | omega | assumption | (simp only [bxS, bxV, stOk, Nat.reduceBEq, Nat.reduceEqDiff, Nat.reduceAdd]; done) | (simp only [bxU]; omega) | ((try apply has_setN); apply has_ofL; simp only [bxL]; omega)) only [↓bxD, bxP, bxQ, bxQ2, Nat.reduceBEq, reduceCtorEq, Nat.reduceAdd, Nat.reduceSub, Nat.reduceMul, Nat.reduceLeDiff, Nat.reduceLT, bxR, h1, h2, h3, g1, c0, c1, b1, b2, d1, d2, d3, d4, d5, d6]
  show Wp fns K12_17 _ _ _
  unfold K12_17
  simp (maxSteps := 4000000) (disch := first | omega | assumption | (simp only [bxS, bxV, stOk, Nat.reduceBEq, Nat.reduceEqDiff, Nat.reduceAdd]; done) | (simp only [bxU]; omega) | ((try apply has_setN); apply has_ofL; simp only [bxL]; omega)) only [↓bxD, bxP, bxQ, bxQ2, Nat.reduceBEq, reduceCtorEq, Nat.reduceAdd, Nat.reduceSub, Nat.reduceMul, Nat.reduceLeDiff, Nat.reduceLT, bxR, h1, h2, h3, g1, c0, c1, b1, b2, d1, d2, d3, d4, d5, d6]
  refine ⟨⟨_, rfl, ?_⟩, hx1⟩
  rw [Lx, if_neg (by omega), if_neg (by omega), if_neg (by omega), if_neg (by omega), if_neg (by omega), if_neg (by omega)]
  rw [decide_eq_true_iff]
  constructor
  · intro q; exact List.length_eq_zero_iff.1 (by omega)
  · intro q; rw [q]; rfl
theorem take_opt {F : Nat} (hI : TkIH F) {M : MH} {a b c d : Int} {k : Rx} {kr : List Rx} {v bv : MV} {w : List Nat} (hlo : M.lo ≤ M.n) (hX : XAt M v (.mk 6 a b c d (k :: kr))) (hw : Wk (.mk 6 a b c d (k :: kr))) (hb : RowAt M 1 bv (bvs w)) (hF : wei (.mk 6 a b c d (k :: kr)) + w.length ≤ F + 1) (h256 : ∀ c ∈ w, c < 256) (hbig : F ≤ 1000000) : Cp fns 12 [v, bv, .i .i64 ((F + 1 : Nat) : Int)] M (TkPost M (.mk 6 a b c d (k :: kr)) w) := by
  obtain ⟨kv, rfl, k1, k2, k3⟩ := hX
  obtain ⟨b1, b2⟩ := hb.sl
  rw [bvs_len] at b2
  refine take_in hlo fun f M1 bx t hT => ?_
  obtain ⟨hlo1, c0, c1, c5⟩ := hT.more hlo
  obtain ⟨h1, h2, h3, g1, hlt, _, hx1⟩ := hT
  simp only [q1, q2, q3] at h1 h2 h3
  unfold K12_18
  have hk := (NodesAt.ext hx1 k3)
  rw [NodesAt] at hk
  obtain ⟨tk, vk, gk, nk, xk⟩ := NodeAt.xat hk.1
  have hix : ixV 6 kv (.i .i64 0) = some (.p (sid kv) (soff kv)) := by have := ix_sl (s := 6) (k := .i64) (i := 0) k1 (by rw [k2]; exact Nat.zero_lt_succ _); simpa using this
  have d1 : decide ((6 : Int) = 1) = false := rfl
  have d2 : decide ((6 : Int) = 2) = false := rfl
  have d3 : decide ((6 : Int) = 3) = false := rfl
  have d6 : decide ((6 : Int) = 6) = true := rfl
  rw [wei, weiL] at hF
  rw [Wk, WkL] at hw
  have hL : Lx hasS (.mk 6 a b c d (k :: kr)) w ↔ w = [] ∨ Lx hasS k w := by rw [Lx, if_neg (by omega), if_neg (by omega), if_neg (by omega), if_neg (by omega), if_neg (by omega), if_pos rfl, L1]
  by_cases hw0 : w = []
  · have hd : decide ((w.length : Int) = 0) = true := decide_eq_true (by rw [hw0]; rfl)
    simp (maxSteps := 4000000) (disch := first | omega | assumption | (simp only [bxS, bxV, stOk, Nat.reduceBEq, Nat.reduceEqDiff, Nat.reduceAdd]; done) | (simp only [bxU]; omega) | ((try apply has_setN); apply has_ofL; simp only [bxL]; omega)) only [↓bxD, bxP, bxQ, bxQ2, Nat.reduceBEq, reduceCtorEq, Nat.reduceAdd, Nat.reduceSub, Nat.reduceMul, Nat.reduceLeDiff, Nat.reduceLT, bxR, h1, h2, h3, g1, c0, c1, c5, b1, b2, hd, d1, d2, d3, d6]
    exact ⟨⟨_, rfl, by rw [hL]; exact ⟨fun _ => .inl hw0, fun _ => rfl⟩⟩, hx1⟩
  · have hd : decide ((w.length : Int) = 0) = false := decide_eq_false (fun q => hw0 (List.length_eq_zero_iff.1 (by omega)))
    simp (maxSteps := 4000000) (disch := first | omega | assumption | (simp only [bxS, bxV, stOk, Nat.reduceBEq, Nat.reduceEqDiff, Nat.reduceAdd]; done) | (simp only [bxU]; omega) | ((try apply has_setN); apply has_ofL; simp only [bxL]; omega)) only [↓bxD, bxP, bxQ, bxQ2, Nat.reduceBEq, reduceCtorEq, Nat.reduceAdd, Nat.reduceSub, Nat.reduceMul, Nat.reduceLeDiff, Nat.reduceLT, bxR, h1, h2, h3, g1, c0, c1, c5, b1, b2, hd, hix, gk, nk, d1, d2, d3, d6, (show (F : Int) + 1 - 1 = (F : Int) by omega)]
    refine bindP_call (hI M1 vk k bv w hlo1 xk hw.2.1 (hb.ext hx1) (by omega) h256) ?_
    rintro m M2 ⟨⟨r, rfl, hr⟩, hx2⟩
    simp (maxSteps := 4000000) (disch := first | omega | assumption | (simp only [bxS, bxV, stOk, Nat.reduceBEq, Nat.reduceEqDiff, Nat.reduceAdd]; done) | (simp only [bxU]; omega) | ((try apply has_setN); apply has_ofL; simp only [bxL]; omega)) only [↓bxD, bxP, bxQ, bxQ2, Nat.reduceBEq, reduceCtorEq, Nat.reduceAdd, Nat.reduceSub, Nat.reduceMul, Nat.reduceLeDiff, Nat.reduceLT, bxR, h1, h2, h3, g1, c0, c1, c5, b1, b2, hd, hix, gk, nk, d1, d2, d3, d6, (show (F : Int) + 1 - 1 = (F : Int) by omega)]
    refine ⟨⟨_, rfl, ?_⟩, hx1.trans hx2⟩
    rw [hL, hr]
    exact ⟨.inr, fun q => q.elim (fun q => (hw0 q).elim) id⟩
theorem LA_get {has : List MV → Nat → Bool} {w : List Nat} : ∀ {l : List Rx}, LA has l w ↔ ∃ (i : Nat) (k : Rx), l[i]? = some k ∧ Lx has k w
  | [] => by
    rw [LA]
    constructor
    · intro h; exact h.elim
    · rintro ⟨i, k, h, _⟩; simp at h
  | x :: r => by
    rw [LA]
    show (Lx has x w ∨ LA has r w) ↔ _
    rw [LA_get (l := r)]
    constructor
    · rintro (h | ⟨i, k, h1, h2⟩)
      · exact ⟨0, x, rfl, h⟩
      · exact ⟨i + 1, k, by rw [List.getElem?_cons_succ]; exact h1, h2⟩
    · rintro ⟨i, k, h1, h2⟩
      cases i with
      | zero =>
        rw [List.getElem?_cons_zero, Option.some.injEq] at h1
        subst h1; exact .inl h2
      | succ i => rw [List.getElem?_cons_succ] at h1; exact .inr ⟨i, k, h1, h2⟩
theorem wei_len : ∀ (l : List Rx), l.length ≤ weiL l
  | [] => Nat.zero_le _
  | .mk op a b c d ks :: r => by
    have := wei_len r
    rw [weiL, wei, List.length_cons]
    omega
theorem take_alt {F : Nat} (hI : TkIH F) {M : MH} {a b c d : Int} {ks : List Rx} {v bv : MV} {w : List Nat} (hlo : M.lo ≤ M.n) (hX : XAt M v (.mk 3 a b c d ks)) (hw : Wk (.mk 3 a b c d ks)) (hb : RowAt M 1 bv (bvs w)) (hF : wei (.mk 3 a b c d ks) + w.length ≤ F + 1) (h256 : ∀ c ∈ w, c < 256) (hbig : F ≤ 1000000) : Cp fns 12 [v, bv, .i .i64 ((F + 1 : Nat) : Int)] M (TkPost M (.mk 3 a b c d ks) w) := by
  obtain ⟨kv, rfl, k1, k2, k3⟩ := hX
  obtain ⟨b1, b2⟩ := hb.sl
  rw [bvs_len] at b2
  refine take_in hlo fun f M1 bx t hT => ?_
  obtain ⟨hlo1, c0, c1, c5⟩ := hT.more hlo
  obtain ⟨h1, h2, h3, g1, hlt, _, hx1⟩ := hT
  simp only [q1, q2, q3] at h1 h2 h3
  unfold K12_18
  rw [wei] at hF
  have hlk := wei_len ks
  rw [Wk] at hw
  have hL : Lx hasS (.mk 3 a b c d ks) w ↔ LA hasS ks w := by rw [Lx, if_neg (by omega), if_neg (by omega), if_pos rfl]
  have d1 : decide ((3 : Int) = 1) = false := rfl
  have d3 : decide ((3 : Int) = 3) = true := rfl
  simp (maxSteps := 4000000) (disch := first | omega | assumption | (simp only [bxS, bxV, stOk, Nat.reduceBEq, Nat.reduceEqDiff, Nat.reduceAdd]; done) | (simp only [bxU]; omega) | ((try apply has_setN); apply has_ofL; simp only [bxL]; omega)) only [↓bxD, bxP, bxQ, bxQ2, Nat.reduceBEq, reduceCtorEq, Nat.reduceAdd, Nat.reduceSub, Nat.reduceMul, Nat.reduceLeDiff, Nat.reduceLT, bxR, h1, h2, h3, g1, c0, c1, c5, b1, b2, k1, k2, d1, d3]
  refine Wp_inv (σ := Nat) (fun i f M' => i ≤ ks.length ∧ X.ev f (.t q1) = bv ∧ X.ev f (.t q2) = .i .i64 ((F : Int) + 1) ∧ X.ev f (.t q3) = .p bx 0 ∧ X.ev f (.t q7) = .i .i64 (i : Int) ∧ Ext M1 M' ∧ ∀ j k, j < i → ks[j]? = some k → ¬ Lx hasS k w) (fun i => ks.length - i) ?_ 0 ?_
  · rintro i f M2 ⟨hi, e1, e2, e3, e7, hx2, hno⟩
    simp only [q1, q2, q3, q7] at e1 e2 e3 e7
    unfold L12_2
    have g2 := (hx2.old _ hlt).trans g1
    simp (maxSteps := 4000000) (disch := first | omega | assumption | (simp only [bxS, bxV, stOk, Nat.reduceBEq, Nat.reduceEqDiff, Nat.reduceAdd]; done) | (simp only [bxU]; omega) | ((try apply has_setN); apply has_ofL; simp only [bxL]; omega)) only [↓bxD, bxP, bxQ, bxQ2, Nat.reduceBEq, reduceCtorEq, Nat.reduceAdd, Nat.reduceSub, Nat.reduceMul, Nat.reduceLeDiff, Nat.reduceLT, bxR, e1, e2, e3, e7, g2, c5, k1, k2]
    refine condP_split (fun hlt2 => ?_) (fun hge => ?_)
    · have hi' : i < ks.length := by omega
      obtain ⟨k, hk⟩ : ∃ k, ks[i]? = some k := ⟨_, List.getElem?_eq_getElem hi'⟩
      have hN : NodesAt M2 ks (sid kv) (soff kv) := (NodesAt.ext hx1 k3).ext hx2
      obtain ⟨tk, vk, gk, nk, xk⟩ := NodeAt.xat (hN.get hk)
      have hwk := wei_mem hk
      have hlo2 : M2.lo ≤ M2.n := by have := hx2.lo; have := hx2.n; omega
      simp (maxSteps := 4000000) (disch := first | omega | assumption | (simp only [bxS, bxV, stOk, Nat.reduceBEq, Nat.reduceEqDiff, Nat.reduceAdd]; done) | (simp only [bxU]; omega) | ((try apply has_setN); apply has_ofL; simp only [bxL]; omega)) only [↓bxD, bxP, bxQ, bxQ2, Nat.reduceBEq, reduceCtorEq, Nat.reduceAdd, Nat.reduceSub, Nat.reduceMul, Nat.reduceLeDiff, Nat.reduceLT, bxR, e1, e2, e3, e7, g2, c5, k1, k2, hi', gk, nk, (show (F : Int) + 1 - 1 = (F : Int) by omega)]
      show Wp fns K12_1 _ _ _
      unfold K12_1
      simp (maxSteps := 4000000) (disch := first | omega | assumption | (simp only [bxS, bxV, stOk, Nat.reduceBEq, Nat.reduceEqDiff, Nat.reduceAdd]; done) | (simp only [bxU]; omega) | ((try apply has_setN); apply has_ofL; simp only [bxL]; omega)) only [↓bxD, bxP, bxQ, bxQ2, Nat.reduceBEq, reduceCtorEq, Nat.reduceAdd, Nat.reduceSub, Nat.reduceMul, Nat.reduceLeDiff, Nat.reduceLT, bxR, e1, e2, e3, e7, g2, c5, k1, k2, hi', gk, nk, (show (F : Int) + 1 - 1 = (F : Int) by omega)]
      refine bindP_call (hI M2 vk k bv w hlo2 xk (hw.2.get hk) (hb.ext (hx1.trans hx2)) (by omega) h256) ?_
      rintro m M3 ⟨⟨r, rfl, hr⟩, hx3⟩
      cases r with
      | true =>
        simp (maxSteps := 4000000) (disch := first | omega | assumption | (simp only [bxS, bxV, stOk, Nat.reduceBEq, Nat.reduceEqDiff, Nat.reduceAdd]; done) | (simp only [bxU]; omega) | ((try apply has_setN); apply has_ofL; simp only [bxL]; omega)) only [↓bxD, bxP, bxQ, bxQ2, Nat.reduceBEq, reduceCtorEq, Nat.reduceAdd, Nat.reduceSub, Nat.reduceMul, Nat.reduceLeDiff, Nat.reduceLT, bxR, e1, e2, e3, e7, g2, c5, k1, k2, hi', gk, nk, (show (F : Int) + 1 - 1 = (F : Int) by omega)]
        refine ⟨⟨_, rfl, ?_⟩, (hx1.trans hx2).trans hx3⟩
        rw [hL, LA_get]
        exact ⟨fun _ => ⟨i, k, hk, hr.1 rfl⟩, fun _ => rfl⟩
      | false =>
        simp (maxSteps := 4000000) (disch := first | omega | assumption | (simp only [bxS, bxV, stOk, Nat.reduceBEq, Nat.reduceEqDiff, Nat.reduceAdd]; done) | (simp only [bxU]; omega) | ((try apply has_setN); apply has_ofL; simp only [bxL]; omega)) only [↓bxD, bxP, bxQ, bxQ2, Nat.reduceBEq, reduceCtorEq, Nat.reduceAdd, Nat.reduceSub, Nat.reduceMul, Nat.reduceLeDiff, Nat.reduceLT, bxR, e1, e2, e3, e7]
        show Wp fns K12_0 _ _ _
        unfold K12_0
        simp (maxSteps := 4000000) (disch := first | omega | assumption | (simp only [bxS, bxV, stOk, Nat.reduceBEq, Nat.reduceEqDiff, Nat.reduceAdd]; done) | (simp only [bxU]; omega) | ((try apply has_setN); apply has_ofL; simp only [bxL]; omega)) only [↓bxD, bxP, bxQ, bxQ2, Nat.reduceBEq, reduceCtorEq, Nat.reduceAdd, Nat.reduceSub, Nat.reduceMul, Nat.reduceLeDiff, Nat.reduceLT, bxR, e1, e2, e3, e7]
        refine ⟨i + 1, by omega, by omega, rfl, hx2.trans hx3, fun j k' hj hk' => ?_⟩
        by_cases hj' : j < i
        · exact hno j k' hj' hk'
        · have : j = i := by omega
          subst this
          rw [hk] at hk'
          injection hk' with hk'
          subst hk'
          exact fun q => by have := hr.2 q; cases this
    · have hi' : i = ks.length := by omega
      subst hi'
      simp (maxSteps := 4000000) (disch := first | omega | assumption | (simp only [bxS, bxV, stOk, Nat.reduceBEq, Nat.reduceEqDiff, Nat.reduceAdd]; done) | (simp only [bxU]; omega) | ((try apply has_setN); apply has_ofL; simp only [bxL]; omega)) only [↓bxD, bxP, bxQ, bxQ2, Nat.reduceBEq, reduceCtorEq, Nat.reduceAdd, Nat.reduceSub, Nat.reduceMul, Nat.reduceLeDiff, Nat.reduceLT, bxR, e1, e2, e3, e7, g2, c5, k1, k2]
      show Wp fns K12_3 _ _ _
      unfold K12_3
      simp (maxSteps := 4000000) (disch := first | omega | assumption | (simp only [bxS, bxV, stOk, Nat.reduceBEq, Nat.reduceEqDiff, Nat.reduceAdd]; done) | (simp only [bxU]; omega) | ((try apply has_setN); apply has_ofL; simp only [bxL]; omega)) only [↓bxD, bxP, bxQ, bxQ2, Nat.reduceBEq, reduceCtorEq, Nat.reduceAdd, Nat.reduceSub, Nat.reduceMul, Nat.reduceLeDiff, Nat.reduceLT, bxR, e1, e2, e3, e7, g2, c5, k1, k2]
      refine ⟨⟨_, rfl, ?_⟩, hx1.trans hx2⟩
      rw [hL, LA_get]
      constructor
      · intro q; cases q
      · rintro ⟨j, k, hj, q⟩
        exact (hno j k (List.getElem?_eq_some_iff.1 hj).1 hj q).elim
  · exact ⟨Nat.zero_le _, by simp only [bxP, bxQ, bxQ2, reduceCtorEq, h1, h2, h3, g1, c0, c1, c5, b1, b2, k1, k2, d1, d3], by simp only [bxP, bxQ, bxQ2, reduceCtorEq, h1, h2, h3, g1, c0, c1, c5, b1, b2, k1, k2, d1, d3], by simp only [bxP, bxQ, bxQ2, reduceCtorEq, h1, h2, h3, g1, c0, c1, c5, b1, b2, k1, k2, d1, d3], by simp only [bxP, bxQ, bxQ2, reduceCtorEq, h1, h2, h3, g1, c0, c1, c5, b1, b2, k1, k2, d1, d3] <;> rfl, .refl _, fun j k hj => by omega⟩
theorem Cc_at {A B : List Nat → Prop} {w : List Nat} : Cc A B w ↔ ∃ i, i ≤ w.length ∧ A (w.take i) ∧ B (w.drop i) := by
  constructor
  · rintro ⟨u, v, rfl, h1, h2⟩
    exact ⟨u.length, by rw [List.length_append]; omega, by rw [List.take_left]; exact h1, by rw [List.drop_left]; exact h2⟩
  · rintro ⟨i, _, h1, h2⟩; exact ⟨_, _, (List.take_append_drop i w).symm, h1, h2⟩
theorem Cc_end {A : List Nat → Prop} : Cc A (fun w => w = []) = A := by
  funext w
  apply propext
  constructor
  · rintro ⟨u, v, rfl, h, rfl⟩; rwa [List.append_nil]
  · intro h; exact ⟨w, [], (List.append_nil w).symm, h, rfl⟩
theorem xat_tail {M : MH} {kv : MV} {k : Rx} {r : List Rx} (k1 : isSl kv = true) (k2 : slen kv = (k :: r).length) (k3 : NodesAt M (k :: r) (sid kv) (soff kv)) : isSl (cutLo 6 1 kv) = true ∧ slen (cutLo 6 1 kv) = r.length ∧ NodesAt M r (sid (cutLo 6 1 kv)) (soff (cutLo 6 1 kv)) := by
  have k2' : slen kv = r.length + 1 := k2
  cases r with
  | nil =>
    cases kv <;> first | cases k1 | skip
    · cases k2
    · rename_i id off n e
      have k2' : n = 1 := k2'
      subst k2'
      exact ⟨rfl, rfl, by rw [NodesAt]; trivial⟩
  | cons x r =>
    obtain ⟨h1, h2, h3, h4⟩ := cutLo_sl (sz := 6) (l := 1) k1 (.inl (by rw [k2']; rw [List.length_cons]; omega))
    refine ⟨h1, by rw [h2, k2']; omega, ?_⟩
    rw [h3, h4]
    rw [NodesAt] at k3
    exact k3.2
theorem wei_two : ∀ (x : Rx), 2 ≤ wei x
  | .mk _ _ _ _ _ _ => by rw [wei]; omega
theorem fill_tail {n : Int} {kv : MV} (h : isSl kv = true) : fillM [(0, 1, .i .i64 n), (5, 1, kv)] [.i .i64 0, .i .u64 0, .i .u64 0, .i .u64 0, .i .u64 0, .nils] = some [.i .i64 n, .i .u64 0, .i .u64 0, .i .u64 0, .i .u64 0, kv] := by
  cases kv <;> first | cases h | skip
  all_goals rfl
theorem take_cat {F : Nat} (hI : TkIH F) {M : MH} {a b c d : Int} {k : Rx} {kr : List Rx} {v bv : MV} {w : List Nat} (hlo : M.lo ≤ M.n) (hX : XAt M v (.mk 2 a b c d (k :: kr))) (hw : Wk (.mk 2 a b c d (k :: kr))) (hb : RowAt M 1 bv (bvs w)) (hF : wei (.mk 2 a b c d (k :: kr)) + w.length ≤ F + 1) (h256 : ∀ c ∈ w, c < 256) (hbig : F ≤ 1000000) : Cp fns 12 [v, bv, .i .i64 ((F + 1 : Nat) : Int)] M (TkPost M (.mk 2 a b c d (k :: kr)) w) := by
  obtain ⟨kv, rfl, k1, k2, k3⟩ := hX
  obtain ⟨b1, b2⟩ := hb.sl
  rw [bvs_len] at b2
  refine take_in hlo fun f M1 bx t hT => ?_
  obtain ⟨hlo1, c0, c1, c5⟩ := hT.more hlo
  obtain ⟨h1, h2, h3, g1, hlt, _, hx1⟩ := hT
  simp only [q1, q2, q3] at h1 h2 h3
  unfold K12_18
  rw [wei, weiL] at hF
  rw [Wk, WkL] at hw
  have hL : Lx hasS (.mk 2 a b c d (k :: kr)) w ↔ Cc (Lx hasS k) (LC hasS kr) w := by rw [Lx, if_neg (by omega), if_pos rfl, LC]
  have d1 : decide ((2 : Int) = 1) = false := rfl
  have d3 : decide ((2 : Int) = 3) = false := rfl
  have d2 : decide ((2 : Int) = 2) = true := rfl
  have hix : ixV 6 kv (.i .i64 0) = some (.p (sid kv) (soff kv)) := by have := ix_sl (s := 6) (k := .i64) (i := 0) k1 (by rw [k2]; exact Nat.zero_lt_succ _); simpa using this
  have hFF : (F : Int) + 1 - 1 = (F : Int) := by omega
  have k2' : slen kv = kr.length + 1 := k2
  by_cases hkr : kr = []
  · subst hkr
    have k2' : slen kv = 1 := k2'
    have dd : decide (((1 : Nat) : Int) = 1) = true := rfl
    have hk := NodesAt.ext hx1 k3
    rw [NodesAt] at hk
    obtain ⟨tk, vk, gk, nk, xk⟩ := NodeAt.xat hk.1
    simp (maxSteps := 4000000) (disch := first | omega | assumption | (simp only [bxS, bxV, stOk, Nat.reduceBEq, Nat.reduceEqDiff, Nat.reduceAdd]; done) | (simp only [bxU]; omega) | ((try apply has_setN); apply has_ofL; simp only [bxL]; omega)) only [↓bxD, bxP, bxQ, bxQ2, Nat.reduceBEq, reduceCtorEq, Nat.reduceAdd, Nat.reduceSub, Nat.reduceMul, Nat.reduceLeDiff, Nat.reduceLT, bxR, h1, h2, h3, g1, c0, c1, c5, b1, b2, k1, k2', d1, d2, d3, dd, hix, gk, nk, hFF]
    refine bindP_call (hI M1 vk k bv w hlo1 xk hw.2.1 (hb.ext hx1) (by omega) h256) ?_
    rintro m M2 ⟨⟨r, rfl, hr⟩, hx2⟩
    simp (maxSteps := 4000000) (disch := first | omega | assumption | (simp only [bxS, bxV, stOk, Nat.reduceBEq, Nat.reduceEqDiff, Nat.reduceAdd]; done) | (simp only [bxU]; omega) | ((try apply has_setN); apply has_ofL; simp only [bxL]; omega)) only [↓bxD, bxP, bxQ, bxQ2, Nat.reduceBEq, reduceCtorEq, Nat.reduceAdd, Nat.reduceSub, Nat.reduceMul, Nat.reduceLeDiff, Nat.reduceLT, bxR, h1, h2, h3, g1, c0, c1, c5, b1, b2, k1, k2', d1, d2, d3, dd, hix, gk, nk, hFF]
    refine ⟨⟨_, rfl, ?_⟩, hx1.trans hx2⟩
    rw [hL, hr, LC, Cc_end]
  · have hpos := List.length_pos_iff.2 hkr
    have hlk := wei_len kr
    have dd : decide (((kr.length + 1 : Nat) : Int) = 1) = false := decide_eq_false (by omega)
    simp (maxSteps := 4000000) (disch := first | omega | assumption | (simp only [bxS, bxV, stOk, Nat.reduceBEq, Nat.reduceEqDiff, Nat.reduceAdd]; done) | (simp only [bxU]; omega) | ((try apply has_setN); apply has_ofL; simp only [bxL]; omega)) only [↓bxD, bxP, bxQ, bxQ2, Nat.reduceBEq, reduceCtorEq, Nat.reduceAdd, Nat.reduceSub, Nat.reduceMul, Nat.reduceLeDiff, Nat.reduceLT, bxR, h1, h2, h3, g1, c0, c1, c5, b1, b2, k1, k2', d1, d2, d3, dd]
    show Wp fns K12_9 _ _ _
    unfold K12_9
    simp (maxSteps := 4000000) (disch := first | omega | assumption | (simp only [bxS, bxV, stOk, Nat.reduceBEq, Nat.reduceEqDiff, Nat.reduceAdd]; done) | (simp only [bxU]; omega) | ((try apply has_setN); apply has_ofL; simp only [bxL]; omega)) only [↓bxD, bxP, bxQ, bxQ2, Nat.reduceBEq, reduceCtorEq, Nat.reduceAdd, Nat.reduceSub, Nat.reduceMul, Nat.reduceLeDiff, Nat.reduceLT, bxR, h1, h2, h3, g1, c0, c1, c5, b1, b2, k1, k2', d1, d2, d3, dd]
    refine Wp_inv (σ := Nat) (fun i f M' => i ≤ w.length + 1 ∧ X.ev f (.t q1) = bv ∧ X.ev f (.t q2) = .i .i64 ((F : Int) + 1) ∧ X.ev f (.t q3) = .p bx 0 ∧ X.ev f (.t q8) = .i .i64 (i : Int) ∧ Ext M1 M' ∧ ∀ j, j < i → ¬ (Lx hasS k (w.take j) ∧ LC hasS kr (w.drop j))) (fun i => w.length + 1 - i) ?_ 0 ?_
    · rintro i f M2 ⟨hi, e1, e2, e3, e8, hx2, hno⟩
      simp only [q1, q2, q3, q8] at e1 e2 e3 e8
      unfold L12_7
      have g2 := (hx2.old _ hlt).trans g1
      have hx12 := hx1.trans hx2
      simp (maxSteps := 4000000) (disch := first | omega | assumption | (simp only [bxS, bxV, stOk, Nat.reduceBEq, Nat.reduceEqDiff, Nat.reduceAdd]; done) | (simp only [bxU]; omega) | ((try apply has_setN); apply has_ofL; simp only [bxL]; omega)) only [↓bxD, bxP, bxQ, bxQ2, Nat.reduceBEq, reduceCtorEq, Nat.reduceAdd, Nat.reduceSub, Nat.reduceMul, Nat.reduceLeDiff, Nat.reduceLT, bxR, e1, e2, e3, e8, b1, b2]
      refine condP_split (fun hlt2 => ?_) (fun hge => ?_)
      · have hi' : i ≤ w.length := by omega
        have hk2 := NodesAt.ext hx12 k3
        have hk := hk2
        rw [NodesAt] at hk
        obtain ⟨tk, vk, gk, nk, xk⟩ := NodeAt.xat hk.1
        have hlo2 : M2.lo ≤ M2.n := by have := hx2.lo; have := hx2.n; omega
        have hc1 : cutM 1 bv none (some (.i .i64 (i : Int))) = some (cutHi i bv) := cutM_hi b1 (by omega)
        have hc2 : cutM 1 bv (some (.i .i64 (i : Int))) none = some (cutLo 1 i bv) := cutM_lo b1 (by omega)
        have hc3 : cutM 6 kv (some (.i .i64 1)) none = some (cutLo 6 1 kv) := cutM_lo (l := 1) k1 (by omega)
        simp (maxSteps := 4000000) (disch := first | omega | assumption | (simp only [bxS, bxV, stOk, Nat.reduceBEq, Nat.reduceEqDiff, Nat.reduceAdd]; done) | (simp only [bxU]; omega) | ((try apply has_setN); apply has_ofL; simp only [bxL]; omega)) only [↓bxD, bxP, bxQ, bxQ2, Nat.reduceBEq, reduceCtorEq, Nat.reduceAdd, Nat.reduceSub, Nat.reduceMul, Nat.reduceLeDiff, Nat.reduceLT, bxR, e1, e2, e3, e8, b1, b2]
        show Wp fns K12_6 _ _ _
        unfold K12_6
        simp (maxSteps := 4000000) (disch := first | omega | assumption | (simp only [bxS, bxV, stOk, Nat.reduceBEq, Nat.reduceEqDiff, Nat.reduceAdd]; done) | (simp only [bxU]; omega) | ((try apply has_setN); apply has_ofL; simp only [bxL]; omega)) only [↓bxD, bxP, bxQ, bxQ2, Nat.reduceBEq, reduceCtorEq, Nat.reduceAdd, Nat.reduceSub, Nat.reduceMul, Nat.reduceLeDiff, Nat.reduceLT, bxR, e1, e2, e3, e8, b1, b2]
        refine Wp_dreg_of hlo2 ?_
        simp (maxSteps := 4000000) (disch := first | omega | assumption | (simp only [bxS, bxV, stOk, Nat.reduceBEq, Nat.reduceEqDiff, Nat.reduceAdd]; done) | (simp only [bxU]; omega) | ((try apply has_setN); apply has_ofL; simp only [bxL]; omega)) only [↓bxD, bxP, bxQ, bxQ2, Nat.reduceBEq, reduceCtorEq, Nat.reduceAdd, Nat.reduceSub, Nat.reduceMul, Nat.reduceLeDiff, Nat.reduceLT, bxR, e1, e2, e3, e8, g2, c5, hix, gk, nk, b1, b2, k1, k2', hFF, hc1, hc2, hc3, Option.map_some, Option.map_none]
        have hr1 := row_hi (hb.ext hx12) hi'
        refine bindP_call (hI M2 vk k (cutHi i bv) (w.take i) hlo2 xk hw.2.1 hr1 (by rw [List.length_take]; omega) (fun c hc => h256 c (List.mem_of_mem_take hc))) ?_
        rintro m M3 ⟨⟨r, rfl, hr⟩, hx3⟩
        have next : ¬ (Lx hasS k (w.take i) ∧ LC hasS kr (w.drop i)) → ∀ j, j < i + 1 → ¬ (Lx hasS k (w.take j) ∧ LC hasS kr (w.drop j)) := fun hh j hj => by
          by_cases hj' : j < i
          · exact hno j hj'
          · have : j = i := by omega
            subst this; exact hh
        cases r with
        | false =>
          simp (maxSteps := 4000000) (disch := first | omega | assumption | (simp only [bxS, bxV, stOk, Nat.reduceBEq, Nat.reduceEqDiff, Nat.reduceAdd]; done) | (simp only [bxU]; omega) | ((try apply has_setN); apply has_ofL; simp only [bxL]; omega)) only [↓bxD, bxP, bxQ, bxQ2, Nat.reduceBEq, reduceCtorEq, Nat.reduceAdd, Nat.reduceSub, Nat.reduceMul, Nat.reduceLeDiff, Nat.reduceLT, bxR, e1, e2, e3, e8]
          show Wp fns K12_4 _ _ _
          unfold K12_4
          simp (maxSteps := 4000000) (disch := first | omega | assumption | (simp only [bxS, bxV, stOk, Nat.reduceBEq, Nat.reduceEqDiff, Nat.reduceAdd]; done) | (simp only [bxU]; omega) | ((try apply has_setN); apply has_ofL; simp only [bxL]; omega)) only [↓bxD, bxP, bxQ, bxQ2, Nat.reduceBEq, reduceCtorEq, Nat.reduceAdd, Nat.reduceSub, Nat.reduceMul, Nat.reduceLeDiff, Nat.reduceLT, bxR, e1, e2, e3, e8]
          show Wp fns K12_5 _ _ _
          unfold K12_5
          simp (maxSteps := 4000000) (disch := first | omega | assumption | (simp only [bxS, bxV, stOk, Nat.reduceBEq, Nat.reduceEqDiff, Nat.reduceAdd]; done) | (simp only [bxU]; omega) | ((try apply has_setN); apply has_ofL; simp only [bxL]; omega)) only [↓bxD, bxP, bxQ, bxQ2, Nat.reduceBEq, reduceCtorEq, Nat.reduceAdd, Nat.reduceSub, Nat.reduceMul, Nat.reduceLeDiff, Nat.reduceLT, bxR, e1, e2, e3, e8]
          exact ⟨i + 1, by omega, by omega, rfl, hx2.trans hx3, next (fun q => by have := hr.2 q.1; cases this)⟩
        | true =>
          have hx13 := hx12.trans hx3
          have hlo3 : M3.lo ≤ M3.n := by have := hx3.lo; have := hx3.n; omega
          have g3 : M3.get bx = some (.cs false 6 t) := (hx3.old _ (by have := hx2.n; omega)).trans g2
          obtain ⟨t1, t2, t3⟩ := xat_tail k1 k2 (NodesAt.ext hx13 k3)
          have ff := fill_tail (n := 2) t1
          have hwt := wei_two k
          simp (maxSteps := 4000000) (disch := first | omega | assumption | (simp only [bxS, bxV, stOk, Nat.reduceBEq, Nat.reduceEqDiff, Nat.reduceAdd]; done) | (simp only [bxU]; omega) | ((try apply has_setN); apply has_ofL; simp only [bxL]; omega)) only [↓bxD, bxP, bxQ, bxQ2, Nat.reduceBEq, reduceCtorEq, Nat.reduceAdd, Nat.reduceSub, Nat.reduceMul, Nat.reduceLeDiff, Nat.reduceLT, bxR, e1, e2, e3, e8, g3, c5, b1, b2, k1, k2', hFF, hc2, hc3, ff, map_ag, Option.map_some, Option.map_none]
          refine bindP_call (hI M3 _ (.mk 2 0 0 0 0 kr) (cutLo 1 i bv) (w.drop i) hlo3 ⟨_, rfl, t1, t2, t3⟩ (by rw [Wk]; exact ⟨fun _ => hkr, hw.2.2⟩) (row_lo (hb.ext hx13) hi') (by rw [List.length_drop, wei]; omega) (fun c hc => h256 c (List.mem_of_mem_drop hc))) ?_
          rintro m M4 ⟨⟨r, rfl, hr4⟩, hx4⟩
          rw [Lx, if_neg (by omega), if_pos rfl] at hr4
          cases r with
          | true =>
            simp (maxSteps := 4000000) (disch := first | omega | assumption | (simp only [bxS, bxV, stOk, Nat.reduceBEq, Nat.reduceEqDiff, Nat.reduceAdd]; done) | (simp only [bxU]; omega) | ((try apply has_setN); apply has_ofL; simp only [bxL]; omega)) only [↓bxD, bxP, bxQ, bxQ2, Nat.reduceBEq, reduceCtorEq, Nat.reduceAdd, Nat.reduceSub, Nat.reduceMul, Nat.reduceLeDiff, Nat.reduceLT, bxR, e1, e2, e3, e8, g3, c5, b1, b2, k1, k2', hFF, hc2, hc3, ff, map_ag, Option.map_some, Option.map_none]
            show Wp fns K12_4 _ _ _
            unfold K12_4
            simp (maxSteps := 4000000) (disch := first | omega | assumption | (simp only [bxS, bxV, stOk, Nat.reduceBEq, Nat.reduceEqDiff, Nat.reduceAdd]; done) | (simp only [bxU]; omega) | ((try apply has_setN); apply has_ofL; simp only [bxL]; omega)) only [↓bxD, bxP, bxQ, bxQ2, Nat.reduceBEq, reduceCtorEq, Nat.reduceAdd, Nat.reduceSub, Nat.reduceMul, Nat.reduceLeDiff, Nat.reduceLT, bxR, e1, e2, e3, e8, g3, c5, b1, b2, k1, k2', hFF, hc2, hc3, ff, map_ag, Option.map_some, Option.map_none]
            refine ⟨⟨_, rfl, ?_⟩, hx13.trans hx4⟩
            rw [hL, Cc_at]
            exact ⟨fun _ => ⟨i, hi', hr.1 rfl, hr4.1 rfl⟩, fun _ => rfl⟩
          | false =>
            simp (maxSteps := 4000000) (disch := first | omega | assumption | (simp only [bxS, bxV, stOk, Nat.reduceBEq, Nat.reduceEqDiff, Nat.reduceAdd]; done) | (simp only [bxU]; omega) | ((try apply has_setN); apply has_ofL; simp only [bxL]; omega)) only [↓bxD, bxP, bxQ, bxQ2, Nat.reduceBEq, reduceCtorEq, Nat.reduceAdd, Nat.reduceSub, Nat.reduceMul, Nat.reduceLeDiff, Nat.reduceLT, bxR, e1, e2, e3, e8]
            show Wp fns K12_4 _ _ _
            unfold K12_4
            simp (maxSteps := 4000000) (disch := first | omega | assumption | (simp only [bxS, bxV, stOk, Nat.reduceBEq, Nat.reduceEqDiff, Nat.reduceAdd]; done) | (simp only [bxU]; omega) | ((try apply has_setN); apply has_ofL; simp only [bxL]; omega)) only [↓bxD, bxP, bxQ, bxQ2, Nat.reduceBEq, reduceCtorEq, Nat.reduceAdd, Nat.reduceSub, Nat.reduceMul, Nat.reduceLeDiff, Nat.reduceLT, bxR, e1, e2, e3, e8]
            show Wp fns K12_5 _ _ _
            unfold K12_5
            simp (maxSteps := 4000000) (disch := first | omega | assumption | (simp only [bxS, bxV, stOk, Nat.reduceBEq, Nat.reduceEqDiff, Nat.reduceAdd]; done) | (simp only [bxU]; omega) | ((try apply has_setN); apply has_ofL; simp only [bxL]; omega)) only [↓bxD, bxP, bxQ, bxQ2, Nat.reduceBEq, reduceCtorEq, Nat.reduceAdd, Nat.reduceSub, Nat.reduceMul, Nat.reduceLeDiff, Nat.reduceLT, bxR, e1, e2, e3, e8]
            exact ⟨i + 1, by omega, by omega, rfl, (hx2.trans hx3).trans hx4, next (fun q => by have := hr4.2 q.2; cases this)⟩
      · have hi' : i = w.length + 1 := by omega
        subst hi'
        simp (maxSteps := 4000000) (disch := first | omega | assumption | (simp only [bxS, bxV, stOk, Nat.reduceBEq, Nat.reduceEqDiff, Nat.reduceAdd]; done) | (simp only [bxU]; omega) | ((try apply has_setN); apply has_ofL; simp only [bxL]; omega)) only [↓bxD, bxP, bxQ, bxQ2, Nat.reduceBEq, reduceCtorEq, Nat.reduceAdd, Nat.reduceSub, Nat.reduceMul, Nat.reduceLeDiff, Nat.reduceLT, bxR, e1, e2, e3, e8]
        show Wp fns K12_8 _ _ _
        unfold K12_8
        simp (maxSteps := 4000000) (disch := first | omega | assumption | (simp only [bxS, bxV, stOk, Nat.reduceBEq, Nat.reduceEqDiff, Nat.reduceAdd]; done) | (simp only [bxU]; omega) | ((try apply has_setN); apply has_ofL; simp only [bxL]; omega)) only [↓bxD, bxP, bxQ, bxQ2, Nat.reduceBEq, reduceCtorEq, Nat.reduceAdd, Nat.reduceSub, Nat.reduceMul, Nat.reduceLeDiff, Nat.reduceLT, bxR, e1, e2, e3, e8]
        refine ⟨⟨_, rfl, ?_⟩, hx1.trans hx2⟩
        rw [hL, Cc_at]
        constructor
        · intro q; cases q
        · rintro ⟨j, hj, q⟩; exact (hno j (by omega) q).elim
    · exact ⟨Nat.zero_le _, by simp only [bxP, bxQ, bxQ2, reduceCtorEq, h1, h2, h3, g1, c0, c1, c5, b1, b2, k1, k2', d1, d2, d3, dd], by simp only [bxP, bxQ, bxQ2, reduceCtorEq, h1, h2, h3, g1, c0, c1, c5, b1, b2, k1, k2', d1, d2, d3, dd], by simp only [bxP, bxQ, bxQ2, reduceCtorEq, h1, h2, h3, g1, c0, c1, c5, b1, b2, k1, k2', d1, d2, d3, dd], by simp only [bxP, bxQ, bxQ2, reduceCtorEq, h1, h2, h3, g1, c0, c1, c5, b1, b2, k1, k2', d1, d2, d3, dd] <;> rfl, .refl _, fun j hj => by omega⟩
theorem plus_at {A : List Nat → Prop} {w : List Nat} : (∃ u v, w = u ++ v ∧ u ≠ [] ∧ A u ∧ St1 A v) ↔ ∃ i, 1 ≤ i ∧ i ≤ w.length ∧ A (w.take i) ∧ St1 A (w.drop i) := by
  constructor
  · rintro ⟨u, v, rfl, h0, h1, h2⟩
    have := List.length_pos_iff.2 h0
    exact ⟨u.length, this, by rw [List.length_append]; omega, by rw [List.take_left]; exact h1, by rw [List.drop_left]; exact h2⟩
  · rintro ⟨i, h0, hi, h1, h2⟩
    exact ⟨_, _, (List.take_append_drop i w).symm, fun q => by have h := congrArg List.length q; rw [List.length_take, List.length_nil] at h; omega, h1, h2⟩
theorem rep_lang {op a b c d : Int} {k : Rx} {kr : List Rx} {w : List Nat} (hop : op = 4 ∨ op = 5) (hw : w ≠ []) : Lx hasS (.mk op a b c d (k :: kr)) w ↔ ∃ i, 1 ≤ i ∧ i ≤ w.length ∧ Lx hasS k (w.take i) ∧ St1 (Lx hasS k) (w.drop i) := by
  rw [← plus_at]
  cases w with
  | nil => exact (hw rfl).elim
  | cons c w =>
    rcases hop with rfl | rfl
    · rw [Lx, if_neg (by omega), if_neg (by omega), if_neg (by omega), if_pos rfl, L1]
      exact St1_cons
    · rw [Lx, if_neg (by omega), if_neg (by omega), if_neg (by omega), if_neg (by omega), if_pos rfl, L1]
      exact Cc_plus
theorem star_is {a b c d : Int} {k : Rx} {kr : List Rx} : Lx hasS (.mk 4 a b c d (k :: kr)) = St1 (Lx hasS k) := by
  rw [Lx, if_neg (by omega), if_neg (by omega), if_neg (by omega), if_pos rfl, L1]
theorem take_rep {F : Nat} (hI : TkIH F) {M : MH} {op a b c d : Int} {k : Rx} {kr : List Rx} {v bv : MV} {w : List Nat} (hop : op = 4 ∨ op = 5) (hlo : M.lo ≤ M.n) (hX : XAt M v (.mk op a b c d (k :: kr))) (hw : Wk (.mk op a b c d (k :: kr))) (hb : RowAt M 1 bv (bvs w)) (hF : wei (.mk op a b c d (k :: kr)) + w.length ≤ F + 1) (h256 : ∀ c ∈ w, c < 256) (hbig : F ≤ 1000000) : Cp fns 12 [v, bv, .i .i64 ((F + 1 : Nat) : Int)] M (TkPost M (.mk op a b c d (k :: kr)) w) := by
  obtain ⟨kv, rfl, k1, k2, k3⟩ := hX
  obtain ⟨b1, b2⟩ := hb.sl
  rw [bvs_len] at b2
  refine take_in hlo fun f M1 bx t hT => ?_
  obtain ⟨hlo1, c0, c1, c5⟩ := hT.more hlo
  obtain ⟨h1, h2, h3, g1, hlt, _, hx1⟩ := hT
  simp only [q1, q2, q3] at h1 h2 h3
  unfold K12_18
  rw [wei, weiL] at hF
  have hwk := hw
  rw [Wk, WkL] at hw
  have d1 : decide (op = 1) = false := decide_eq_false (by omega)
  have d2 : decide (op = 2) = false := decide_eq_false (by omega)
  have d3 : decide (op = 3) = false := decide_eq_false (by omega)
  have d6 : decide (op = 6) = false := decide_eq_false (by omega)
  have hix : ixV 6 kv (.i .i64 0) = some (.p (sid kv) (soff kv)) := by have := ix_sl (s := 6) (k := .i64) (i := 0) k1 (by rw [k2]; exact Nat.zero_lt_succ _); simpa using this
  have hFF : (F : Int) + 1 - 1 = (F : Int) := by omega
  have k2' : slen kv = kr.length + 1 := k2
  have rest : ∀ f, X.ev f (.t q1) = bv → X.ev f (.t q2) = .i .i64 ((F : Int) + 1) → X.ev f (.t q3) = .p bx 0 → X.ev f (.t q102) = .b true → Wp fns K12_16 f M1 (blockQ 0 (thenQ fns K12_17 (retQ F12 (TkPost M (.mk op a b c d (k :: kr)) w)))) := by
    intro f h1 h2 h3 h102
    simp only [q1, q2, q3, q102] at h1 h2 h3 h102
    unfold K12_16
    by_cases hw0 : w = []
    · have dw : decide ((w.length : Int) = 0) = true := decide_eq_true (by rw [hw0]; rfl)
      rcases hop with rfl | rfl
      · have d4 : decide ((4 : Int) = 4) = true := rfl
        simp (maxSteps := 4000000) (disch := first | omega | assumption | (simp only [bxS, bxV, stOk, Nat.reduceBEq, Nat.reduceEqDiff, Nat.reduceAdd]; done) | (simp only [bxU]; omega) | ((try apply has_setN); apply has_ofL; simp only [bxL]; omega)) only [↓bxD, bxP, bxQ, bxQ2, Nat.reduceBEq, reduceCtorEq, Nat.reduceAdd, Nat.reduceSub, Nat.reduceMul, Nat.reduceLeDiff, Nat.reduceLT, bxR, h1, h2, h3, h102, g1, c0, c5, b1, b2, dw, d4]
        refine ⟨⟨_, rfl, ?_⟩, hx1⟩
        rw [star_is, hw0]
        exact ⟨fun _ => .nil, fun _ => rfl⟩
      · have d4 : decide ((5 : Int) = 4) = false := rfl
        have hk := NodesAt.ext hx1 k3
        rw [NodesAt] at hk
        obtain ⟨tk, vk, gk, nk, xk⟩ := NodeAt.xat hk.1
        simp (maxSteps := 4000000) (disch := first | omega | assumption | (simp only [bxS, bxV, stOk, Nat.reduceBEq, Nat.reduceEqDiff, Nat.reduceAdd]; done) | (simp only [bxU]; omega) | ((try apply has_setN); apply has_ofL; simp only [bxL]; omega)) only [↓bxD, bxP, bxQ, bxQ2, Nat.reduceBEq, reduceCtorEq, Nat.reduceAdd, Nat.reduceSub, Nat.reduceMul, Nat.reduceLeDiff, Nat.reduceLT, bxR, h1, h2, h3, h102, g1, c0, c5, b1, b2, dw, d4, hix, gk, nk, hFF]
        refine bindP_call (hI M1 vk k bv w hlo1 xk hw.2.1 (hb.ext hx1) (by omega) h256) ?_
        rintro m M2 ⟨⟨r, rfl, hr⟩, hx2⟩
        simp (maxSteps := 4000000) (disch := first | omega | assumption | (simp only [bxS, bxV, stOk, Nat.reduceBEq, Nat.reduceEqDiff, Nat.reduceAdd]; done) | (simp only [bxU]; omega) | ((try apply has_setN); apply has_ofL; simp only [bxL]; omega)) only [↓bxD, bxP, bxQ, bxQ2, Nat.reduceBEq, reduceCtorEq, Nat.reduceAdd, Nat.reduceSub, Nat.reduceMul, Nat.reduceLeDiff, Nat.reduceLT, bxR, h1, h2, h3, h102, g1, c0, c5, b1, b2, dw, d4, hix, gk, nk, hFF]
        refine ⟨⟨_, rfl, ?_⟩, hx1.trans hx2⟩
        rw [hr, Lx, if_neg (by omega), if_neg (by omega), if_neg (by omega), if_neg (by omega), if_pos rfl, L1, hw0]
        constructor
        · intro q; exact ⟨[], [], rfl, q, .nil⟩
        · rintro ⟨u, v, e, q, _⟩
          obtain ⟨rfl, rfl⟩ := List.append_eq_nil_iff.1 e.symm
          exact q
    · have dw : decide ((w.length : Int) = 0) = false := decide_eq_false (fun q => hw0 (List.length_eq_zero_iff.1 (by omega)))
      have hL := rep_lang (a := a) (b := b) (c := c) (d := d) (k := k) (kr := kr) hop hw0
      simp (maxSteps := 4000000) (disch := first | omega | assumption | (simp only [bxS, bxV, stOk, Nat.reduceBEq, Nat.reduceEqDiff, Nat.reduceAdd]; done) | (simp only [bxU]; omega) | ((try apply has_setN); apply has_ofL; simp only [bxL]; omega)) only [↓bxD, bxP, bxQ, bxQ2, Nat.reduceBEq, reduceCtorEq, Nat.reduceAdd, Nat.reduceSub, Nat.reduceMul, Nat.reduceLeDiff, Nat.reduceLT, bxR, h1, h2, h3, h102, g1, c0, c5, b1, b2, dw]
      show Wp fns K12_15 _ _ _
      unfold K12_15
      simp (maxSteps := 4000000) (disch := first | omega | assumption | (simp only [bxS, bxV, stOk, Nat.reduceBEq, Nat.reduceEqDiff, Nat.reduceAdd]; done) | (simp only [bxU]; omega) | ((try apply has_setN); apply has_ofL; simp only [bxL]; omega)) only [↓bxD, bxP, bxQ, bxQ2, Nat.reduceBEq, reduceCtorEq, Nat.reduceAdd, Nat.reduceSub, Nat.reduceMul, Nat.reduceLeDiff, Nat.reduceLT, bxR, h1, h2, h3, h102, g1, c0, c5, b1, b2, dw]
      refine Wp_inv (σ := Nat) (fun i f M' => 1 ≤ i ∧ i ≤ w.length + 1 ∧ X.ev f (.t q1) = bv ∧ X.ev f (.t q2) = .i .i64 ((F : Int) + 1) ∧ X.ev f (.t q3) = .p bx 0 ∧ X.ev f (.t q9) = .i .i64 (i : Int) ∧ Ext M1 M' ∧ ∀ j, 1 ≤ j → j < i → ¬ (Lx hasS k (w.take j) ∧ St1 (Lx hasS k) (w.drop j))) (fun i => w.length + 1 - i) ?_ 1 ?_
      · rintro i f M2 ⟨hi0, hi, e1, e2, e3, e9, hx2, hno⟩
        simp only [q1, q2, q3, q9] at e1 e2 e3 e9
        unfold L12_13
        have g2 := (hx2.old _ hlt).trans g1
        have hx12 := hx1.trans hx2
        simp (maxSteps := 4000000) (disch := first | omega | assumption | (simp only [bxS, bxV, stOk, Nat.reduceBEq, Nat.reduceEqDiff, Nat.reduceAdd]; done) | (simp only [bxU]; omega) | ((try apply has_setN); apply has_ofL; simp only [bxL]; omega)) only [↓bxD, bxP, bxQ, bxQ2, Nat.reduceBEq, reduceCtorEq, Nat.reduceAdd, Nat.reduceSub, Nat.reduceMul, Nat.reduceLeDiff, Nat.reduceLT, bxR, e1, e2, e3, e9, b1, b2]
        refine condP_split (fun hlt2 => ?_) (fun hge => ?_)
        · have hi' : i ≤ w.length := by omega
          have hk := NodesAt.ext hx12 k3
          rw [NodesAt] at hk
          obtain ⟨tk, vk, gk, nk, xk⟩ := NodeAt.xat hk.1
          have hlo2 : M2.lo ≤ M2.n := by have := hx2.lo; have := hx2.n; omega
          have hc1 : cutM 1 bv none (some (.i .i64 (i : Int))) = some (cutHi i bv) := cutM_hi b1 (by omega)
          have hc2 : cutM 1 bv (some (.i .i64 (i : Int))) none = some (cutLo 1 i bv) := cutM_lo b1 (by omega)
          simp (maxSteps := 4000000) (disch := first | omega | assumption | (simp only [bxS, bxV, stOk, Nat.reduceBEq, Nat.reduceEqDiff, Nat.reduceAdd]; done) | (simp only [bxU]; omega) | ((try apply has_setN); apply has_ofL; simp only [bxL]; omega)) only [↓bxD, bxP, bxQ, bxQ2, Nat.reduceBEq, reduceCtorEq, Nat.reduceAdd, Nat.reduceSub, Nat.reduceMul, Nat.reduceLeDiff, Nat.reduceLT, bxR, e1, e2, e3, e9, b1, b2]
          show Wp fns K12_12 _ _ _
          unfold K12_12
          simp (maxSteps := 4000000) (disch := first | omega | assumption | (simp only [bxS, bxV, stOk, Nat.reduceBEq, Nat.reduceEqDiff, Nat.reduceAdd]; done) | (simp only [bxU]; omega) | ((try apply has_setN); apply has_ofL; simp only [bxL]; omega)) only [↓bxD, bxP, bxQ, bxQ2, Nat.reduceBEq, reduceCtorEq, Nat.reduceAdd, Nat.reduceSub, Nat.reduceMul, Nat.reduceLeDiff, Nat.reduceLT, bxR, e1, e2, e3, e9, b1, b2]
          refine Wp_dreg_of hlo2 ?_
          simp (maxSteps := 4000000) (disch := first | omega | assumption | (simp only [bxS, bxV, stOk, Nat.reduceBEq, Nat.reduceEqDiff, Nat.reduceAdd]; done) | (simp only [bxU]; omega) | ((try apply has_setN); apply has_ofL; simp only [bxL]; omega)) only [↓bxD, bxP, bxQ, bxQ2, Nat.reduceBEq, reduceCtorEq, Nat.reduceAdd, Nat.reduceSub, Nat.reduceMul, Nat.reduceLeDiff, Nat.reduceLT, bxR, e1, e2, e3, e9, g2, c5, hix, gk, nk, b1, b2, k1, k2', hFF, hc1, Option.map_some, Option.map_none]
          have hr1 := row_hi (hb.ext hx12) hi'
          refine bindP_call (hI M2 vk k (cutHi i bv) (w.take i) hlo2 xk hw.2.1 hr1 (by rw [List.length_take]; omega) (fun c hc => h256 c (List.mem_of_mem_take hc))) ?_
          rintro m M3 ⟨⟨r, rfl, hr⟩, hx3⟩
          have next : ¬ (Lx hasS k (w.take i) ∧ St1 (Lx hasS k) (w.drop i)) → ∀ j, 1 ≤ j → j < i + 1 → ¬ (Lx hasS k (w.take j) ∧ St1 (Lx hasS k) (w.drop j)) := fun hh j hj0 hj => by
            by_cases hj' : j < i
            · exact hno j hj0 hj'
            · have : j = i := by omega
              subst this; exact hh
          cases r with
          | false =>
            simp (maxSteps := 4000000) (disch := first | omega | assumption | (simp only [bxS, bxV, stOk, Nat.reduceBEq, Nat.reduceEqDiff, Nat.reduceAdd]; done) | (simp only [bxU]; omega) | ((try apply has_setN); apply has_ofL; simp only [bxL]; omega)) only [↓bxD, bxP, bxQ, bxQ2, Nat.reduceBEq, reduceCtorEq, Nat.reduceAdd, Nat.reduceSub, Nat.reduceMul, Nat.reduceLeDiff, Nat.reduceLT, bxR, e1, e2, e3, e9]
            show Wp fns K12_10 _ _ _
            unfold K12_10
            simp (maxSteps := 4000000) (disch := first | omega | assumption | (simp only [bxS, bxV, stOk, Nat.reduceBEq, Nat.reduceEqDiff, Nat.reduceAdd]; done) | (simp only [bxU]; omega) | ((try apply has_setN); apply has_ofL; simp only [bxL]; omega)) only [↓bxD, bxP, bxQ, bxQ2, Nat.reduceBEq, reduceCtorEq, Nat.reduceAdd, Nat.reduceSub, Nat.reduceMul, Nat.reduceLeDiff, Nat.reduceLT, bxR, e1, e2, e3, e9]
            show Wp fns K12_11 _ _ _
            unfold K12_11
            simp (maxSteps := 4000000) (disch := first | omega | assumption | (simp only [bxS, bxV, stOk, Nat.reduceBEq, Nat.reduceEqDiff, Nat.reduceAdd]; done) | (simp only [bxU]; omega) | ((try apply has_setN); apply has_ofL; simp only [bxL]; omega)) only [↓bxD, bxP, bxQ, bxQ2, Nat.reduceBEq, reduceCtorEq, Nat.reduceAdd, Nat.reduceSub, Nat.reduceMul, Nat.reduceLeDiff, Nat.reduceLT, bxR, e1, e2, e3, e9]
            exact ⟨i + 1, by omega, by omega, by omega, rfl, hx2.trans hx3, next (fun q => by have := hr.2 q.1; cases this)⟩
          | true =>
            have hx13 := hx12.trans hx3
            have hlo3 : M3.lo ≤ M3.n := by have := hx3.lo; have := hx3.n; omega
            have g3 : M3.get bx = some (.cs false 6 t) := (hx3.old _ (by have := hx2.n; omega)).trans g2
            have ff := fill_tail (n := 4) k1
            have hwt := wei_two k
            by_cases hil : i = w.length
            · have dl : decide ((i : Int) = (w.length : Int)) = true := decide_eq_true (by omega)
              simp (maxSteps := 4000000) (disch := first | omega | assumption | (simp only [bxS, bxV, stOk, Nat.reduceBEq, Nat.reduceEqDiff, Nat.reduceAdd]; done) | (simp only [bxU]; omega) | ((try apply has_setN); apply has_ofL; simp only [bxL]; omega)) only [↓bxD, bxP, bxQ, bxQ2, Nat.reduceBEq, reduceCtorEq, Nat.reduceAdd, Nat.reduceSub, Nat.reduceMul, Nat.reduceLeDiff, Nat.reduceLT, bxR, e1, e2, e3, e9, b1, b2, dl]
              show Wp fns K12_10 _ _ _
              unfold K12_10
              simp (maxSteps := 4000000) (disch := first | omega | assumption | (simp only [bxS, bxV, stOk, Nat.reduceBEq, Nat.reduceEqDiff, Nat.reduceAdd]; done) | (simp only [bxU]; omega) | ((try apply has_setN); apply has_ofL; simp only [bxL]; omega)) only [↓bxD, bxP, bxQ, bxQ2, Nat.reduceBEq, reduceCtorEq, Nat.reduceAdd, Nat.reduceSub, Nat.reduceMul, Nat.reduceLeDiff, Nat.reduceLT, bxR, e1, e2, e3, e9, b1, b2, dl]
              refine ⟨⟨_, rfl, ?_⟩, hx13⟩
              rw [hL]
              exact ⟨fun _ => ⟨i, hi0, hi', hr.1 rfl, by rw [hil, List.drop_length]; exact .nil⟩, fun _ => rfl⟩
            · have dl : decide ((i : Int) = (w.length : Int)) = false := decide_eq_false (by omega)
              simp (maxSteps := 4000000) (disch := first | omega | assumption | (simp only [bxS, bxV, stOk, Nat.reduceBEq, Nat.reduceEqDiff, Nat.reduceAdd]; done) | (simp only [bxU]; omega) | ((try apply has_setN); apply has_ofL; simp only [bxL]; omega)) only [↓bxD, bxP, bxQ, bxQ2, Nat.reduceBEq, reduceCtorEq, Nat.reduceAdd, Nat.reduceSub, Nat.reduceMul, Nat.reduceLeDiff, Nat.reduceLT, bxR, e1, e2, e3, e9, g3, c5, b1, b2, k1, k2', hFF, hc2, ff, dl, map_ag, Option.map_some, Option.map_none]
              refine bindP_call (hI M3 _ (.mk 4 0 0 0 0 (k :: kr)) (cutLo 1 i bv) (w.drop i) hlo3 ⟨_, rfl, k1, k2, NodesAt.ext hx13 k3⟩ (by rw [Wk, WkL]; exact ⟨fun _ => by simp, hw.2⟩) (row_lo (hb.ext hx13) hi') (by rw [List.length_drop, wei, weiL]; omega) (fun c hc => h256 c (List.mem_of_mem_drop hc))) ?_
              rintro m M4 ⟨⟨r, rfl, hr4⟩, hx4⟩
              rw [star_is] at hr4
              cases r with
              | true =>
                simp (maxSteps := 4000000) (disch := first | omega | assumption | (simp only [bxS, bxV, stOk, Nat.reduceBEq, Nat.reduceEqDiff, Nat.reduceAdd]; done) | (simp only [bxU]; omega) | ((try apply has_setN); apply has_ofL; simp only [bxL]; omega)) only [↓bxD, bxP, bxQ, bxQ2, Nat.reduceBEq, reduceCtorEq, Nat.reduceAdd, Nat.reduceSub, Nat.reduceMul, Nat.reduceLeDiff, Nat.reduceLT, bxR, e1, e2, e3, e9, g3, c5, b1, b2, k1, k2', hFF, hc2, ff, dl, map_ag, Option.map_some, Option.map_none]
                show Wp fns K12_10 _ _ _
                unfold K12_10
                simp (maxSteps := 4000000) (disch := first | omega | assumption | (simp only [bxS, bxV, stOk, Nat.reduceBEq, Nat.reduceEqDiff, Nat.reduceAdd]; done) | (simp only [bxU]; omega) | ((try apply has_setN); apply has_ofL; simp only [bxL]; omega)) only [↓bxD, bxP, bxQ, bxQ2, Nat.reduceBEq, reduceCtorEq, Nat.reduceAdd, Nat.reduceSub, Nat.reduceMul, Nat.reduceLeDiff, Nat.reduceLT, bxR, e1, e2, e3, e9, g3, c5, b1, b2, k1, k2', hFF, hc2, ff, dl, map_ag, Option.map_some, Option.map_none]
                refine ⟨⟨_, rfl, ?_⟩, hx13.trans hx4⟩
                rw [hL]
                exact ⟨fun _ => ⟨i, hi0, hi', hr.1 rfl, hr4.1 rfl⟩, fun _ => rfl⟩
              | false =>
                simp (maxSteps := 4000000) (disch := first | omega | assumption | (simp only [bxS, bxV, stOk, Nat.reduceBEq, Nat.reduceEqDiff, Nat.reduceAdd]; done) | (simp only [bxU]; omega) | ((try apply has_setN); apply has_ofL; simp only [bxL]; omega)) only [↓bxD, bxP, bxQ, bxQ2, Nat.reduceBEq, reduceCtorEq, Nat.reduceAdd, Nat.reduceSub, Nat.reduceMul, Nat.reduceLeDiff, Nat.reduceLT, bxR, e1, e2, e3, e9]
                show Wp fns K12_10 _ _ _
                unfold K12_10
                simp (maxSteps := 4000000) (disch := first | omega | assumption | (simp only [bxS, bxV, stOk, Nat.reduceBEq, Nat.reduceEqDiff, Nat.reduceAdd]; done) | (simp only [bxU]; omega) | ((try apply has_setN); apply has_ofL; simp only [bxL]; omega)) only [↓bxD, bxP, bxQ, bxQ2, Nat.reduceBEq, reduceCtorEq, Nat.reduceAdd, Nat.reduceSub, Nat.reduceMul, Nat.reduceLeDiff, Nat.reduceLT, bxR, e1, e2, e3, e9]
                show Wp fns K12_11 _ _ _
                unfold K12_11
                simp (maxSteps := 4000000) (disch := first | omega | assumption | (simp only [bxS, bxV, stOk, Nat.reduceBEq, Nat.reduceEqDiff, Nat.reduceAdd]; done) | (simp only [bxU]; omega) | ((try apply has_setN); apply has_ofL; simp only [bxL]; omega)) only [↓bxD, bxP, bxQ, bxQ2, Nat.reduceBEq, reduceCtorEq, Nat.reduceAdd, Nat.reduceSub, Nat.reduceMul, Nat.reduceLeDiff, Nat.reduceLT, bxR, e1, e2, e3, e9]
                exact ⟨i + 1, by omega, by omega, by omega, rfl, (hx2.trans hx3).trans hx4, next (fun q => by have := hr4.2 q.2; cases this)⟩
        · have hi' : i = w.length + 1 := by omega
          subst hi'
          simp (maxSteps := 4000000) (disch := first | omega | assumption | (simp only [bxS, bxV, stOk, Nat.reduceBEq, Nat.reduceEqDiff, Nat.reduceAdd]; done) | (simp only [bxU]; omega) | ((try apply has_setN); apply has_ofL; simp only [bxL]; omega)) only [↓bxD, bxP, bxQ, bxQ2, Nat.reduceBEq, reduceCtorEq, Nat.reduceAdd, Nat.reduceSub, Nat.reduceMul, Nat.reduceLeDiff, Nat.reduceLT, bxR, e1, e2, e3, e9]
          show Wp fns K12_14 _ _ _
          unfold K12_14
          simp (maxSteps := 4000000) (disch := first | omega | assumption | (simp only [bxS, bxV, stOk, Nat.reduceBEq, Nat.reduceEqDiff, Nat.reduceAdd]; done) | (simp only [bxU]; omega) | ((try apply has_setN); apply has_ofL; simp only [bxL]; omega)) only [↓bxD, bxP, bxQ, bxQ2, Nat.reduceBEq, reduceCtorEq, Nat.reduceAdd, Nat.reduceSub, Nat.reduceMul, Nat.reduceLeDiff, Nat.reduceLT, bxR, e1, e2, e3, e9]
          refine ⟨⟨_, rfl, ?_⟩, hx1.trans hx2⟩
          rw [hL]
          constructor
          · intro q; cases q
          · rintro ⟨j, hj0, hj, q⟩; exact (hno j hj0 (by omega) q).elim
      · exact ⟨Nat.le_refl _, by omega, by simp only [bxP, bxQ, bxQ2, reduceCtorEq, h1, h2, h3, h102, g1, c0, c5, b1, b2, dw], by simp only [bxP, bxQ, bxQ2, reduceCtorEq, h1, h2, h3, h102, g1, c0, c5, b1, b2, dw], by simp only [bxP, bxQ, bxQ2, reduceCtorEq, h1, h2, h3, h102, g1, c0, c5, b1, b2, dw], by simp only [bxP, bxQ, bxQ2, reduceCtorEq, h1, h2, h3, h102, g1, c0, c5, b1, b2, dw] <;> rfl, .refl _, fun j hj hj' => by omega⟩
  rcases hop with rfl | rfl
  · have d4 : decide ((4 : Int) = 4) = true := rfl
    simp (maxSteps := 4000000) (disch := first | omega | assumption | (simp only [bxS, bxV, stOk, Nat.reduceBEq, Nat.reduceEqDiff, Nat.reduceAdd]; done) | (simp only [bxU]; omega) | ((try apply has_setN); apply has_ofL; simp only [bxL]; omega)) only [↓bxD, bxP, bxQ, bxQ2, Nat.reduceBEq, reduceCtorEq, Nat.reduceAdd, Nat.reduceSub, Nat.reduceMul, Nat.reduceLeDiff, Nat.reduceLT, bxR, h1, h2, h3, g1, c0, c1, c5, b1, b2, d1, d2, d3, d6, d4]
    exact rest _ (by simp only [bxP, bxQ, bxQ2, reduceCtorEq, h1, h2, h3, g1, c0, c1, c5, b1, b2, d1, d2, d3, d6, d4]) (by simp only [bxP, bxQ, bxQ2, reduceCtorEq, h1, h2, h3, g1, c0, c1, c5, b1, b2, d1, d2, d3, d6, d4]) (by simp only [bxP, bxQ, bxQ2, reduceCtorEq, h1, h2, h3, g1, c0, c1, c5, b1, b2, d1, d2, d3, d6, d4]) (by simp only [bxP, bxQ, bxQ2, reduceCtorEq, h1, h2, h3, g1, c0, c1, c5, b1, b2, d1, d2, d3, d6, d4])
  · have d4 : decide ((5 : Int) = 4) = false := rfl
    have d5 : decide ((5 : Int) = 5) = true := rfl
    simp (maxSteps := 4000000) (disch := first | omega | assumption | (simp only [bxS, bxV, stOk, Nat.reduceBEq, Nat.reduceEqDiff, Nat.reduceAdd]; done) | (simp only [bxU]; omega) | ((try apply has_setN); apply has_ofL; simp only [bxL]; omega)) only [↓bxD, bxP, bxQ, bxQ2, Nat.reduceBEq, reduceCtorEq, Nat.reduceAdd, Nat.reduceSub, Nat.reduceMul, Nat.reduceLeDiff, Nat.reduceLT, bxR, h1, h2, h3, g1, c0, c1, c5, b1, b2, d1, d2, d3, d6, d4, d5]
    exact rest _ (by simp only [bxP, bxQ, bxQ2, reduceCtorEq, h1, h2, h3, g1, c0, c1, c5, b1, b2, d1, d2, d3, d6, d4, d5]) (by simp only [bxP, bxQ, bxQ2, reduceCtorEq, h1, h2, h3, g1, c0, c1, c5, b1, b2, d1, d2, d3, d6, d4, d5]) (by simp only [bxP, bxQ, bxQ2, reduceCtorEq, h1, h2, h3, g1, c0, c1, c5, b1, b2, d1, d2, d3, d6, d4, d5]) (by simp only [bxP, bxQ, bxQ2, reduceCtorEq, h1, h2, h3, g1, c0, c1, c5, b1, b2, d1, d2, d3, d6, d4, d5])
theorem tk_all : ∀ F, F ≤ 1000000 → TkIH F
  | 0, _ => by
    intro M v y bv w _ _ _ _ hF _
    have := wei_two y
    omega
  | F + 1, hF0 => by
    have hI := tk_all F (by omega)
    intro M v y bv w hlo hX hw hb hF h256
    obtain ⟨op, a, b, c, d, kids⟩ := y
    by_cases h1 : op = 1
    · subst h1; exact take_set hlo hX hb h256
    by_cases h0 : op < 1 ∨ 6 < op
    · exact take_none h0 hlo hX hb
    have hne : kids ≠ [] := by rw [Wk] at hw; exact hw.1 (by omega)
    by_cases h3 : op = 3
    · subst h3; exact take_alt hI hlo hX hw hb hF h256 (by omega)
    cases kids with
    | nil => exact (hne rfl).elim
    | cons k kr =>
      by_cases h2 : op = 2
      · subst h2; exact take_cat hI hlo hX hw hb hF h256 (by omega)
      by_cases h6 : op = 6
      · subst h6; exact take_opt hI hlo hX hw hb hF h256 (by omega)
      · exact take_rep hI (by omega) hlo hX hw hb hF h256 (by omega)
def lenTV (x : MV) : Option MV := match x with
  | .s t => some (.i .i64 (t.size : Int))
  | _ => none
theorem ev_lenT (c : CallM) (f : Fr) (M : MH) (x : X) : Iop.ev c f M (.lenT x) = o1 (lenTV (x.ev f)) M := by
  show (match x.ev f with | .s t => _ | _ => _) = _
  cases x.ev f <;> rfl
theorem lenT_s (t : ByteArray) : lenTV (.s t) = some (.i .i64 (t.size : Int)) := rfl
structure RdAt (M : MH) (rx : Nat) (s : ByteArray) (k : Nat) (e : Int) (c : Ev.T MV) (bad : Int) : Prop where
  g : M.get rx = some (.cs false 4 c)
  at_ : At c 0 [.s s, .i .i64 (k : Int), .i .i64 e, .i .i64 bad]
  lt : rx < M.n
theorem RdAt.ext {M M' : MH} {rx : Nat} {s : ByteArray} {k : Nat} {e bad : Int} {c : Ev.T MV} (h : RdAt M rx s k e c bad) (hx : Ext M M') : RdAt M' rx s k e c bad := ⟨(hx.old _ h.lt).trans h.g, h.at_, Nat.lt_of_lt_of_le h.lt hx.n⟩
theorem over_any {M : MH} {rx : Nat} {s : ByteArray} {k : Nat} {e bad : Int} {c : Ev.T MV} (hlo : M.lo ≤ M.n) (h : RdAt M rx s k e c bad) : Cp fns 20 [.p rx 0] M fun m M' => m = .b (decide (s.size ≤ k)) ∧ Ext M M' := by
  have g := h.g
  have c0 : cget c 0 = some (.s s) := h.at_ 0 _ rfl
  have c1 : cget c 1 = some (.i .i64 (k : Int)) := h.at_ 1 _ rfl
  refine Cp_call (fn := F20) (by kernel_rfl) (Nat.le_of_ble_eq_true rfl) ?_
  show Wp fns B20 (T.set q0 (some (.p rx 0)) T.lf) M _
  unfold B20
  simp (maxSteps := 4000000) (disch := first | omega | assumption | (simp only [bxS, bxV, stOk, Nat.reduceBEq, Nat.reduceEqDiff, Nat.reduceAdd]; done) | (simp only [bxU]; omega) | ((try apply has_setN); apply has_ofL; simp only [bxL]; omega)) only [↓bxD, bxP, bxQ, Nat.reduceBEq, reduceCtorEq, Nat.reduceAdd, Nat.reduceSub, Nat.reduceMul, Nat.reduceLeDiff, Nat.reduceLT, bxR, g, c0, c1, nck_p, Nat.zero_add, ev_lenT, lenT_s]
  refine Wp_dreg_of hlo ?_
  simp (maxSteps := 4000000) (disch := first | omega | assumption | (simp only [bxS, bxV, stOk, Nat.reduceBEq, Nat.reduceEqDiff, Nat.reduceAdd]; done) | (simp only [bxU]; omega) | ((try apply has_setN); apply has_ofL; simp only [bxL]; omega)) only [↓bxD, bxP, bxQ, Nat.reduceBEq, reduceCtorEq, Nat.reduceAdd, Nat.reduceSub, Nat.reduceMul, Nat.reduceLeDiff, Nat.reduceLT, bxR, g, c0, c1, nck_p, Nat.zero_add, ev_lenT, lenT_s]
  show Wp fns IC.ret _ _ _
  simp (maxSteps := 4000000) (disch := first | omega | assumption | (simp only [bxS, bxV, stOk, Nat.reduceBEq, Nat.reduceEqDiff, Nat.reduceAdd]; done) | (simp only [bxU]; omega) | ((try apply has_setN); apply has_ofL; simp only [bxL]; omega)) only [↓bxD, bxP, bxQ, Nat.reduceBEq, reduceCtorEq, Nat.reduceAdd, Nat.reduceSub, Nat.reduceMul, Nat.reduceLeDiff, Nat.reduceLT, bxR, g, c0, c1, nck_p, Nat.zero_add, ev_lenT, lenT_s]
  refine ⟨?_, .refl _⟩
  rw [show decide ((s.size : Int) ≤ (k : Int)) = decide (s.size ≤ k) from decide_eq_decide.2 (by omega)]
theorem fail_any {M : MH} {rx : Nat} {s : ByteArray} {k : Nat} {e bad z p : Int} {c : Ev.T MV} (hlo : M.lo ≤ rx) (h : RdAt M rx s k e c bad) : Cp fns 21 [.p rx 0, .i .i64 z, .i .i64 p] M fun _ M' => (∃ c' bad', RdAt M' rx s k (if e = 0 then z else e) c' bad') ∧ Chg (fun j => j = rx) M M' := by
  have g := h.g
  have c2 : cget c 2 = some (.i .i64 e) := h.at_ 2 _ rfl
  refine Cp_call (fn := F21) (by kernel_rfl) (Nat.le_of_ble_eq_true rfl) ?_
  show Wp fns B21 (T.set q2 (some (.i .i64 p)) (T.set q1 (some (.i .i64 z)) (T.set q0 (some (.p rx 0)) T.lf))) M _
  unfold B21
  have hb2 : hasB c 1 2 = true := has_at h.at_ (Nat.zero_le _) (by show 2 + 1 ≤ 0 + 4; omega)
  have hA1 : At (setN [MV.i .i64 z] 2 c) 0 [.s s, .i .i64 (k : Int), .i .i64 z, .i .i64 bad] := h.at_.set' (k := 2) 2 (.i .i64 z) (by show 2 < 4; omega) rfl
  have hA2 : At (setN [MV.i .i64 p] 3 (setN [MV.i .i64 z] 2 c)) 0 [.s s, .i .i64 (k : Int), .i .i64 z, .i .i64 p] := hA1.set' (k := 3) 3 (.i .i64 p) (by show 3 < 4; omega) rfl
  have hb3 : hasB (setN [MV.i .i64 z] 2 c) 1 3 = true := has_at hA1 (Nat.zero_le _) (by show 3 + 1 ≤ 0 + 4; omega)
  by_cases he : e = 0
  · subst he
    simp (maxSteps := 4000000) (disch := first | omega | assumption | (simp only [bxS, bxV, stOk, Nat.reduceBEq, Nat.reduceEqDiff, Nat.reduceAdd]; done) | (simp only [bxU]; omega) | ((try apply has_setN); apply has_ofL; simp only [bxL]; omega)) only [↓bxD, bxP, bxQ, Nat.reduceBEq, reduceCtorEq, Nat.reduceAdd, Nat.reduceSub, Nat.reduceMul, Nat.reduceLeDiff, Nat.reduceLT, bxR, g, c2, nck_p, Nat.zero_add, hb2, hb3, cells_i, set_same]
    simp (maxSteps := 4000000) (disch := first | omega | assumption | (simp only [bxS, bxV, stOk, Nat.reduceBEq, Nat.reduceEqDiff, Nat.reduceAdd]; done) | (simp only [bxU]; omega) | ((try apply has_setN); apply has_ofL; simp only [bxL]; omega)) only [↓bxD, bxP, bxQ, Nat.reduceBEq, reduceCtorEq, Nat.reduceAdd, Nat.reduceSub, Nat.reduceMul, Nat.reduceLeDiff, Nat.reduceLT, bxR, g, c2, nck_p, Nat.zero_add, hb2, hb3, cells_i, set_same, resL_nil]
    refine ⟨⟨_, p, ?_, hA2, h.lt⟩, ((Chg.refl (fun j => j = rx) M).set _ (.inl rfl)).set _ (.inl rfl)⟩
    exact set_same _ _
  · have hd : decide (e = 0) = false := decide_eq_false he
    simp (maxSteps := 4000000) (disch := first | omega | assumption | (simp only [bxS, bxV, stOk, Nat.reduceBEq, Nat.reduceEqDiff, Nat.reduceAdd]; done) | (simp only [bxU]; omega) | ((try apply has_setN); apply has_ofL; simp only [bxL]; omega)) only [↓bxD, bxP, bxQ, Nat.reduceBEq, reduceCtorEq, Nat.reduceAdd, Nat.reduceSub, Nat.reduceMul, Nat.reduceLeDiff, Nat.reduceLT, bxR, g, c2, nck_p, Nat.zero_add, hd]
    simp (maxSteps := 4000000) (disch := first | omega | assumption | (simp only [bxS, bxV, stOk, Nat.reduceBEq, Nat.reduceEqDiff, Nat.reduceAdd]; done) | (simp only [bxU]; omega) | ((try apply has_setN); apply has_ofL; simp only [bxL]; omega)) only [↓bxD, bxP, bxQ, Nat.reduceBEq, reduceCtorEq, Nat.reduceAdd, Nat.reduceSub, Nat.reduceMul, Nat.reduceLeDiff, Nat.reduceLT, bxR, g, c2, nck_p, Nat.zero_add, hd, resL_nil]
    rw [if_neg he]
    exact ⟨⟨c, bad, h⟩, .refl _ _⟩
theorem is_any {M : MH} {rx : Nat} {s : ByteArray} {k q : Nat} {e bad : Int} {c : Ev.T MV} (hlo : M.lo ≤ M.n) (h : RdAt M rx s k e c bad) : Cp fns 39 [.p rx 0, .i .u8 (q : Int)] M fun m M' => (∃ r, m = .b r ∧ (r = true → k < s.size)) ∧ Ext M M' := by
  refine Cp_call (fn := F39) (by kernel_rfl) (Nat.le_of_ble_eq_true rfl) ?_
  show Wp fns B39 (T.set q1 (some (.i .u8 (q : Int))) (T.set q0 (some (.p rx 0)) T.lf)) M _
  unfold B39
  simp (maxSteps := 4000000) (disch := first | omega | assumption | (simp only [bxS, bxV, stOk, Nat.reduceBEq, Nat.reduceEqDiff, Nat.reduceAdd]; done) | (simp only [bxU]; omega) | ((try apply has_setN); apply has_ofL; simp only [bxL]; omega)) only [↓bxD, bxP, bxQ, Nat.reduceBEq, reduceCtorEq, Nat.reduceAdd, Nat.reduceSub, Nat.reduceMul, Nat.reduceLeDiff, Nat.reduceLT, bxR]
  refine Wp_dreg_of hlo ?_
  simp (maxSteps := 4000000) (disch := first | omega | assumption | (simp only [bxS, bxV, stOk, Nat.reduceBEq, Nat.reduceEqDiff, Nat.reduceAdd]; done) | (simp only [bxU]; omega) | ((try apply has_setN); apply has_ofL; simp only [bxL]; omega)) only [↓bxD, bxP, bxQ, Nat.reduceBEq, reduceCtorEq, Nat.reduceAdd, Nat.reduceSub, Nat.reduceMul, Nat.reduceLeDiff, Nat.reduceLT, bxR]
  refine bindP_call (over_any hlo h) ?_
  rintro m M2 ⟨rfl, hx2⟩
  have h2 := h.ext hx2
  have g := h2.g
  have c0 : cget c 0 = some (.s s) := h.at_ 0 _ rfl
  have c1 : cget c 1 = some (.i .i64 (k : Int)) := h.at_ 1 _ rfl
  by_cases hk : s.size ≤ k
  · have hd : decide (s.size ≤ k) = true := decide_eq_true hk
    simp (maxSteps := 4000000) (disch := first | omega | assumption | (simp only [bxS, bxV, stOk, Nat.reduceBEq, Nat.reduceEqDiff, Nat.reduceAdd]; done) | (simp only [bxU]; omega) | ((try apply has_setN); apply has_ofL; simp only [bxL]; omega)) only [↓bxD, bxP, bxQ, Nat.reduceBEq, reduceCtorEq, Nat.reduceAdd, Nat.reduceSub, Nat.reduceMul, Nat.reduceLeDiff, Nat.reduceLT, bxR, hd]
    show Wp fns IC.ret _ _ _
    simp (maxSteps := 4000000) (disch := first | omega | assumption | (simp only [bxS, bxV, stOk, Nat.reduceBEq, Nat.reduceEqDiff, Nat.reduceAdd]; done) | (simp only [bxU]; omega) | ((try apply has_setN); apply has_ofL; simp only [bxL]; omega)) only [↓bxD, bxP, bxQ, Nat.reduceBEq, reduceCtorEq, Nat.reduceAdd, Nat.reduceSub, Nat.reduceMul, Nat.reduceLeDiff, Nat.reduceLT, bxR, hd]
    exact ⟨⟨_, rfl, fun q => (by cases q)⟩, hx2⟩
  · have hd : decide (s.size ≤ k) = false := decide_eq_false hk
    have hk' : k < s.data.toList.length := by rw [Array.length_toList]; exact Nat.lt_of_not_le hk
    have hix : puM .ixT (.s s) (.i .i64 (k : Int)) = some (.i .u8 (s.data.toList[k].toNat : Int)) := by
      show (match s.data.toList[k]? with | some c => some (MV.i .u8 (.ofNat c.toNat)) | none => none) = _
      rw [List.getElem?_eq_getElem hk']
      rfl
    simp (maxSteps := 4000000) (disch := first | omega | assumption | (simp only [bxS, bxV, stOk, Nat.reduceBEq, Nat.reduceEqDiff, Nat.reduceAdd]; done) | (simp only [bxU]; omega) | ((try apply has_setN); apply has_ofL; simp only [bxL]; omega)) only [↓bxD, bxP, bxQ, Nat.reduceBEq, reduceCtorEq, Nat.reduceAdd, Nat.reduceSub, Nat.reduceMul, Nat.reduceLeDiff, Nat.reduceLT, bxR, hd, g, c0, c1, hix, nck_p, Nat.zero_add]
    show Wp fns IC.ret _ _ _
    simp (maxSteps := 4000000) (disch := first | omega | assumption | (simp only [bxS, bxV, stOk, Nat.reduceBEq, Nat.reduceEqDiff, Nat.reduceAdd]; done) | (simp only [bxU]; omega) | ((try apply has_setN); apply has_ofL; simp only [bxL]; omega)) only [↓bxD, bxP, bxQ, Nat.reduceBEq, reduceCtorEq, Nat.reduceAdd, Nat.reduceSub, Nat.reduceMul, Nat.reduceLeDiff, Nat.reduceLT, bxR, hd, g, c0, c1, hix, nck_p, Nat.zero_add]
    exact ⟨⟨_, rfl, fun _ => Nat.lt_of_not_le hk⟩, hx2⟩
def Went (M M' : MH) (rx : Nat) (s : ByteArray) (k : Nat) (e : Int) (k' : Nat) (e' : Int) : Prop := (∃ c bad, RdAt M' rx s k' e' c bad) ∧ k ≤ k' ∧ k' ≤ s.size ∧ (e ≠ 0 → e' ≠ 0) ∧ Chg (fun j => j = rx) M M'
theorem RdAt.on {M : MH} {rx : Nat} {s : ByteArray} {k : Nat} {e bad : Int} {c : Ev.T MV} (h : RdAt M rx s k e c bad) (k1 : Nat) : RdAt (M.set rx (some (.cs false 4 (setN [MV.i .i64 (k1 : Int)] 1 c)))) rx s k1 e (setN [MV.i .i64 (k1 : Int)] 1 c) bad := ⟨set_same _ _, h.at_.set' (k := 1) 1 _ (by show 1 < 4; omega) rfl, h.lt⟩
theorem byte1_any {M : MH} {rx : Nat} {s : ByteArray} {k : Nat} {e bad : Int} {c : Ev.T MV} (hlo : M.lo ≤ rx) (hs : s.size ≤ 1000) (hk : k ≤ s.size) (h : RdAt M rx s k e c bad) : Cp fns 75 [.p rx 0] M fun m M' => ∃ (q k' : Nat) (e' : Int), m = .i .u8 (q : Int) ∧ q < 256 ∧ Went M M' rx s k e k' e' ∧ (e' = 0 → k < k') := by
  have hlt := h.lt
  have rest : ∀ (f : Fr) (M3 : MH) (k1 : Nat) (c3 : T MV) (bad3 : Int), X.ev f (.t q0) = .p rx 0 → RdAt M3 rx s k1 e c3 bad3 → Chg (fun j => j = rx) M M3 → k ≤ k1 → k1 ≤ s.size → Wp fns K75_1 f M3 (retQ F75 fun m M' => ∃ (q k' : Nat) (e' : Int), m = .i .u8 (q : Int) ∧ q < 256 ∧ Went M M' rx s k e k' e' ∧ (e' = 0 → k < k')) := by
    intro f M3 k1 c3 bad3 h0 h3 hc3 hk1 hk1s
    simp only [q0] at h0
    have hn3 := hc3.n
    have hl3 := hc3.lo
    unfold K75_1
    simp (maxSteps := 4000000) (disch := first | omega | assumption | (simp only [bxS, bxV, stOk, Nat.reduceBEq, Nat.reduceEqDiff, Nat.reduceAdd]; done) | (simp only [bxU]; omega) | ((try apply has_setN); apply has_ofL; simp only [bxL]; omega)) only [↓bxD, bxP, bxQ, Nat.reduceBEq, reduceCtorEq, Nat.reduceAdd, Nat.reduceSub, Nat.reduceMul, Nat.reduceLeDiff, Nat.reduceLT, bxR, h0]
    refine bindP_call (over_any (by omega) h3) ?_
    rintro m M4 ⟨rfl, hx4⟩
    have h4 := h3.ext hx4
    have hc4 := hc3.trans (.of hx4)
    have hl4 := hx4.lo
    have hn4 := hx4.n
    have c1 : cget c3 1 = some (.i .i64 (k1 : Int)) := h3.at_ 1 _ rfl
    have c0 : cget c3 0 = some (.s s) := h3.at_ 0 _ rfl
    have g4 := h4.g
    by_cases ho : s.size ≤ k1
    · have hd : decide (s.size ≤ k1) = true := decide_eq_true ho
      simp (maxSteps := 4000000) (disch := first | omega | assumption | (simp only [bxS, bxV, stOk, Nat.reduceBEq, Nat.reduceEqDiff, Nat.reduceAdd]; done) | (simp only [bxU]; omega) | ((try apply has_setN); apply has_ofL; simp only [bxL]; omega)) only [↓bxD, bxP, bxQ, Nat.reduceBEq, reduceCtorEq, Nat.reduceAdd, Nat.reduceSub, Nat.reduceMul, Nat.reduceLeDiff, Nat.reduceLT, bxR, h0, hd, g4, c1, nck_p, Nat.zero_add]
      refine bindP_call (fail_any (z := 2) (by omega) h4) ?_
      rintro m M5 ⟨⟨c5, bad5, h5⟩, hc5⟩
      simp (maxSteps := 4000000) (disch := first | omega | assumption | (simp only [bxS, bxV, stOk, Nat.reduceBEq, Nat.reduceEqDiff, Nat.reduceAdd]; done) | (simp only [bxU]; omega) | ((try apply has_setN); apply has_ofL; simp only [bxL]; omega)) only [↓bxD, bxP, bxQ, Nat.reduceBEq, reduceCtorEq, Nat.reduceAdd, Nat.reduceSub, Nat.reduceMul, Nat.reduceLeDiff, Nat.reduceLT, bxR, h0, hd, g4, c1, nck_p, Nat.zero_add]
      refine ⟨0, k1, _, rfl, by omega, ⟨⟨c5, bad5, h5⟩, hk1, hk1s, fun q => by rw [if_neg q]; exact q, hc4.trans hc5⟩, fun q => ?_⟩
      by_cases he : e = 0
      · rw [if_pos he] at q; cases q
      · rw [if_neg he] at q; exact (he q).elim
    · have hd : decide (s.size ≤ k1) = false := decide_eq_false ho
      have hb1 : hasB c3 1 1 = true := has_at h3.at_ (Nat.zero_le _) (by show 1 + 1 ≤ 0 + 4; omega)
      have hon := h4.on (k1 + 1)
      simp (maxSteps := 4000000) (disch := first | omega | assumption | (simp only [bxS, bxV, stOk, Nat.reduceBEq, Nat.reduceEqDiff, Nat.reduceAdd]; done) | (simp only [bxU]; omega) | ((try apply has_setN); apply has_ofL; simp only [bxL]; omega)) only [↓bxD, bxP, bxQ, Nat.reduceBEq, reduceCtorEq, Nat.reduceAdd, Nat.reduceSub, Nat.reduceMul, Nat.reduceLeDiff, Nat.reduceLT, bxR, h0, hd, g4, c1, hb1, nck_p, Nat.zero_add, cells_i]
      show Wp fns K75_0 _ _ _
      unfold K75_0
      simp (maxSteps := 4000000) (disch := first | omega | assumption | (simp only [bxS, bxV, stOk, Nat.reduceBEq, Nat.reduceEqDiff, Nat.reduceAdd]; done) | (simp only [bxU]; omega) | ((try apply has_setN); apply has_ofL; simp only [bxL]; omega)) only [↓bxD, bxP, bxQ, Nat.reduceBEq, reduceCtorEq, Nat.reduceAdd, Nat.reduceSub, Nat.reduceMul, Nat.reduceLeDiff, Nat.reduceLT, bxR, h0, hd, g4, c1, hb1, nck_p, Nat.zero_add, cells_i]
      have hc5 := hc4.set (some (.cs false 4 (setN [MV.i .i64 ((k1 + 1 : Nat) : Int)] 1 c3))) (id := rx) (.inl rfl)
      have hcast : ((k1 + 1 : Nat) : Int) = (k1 : Int) + 1 := by omega
      rw [hcast] at hon hc5
      generalize setN [MV.i .i64 ((k1 : Int) + 1)] 1 c3 = c5 at hon hc5 ⊢
      generalize MH.set M4 rx _ = M5 at hon hc5 ⊢
      have hl5 := hc5.lo
      have hn5 := hc5.n
      have g5 := hon.g
      have d0 : cget c5 0 = some (.s s) := hon.at_ 0 _ rfl
      have d1 : cget c5 1 = some (.i .i64 ((k1 + 1 : Nat) : Int)) := hon.at_ 1 _ rfl
      have hk' : k1 < s.data.toList.length := by rw [Array.length_toList]; exact Nat.lt_of_not_le ho
      have hix : puM .ixT (.s s) (.i .i64 (k1 : Int)) = some (.i .u8 (s.data.toList[k1].toNat : Int)) := by
        show (match s.data.toList[k1]? with | some c => some (MV.i .u8 (.ofNat c.toNat)) | none => none) = _
        rw [List.getElem?_eq_getElem hk']
        rfl
      rw [hcast] at d1
      refine Wp_dreg_of (by omega) ?_
      simp (maxSteps := 4000000) (disch := first | omega | assumption | (simp only [bxS, bxV, stOk, Nat.reduceBEq, Nat.reduceEqDiff, Nat.reduceAdd]; done) | (simp only [bxU]; omega) | ((try apply has_setN); apply has_ofL; simp only [bxL]; omega)) only [↓bxD, bxP, bxQ, Nat.reduceBEq, reduceCtorEq, Nat.reduceAdd, Nat.reduceSub, Nat.reduceMul, Nat.reduceLeDiff, Nat.reduceLT, bxR, h0, g5, d0, d1, hix, nck_p, Nat.zero_add, (show (k1 : Int) + 1 - 1 = (k1 : Int) by omega)]
      show Wp fns IC.ret _ _ _
      simp (maxSteps := 4000000) (disch := first | omega | assumption | (simp only [bxS, bxV, stOk, Nat.reduceBEq, Nat.reduceEqDiff, Nat.reduceAdd]; done) | (simp only [bxU]; omega) | ((try apply has_setN); apply has_ofL; simp only [bxL]; omega)) only [↓bxD, bxP, bxQ, Nat.reduceBEq, reduceCtorEq, Nat.reduceAdd, Nat.reduceSub, Nat.reduceMul, Nat.reduceLeDiff, Nat.reduceLT, bxR, h0, g5, d0, d1, hix, nck_p, Nat.zero_add, (show (k1 : Int) + 1 - 1 = (k1 : Int) by omega)]
      exact ⟨_, k1 + 1, e, rfl, UInt8.toNat_lt _, ⟨⟨c5, _, hon⟩, by omega, by omega, id, hc5⟩, fun _ => by omega⟩
  refine Cp_call (fn := F75) (by kernel_rfl) (Nat.le_of_ble_eq_true rfl) ?_
  show Wp fns B75 (T.set q0 (some (.p rx 0)) T.lf) M _
  unfold B75
  simp (maxSteps := 4000000) (disch := first | omega | assumption | (simp only [bxS, bxV, stOk, Nat.reduceBEq, Nat.reduceEqDiff, Nat.reduceAdd]; done) | (simp only [bxU]; omega) | ((try apply has_setN); apply has_ofL; simp only [bxL]; omega)) only [↓bxD, bxP, bxQ, Nat.reduceBEq, reduceCtorEq, Nat.reduceAdd, Nat.reduceSub, Nat.reduceMul, Nat.reduceLeDiff, Nat.reduceLT, bxR]
  refine bindP_call (is_any (q := 92) (by omega) h) ?_
  rintro m M2 ⟨⟨r, rfl, hr⟩, hx2⟩
  have h2 := h.ext hx2
  have hx2l := hx2.lo
  cases r with
  | false =>
    simp (maxSteps := 4000000) (disch := first | omega | assumption | (simp only [bxS, bxV, stOk, Nat.reduceBEq, Nat.reduceEqDiff, Nat.reduceAdd]; done) | (simp only [bxU]; omega) | ((try apply has_setN); apply has_ofL; simp only [bxL]; omega)) only [↓bxD, bxP, bxQ, Nat.reduceBEq, reduceCtorEq, Nat.reduceAdd, Nat.reduceSub, Nat.reduceMul, Nat.reduceLeDiff, Nat.reduceLT, bxR]
    exact rest _ _ k c bad (by simp only [bxP, bxQ, reduceCtorEq]) h2 (.of hx2) (Nat.le_refl _) hk
  | true =>
    have hlt2 := hr rfl
    have g2 := h2.g
    have c1 : cget c 1 = some (.i .i64 (k : Int)) := h.at_ 1 _ rfl
    have hb1 : hasB c 1 1 = true := has_at h.at_ (Nat.zero_le _) (by show 1 + 1 ≤ 0 + 4; omega)
    simp (maxSteps := 4000000) (disch := first | omega | assumption | (simp only [bxS, bxV, stOk, Nat.reduceBEq, Nat.reduceEqDiff, Nat.reduceAdd]; done) | (simp only [bxU]; omega) | ((try apply has_setN); apply has_ofL; simp only [bxL]; omega)) only [↓bxD, bxP, bxQ, Nat.reduceBEq, reduceCtorEq, Nat.reduceAdd, Nat.reduceSub, Nat.reduceMul, Nat.reduceLeDiff, Nat.reduceLT, bxR, g2, c1, hb1, nck_p, Nat.zero_add, cells_i]
    exact rest _ _ (k + 1) _ bad (by simp only [bxP, bxQ, reduceCtorEq, g2, c1, hb1, nck_p, Nat.zero_add, cells_i]) (h2.on (k + 1)) ((Chg.of hx2).set _ (.inl rfl)) (by omega) hlt2
theorem special_any {M : MH} {q : Nat} : Cp fns 73 [.i .u8 (q : Int)] M fun m M' => (∃ r, m = .b r) ∧ M' = M := by
  refine Cp_call (fn := F73) (by kernel_rfl) (Nat.le_of_ble_eq_true rfl) ?_
  show Wp fns B73 (T.set q0 (some (.i .u8 (q : Int))) T.lf) M _
  unfold B73
  have e : ∀ z : Int, binV .eql (.i .u8 (q : Int)) (.i .u8 z) = some (.b (decide ((q : Int) = z))) := fun z => rfl
  by_cases h0 : (q : Int) = 124
  · have t0 : decide ((q : Int) = 124) = true := decide_eq_true h0
    simp (maxSteps := 4000000) (disch := first | omega | assumption | (simp only [bxS, bxV, stOk, Nat.reduceBEq, Nat.reduceEqDiff, Nat.reduceAdd]; done) | (simp only [bxU]; omega) | ((try apply has_setN); apply has_ofL; simp only [bxL]; omega)) only [↓bxD, bxP, bxQ, Nat.reduceBEq, reduceCtorEq, Nat.reduceAdd, Nat.reduceSub, Nat.reduceMul, Nat.reduceLeDiff, Nat.reduceLT, bxR, t0]
    exact ⟨_, rfl⟩
  have d0 : decide ((q : Int) = 124) = false := decide_eq_false h0
  by_cases h1 : (q : Int) = 42
  · have t1 : decide ((q : Int) = 42) = true := decide_eq_true h1
    simp (maxSteps := 4000000) (disch := first | omega | assumption | (simp only [bxS, bxV, stOk, Nat.reduceBEq, Nat.reduceEqDiff, Nat.reduceAdd]; done) | (simp only [bxU]; omega) | ((try apply has_setN); apply has_ofL; simp only [bxL]; omega)) only [↓bxD, bxP, bxQ, Nat.reduceBEq, reduceCtorEq, Nat.reduceAdd, Nat.reduceSub, Nat.reduceMul, Nat.reduceLeDiff, Nat.reduceLT, bxR, d0, t1]
    exact ⟨_, rfl⟩
  have d1 : decide ((q : Int) = 42) = false := decide_eq_false h1
  by_cases h2 : (q : Int) = 43
  · have t2 : decide ((q : Int) = 43) = true := decide_eq_true h2
    simp (maxSteps := 4000000) (disch := first | omega | assumption | (simp only [bxS, bxV, stOk, Nat.reduceBEq, Nat.reduceEqDiff, Nat.reduceAdd]; done) | (simp only [bxU]; omega) | ((try apply has_setN); apply has_ofL; simp only [bxL]; omega)) only [↓bxD, bxP, bxQ, Nat.reduceBEq, reduceCtorEq, Nat.reduceAdd, Nat.reduceSub, Nat.reduceMul, Nat.reduceLeDiff, Nat.reduceLT, bxR, d0, d1, t2]
    exact ⟨_, rfl⟩
  have d2 : decide ((q : Int) = 43) = false := decide_eq_false h2
  by_cases h3 : (q : Int) = 63
  · have t3 : decide ((q : Int) = 63) = true := decide_eq_true h3
    simp (maxSteps := 4000000) (disch := first | omega | assumption | (simp only [bxS, bxV, stOk, Nat.reduceBEq, Nat.reduceEqDiff, Nat.reduceAdd]; done) | (simp only [bxU]; omega) | ((try apply has_setN); apply has_ofL; simp only [bxL]; omega)) only [↓bxD, bxP, bxQ, Nat.reduceBEq, reduceCtorEq, Nat.reduceAdd, Nat.reduceSub, Nat.reduceMul, Nat.reduceLeDiff, Nat.reduceLT, bxR, d0, d1, d2, t3]
    exact ⟨_, rfl⟩
  have d3 : decide ((q : Int) = 63) = false := decide_eq_false h3
  by_cases h4 : (q : Int) = 40
  · have t4 : decide ((q : Int) = 40) = true := decide_eq_true h4
    simp (maxSteps := 4000000) (disch := first | omega | assumption | (simp only [bxS, bxV, stOk, Nat.reduceBEq, Nat.reduceEqDiff, Nat.reduceAdd]; done) | (simp only [bxU]; omega) | ((try apply has_setN); apply has_ofL; simp only [bxL]; omega)) only [↓bxD, bxP, bxQ, Nat.reduceBEq, reduceCtorEq, Nat.reduceAdd, Nat.reduceSub, Nat.reduceMul, Nat.reduceLeDiff, Nat.reduceLT, bxR, d0, d1, d2, d3, t4]
    exact ⟨_, rfl⟩
  have d4 : decide ((q : Int) = 40) = false := decide_eq_false h4
  by_cases h5 : (q : Int) = 41
  · have t5 : decide ((q : Int) = 41) = true := decide_eq_true h5
    simp (maxSteps := 4000000) (disch := first | omega | assumption | (simp only [bxS, bxV, stOk, Nat.reduceBEq, Nat.reduceEqDiff, Nat.reduceAdd]; done) | (simp only [bxU]; omega) | ((try apply has_setN); apply has_ofL; simp only [bxL]; omega)) only [↓bxD, bxP, bxQ, Nat.reduceBEq, reduceCtorEq, Nat.reduceAdd, Nat.reduceSub, Nat.reduceMul, Nat.reduceLeDiff, Nat.reduceLT, bxR, d0, d1, d2, d3, d4, t5]
    exact ⟨_, rfl⟩
  have d5 : decide ((q : Int) = 41) = false := decide_eq_false h5
  by_cases h6 : (q : Int) = 91
  · have t6 : decide ((q : Int) = 91) = true := decide_eq_true h6
    simp (maxSteps := 4000000) (disch := first | omega | assumption | (simp only [bxS, bxV, stOk, Nat.reduceBEq, Nat.reduceEqDiff, Nat.reduceAdd]; done) | (simp only [bxU]; omega) | ((try apply has_setN); apply has_ofL; simp only [bxL]; omega)) only [↓bxD, bxP, bxQ, Nat.reduceBEq, reduceCtorEq, Nat.reduceAdd, Nat.reduceSub, Nat.reduceMul, Nat.reduceLeDiff, Nat.reduceLT, bxR, d0, d1, d2, d3, d4, d5, t6]
    exact ⟨_, rfl⟩
  have d6 : decide ((q : Int) = 91) = false := decide_eq_false h6
  by_cases h7 : (q : Int) = 93
  · have t7 : decide ((q : Int) = 93) = true := decide_eq_true h7
    simp (maxSteps := 4000000) (disch := first | omega | assumption | (simp only [bxS, bxV, stOk, Nat.reduceBEq, Nat.reduceEqDiff, Nat.reduceAdd]; done) | (simp only [bxU]; omega) | ((try apply has_setN); apply has_ofL; simp only [bxL]; omega)) only [↓bxD, bxP, bxQ, Nat.reduceBEq, reduceCtorEq, Nat.reduceAdd, Nat.reduceSub, Nat.reduceMul, Nat.reduceLeDiff, Nat.reduceLT, bxR, d0, d1, d2, d3, d4, d5, d6, t7]
    exact ⟨_, rfl⟩
  have d7 : decide ((q : Int) = 93) = false := decide_eq_false h7
  simp (maxSteps := 4000000) (disch := first | omega | assumption | (simp only [bxS, bxV, stOk, Nat.reduceBEq, Nat.reduceEqDiff, Nat.reduceAdd]; done) | (simp only [bxU]; omega) | ((try apply has_setN); apply has_ofL; simp only [bxL]; omega)) only [↓bxD, bxP, bxQ, Nat.reduceBEq, reduceCtorEq, Nat.reduceAdd, Nat.reduceSub, Nat.reduceMul, Nat.reduceLeDiff, Nat.reduceLT, bxR, d0, d1, d2, d3, d4, d5, d6, d7]
  exact ⟨_, rfl⟩
theorem st4_set (a b c d z : Int) {k : Nat} (h : k < 4) : ∃ a' b' c' d', (st4 a b c d).set k (.i .u64 z) = st4 a' b' c' d' := by
  match k, h with
  | 0, _ => exact ⟨z, b, c, d, rfl⟩
  | 1, _ => exact ⟨a, z, c, d, rfl⟩
  | 2, _ => exact ⟨a, b, z, d, rfl⟩
  | 3, _ => exact ⟨a, b, c, z, rfl⟩
theorem with_any' {M : MH} {a b c d : Int} {q : Nat} (hq : q < 256) (hlo : M.lo ≤ M.n) : Cp fns 74 [.ag (st4 a b c d), .i .u8 (q : Int)] M fun m M' => (∃ a b c d, m = .ag (st4 a b c d)) ∧ Ext M M' := by
  refine Cp_call (fn := F74) (by kernel_rfl) (Nat.le_of_ble_eq_true rfl) ?_
  show Wp fns B74 (T.set q1 (some (.i .u8 (q : Int))) (T.set q0 (some (.ag (st4 a b c d))) T.lf)) M _
  unfold B74
  obtain ⟨w, hw⟩ := st4_at a b c d (k := q / 64) (by omega)
  have hU : isU (.ag (st4 a b c d)) = false := rfl
  have hcl : MV.cells (.ag (st4 a b c d)) = st4 a b c d := rfl
  have hlen : (st4 a b c d).length = 4 := rfl
  have e1 := shr_u8 q
  have e2 := and63_u8 hq
  have e4 := cv_u8 (i := q % 64) (by omega)
  obtain ⟨z, e3⟩ : ∃ z, binV .shl (.i .u64 1) (.i .u64 ((q % 64 : Nat) : Int)) = some (.i .u64 z) := by
    refine ⟨wrapF .u64 (1 * ((2 ^ (min ((q % 64 : Nat) : Int).toNat 64) : Nat) : Int)), ?_⟩
    show (bif decide (((q % 64 : Nat) : Int) < 0) then none else some (MV.i .u64 (wrapF .u64 (1 * ((2 ^ (min ((q % 64 : Nat) : Int).toNat 64) : Nat) : Int))))) = _
    rw [decide_eq_false (by omega), cond_false]
  have e6 : binV .or (.i .u64 w) (.i .u64 z) = some (.i .u64 (bitsF .or .u64 w z)) := rfl
  have hA0 : At (ofL (st4 a b c d) 0) 0 (st4 a b c d) := at_ofL _
  have hb1 : hasB (ofL (st4 a b c d) 0) 1 (q / 64) = true := has_at hA0 (Nat.zero_le _) (by show q / 64 + 1 ≤ 0 + 4; omega)
  obtain ⟨a2, b2, c2, d2, h2⟩ := st4_set a b c d (bitsF .or .u64 w z) (k := q / 64) (by omega)
  have hA1 : At (setN [MV.i .u64 (bitsF .or .u64 w z)] (q / 64) (ofL (st4 a b c d) 0)) 0 (st4 a2 b2 c2 d2) := by
    rw [← h2]; exact hA0.set' _ _ (by show q / 64 < 4; omega) (by omega)
  have hg : getN (setN [MV.i .u64 (bitsF .or .u64 w z)] (q / 64) (ofL (st4 a b c d) 0)) 4 0 = some (st4 a2 b2 c2 d2) := hA1.getN
  have hU2 : isU (.ag (st4 a2 b2 c2 d2)) = false := rfl
  have hcl2 : MV.cells (.ag (st4 a2 b2 c2 d2)) = st4 a2 b2 c2 d2 := rfl
  have hlen2 : (st4 a2 b2 c2 d2).length = 4 := rfl
  have hall2 : allOne (st4 a2 b2 c2 d2) = true := rfl
  have hb2 : hasB (ofL [MV.i .u64 0, .i .u64 0, .i .u64 0, .i .u64 0] 0) 4 0 = true := has_ofL _ _ _ (by decide)
  have hg2 : ∀ t, getN (setN (st4 a2 b2 c2 d2) 0 t) 4 0 = some (st4 a2 b2 c2 d2) := fun t => getN_setN (st4 a2 b2 c2 d2) 0 t
  simp (maxSteps := 4000000) (disch := first | omega | assumption | (simp only [bxS, bxV, stOk, Nat.reduceBEq, Nat.reduceEqDiff, Nat.reduceAdd]; done) | (simp only [bxU]; omega) | ((try apply has_setN); apply has_ofL; simp only [bxL]; omega)) only [↓bxD, bxP, bxQ, Nat.reduceBEq, reduceCtorEq, Nat.reduceAdd, Nat.reduceSub, Nat.reduceMul, Nat.reduceLeDiff, Nat.reduceLT, bxR, hU, hcl, hlen, hw, e1, e2, e3, e4, e6, Nat.zero_add, Nat.mul_one, hb1, cells_i, hg, map_ag]
  generalize hM1 : MH.set _ _ _ = M1
  have g1 : M1.get (M.n + 1) = some (.cs false 4 (ofL [MV.i .u64 0, .i .u64 0, .i .u64 0, .i .u64 0] 0)) := by
    rw [← hM1, set_ne (by omega)]
    exact push_new (M := M.push _) _
  have hx1 : Ext M M1 := by rw [← hM1]; exact ((Ext.push M _).push' _).set _ (Nat.le_refl _)
  have hl1 : M1.lo = M.lo := hx1.lo
  clear hM1
  have gp : ∀ o1 o2 : MO, ((M.push o1).push o2).get (M.n + 1) = some o2 := fun o1 o2 => push_new (M := M.push o1) o2
  have hst : stW M1 4 (M.n + 1) 0 (.ag (st4 a2 b2 c2 d2)) (some (.cs false 4 (ofL [MV.i .u64 0, .i .u64 0, .i .u64 0, .i .u64 0] 0))) = some (.u, M1.set (M.n + 1) (some (.cs false 4 (setN (st4 a2 b2 c2 d2) 0 (ofL [MV.i .u64 0, .i .u64 0, .i .u64 0, .i .u64 0] 0))))) := stW_cs (by omega) rfl rfl rfl hb2
  simp (maxSteps := 4000000) (disch := first | omega | assumption | (simp only [bxS, bxV, stOk, Nat.reduceBEq, Nat.reduceEqDiff, Nat.reduceAdd]; done) | (simp only [bxU]; omega) | ((try apply has_setN); apply has_ofL; simp only [bxL]; omega)) only [↓bxD, bxP, bxQ, Nat.reduceBEq, reduceCtorEq, Nat.reduceAdd, Nat.reduceSub, Nat.reduceMul, Nat.reduceLeDiff, Nat.reduceLT, bxR, gp, hst, set_same, res_cN, cNV_p, cNo_cs, get_set, hg2, map_ag]

  exact ⟨⟨_, _, _, _, rfl⟩, hx1.set _ (by omega)⟩
def z6 : List MV := [.i .i64 0, .i .u64 0, .i .u64 0, .i .u64 0, .i .u64 0, .nils]
theorem one_any {M : MH} {q : Nat} (hq : q < 256) (hlo : M.lo ≤ M.n) : Cp fns 71 [.i .u8 (q : Int)] M fun m M' => (∃ a b c d, m = .ag [.i .i64 1, .i .u64 a, .i .u64 b, .i .u64 c, .i .u64 d, .nils]) ∧ Ext M M' := by
  refine Cp_call (fn := F71) (by kernel_rfl) (Nat.le_of_ble_eq_true rfl) ?_
  show Wp fns B71 (T.set q0 (some (.i .u8 (q : Int))) T.lf) M _
  unfold B71
  have hgz : getN (ofL [MV.i .u64 0, .i .u64 0, .i .u64 0, .i .u64 0] 0) 4 0 = some (st4 0 0 0 0) := (at_ofL (st4 0 0 0 0)).getN
  have gp : ∀ o1 o2 : MO, ((M.push o1).push o2).get (M.n + 1) = some o2 := fun o1 o2 => push_new (M := M.push o1) o2
  simp (maxSteps := 4000000) (disch := first | omega | assumption | (simp only [bxS, bxV, stOk, Nat.reduceBEq, Nat.reduceEqDiff, Nat.reduceAdd]; done) | (simp only [bxU]; omega) | ((try apply has_setN); apply has_ofL; simp only [bxL]; omega)) only [↓bxD, bxP, bxQ, Nat.reduceBEq, reduceCtorEq, Nat.reduceAdd, Nat.reduceSub, Nat.reduceMul, Nat.reduceLeDiff, Nat.reduceLT, bxR, hgz, gp, map_ag]
  generalize hM1 : (M.push _).push _ = M1
  have g0 : M1.get M.n = some (.cs false 6 (ofL z6 0)) := by rw [← hM1, push_old (by show M.n < M.n + 1; omega)]; exact push_new _
  have hx1 : Ext M M1 := by rw [← hM1]; exact (Ext.push M _).push' _
  have hl1 := hx1.lo
  have hn1 : M1.n = M.n + 2 := by rw [← hM1]; rfl
  clear hM1
  refine bindP_call (with_any' hq (by omega)) ?_
  rintro m M2 ⟨⟨a, b, c, d, rfl⟩, hx2⟩
  have g2 : M2.get M.n = some (.cs false 6 (ofL z6 0)) := (hx2.old _ (by omega)).trans g0
  have hl2 := hx2.lo
  have ff : fillM [(0, 1, MV.i .i64 1), (1, 4, MV.ag (st4 a b c d))] [.i .i64 0, .i .u64 0, .i .u64 0, .i .u64 0, .i .u64 0, .nils] = some [.i .i64 1, .i .u64 a, .i .u64 b, .i .u64 c, .i .u64 d, .nils] := rfl
  have hst : stW M2 6 M.n 0 (.ag [.i .i64 1, .i .u64 a, .i .u64 b, .i .u64 c, .i .u64 d, .nils]) (some (.cs false 6 (ofL z6 0))) = some (.u, M2.set M.n (some (.cs false 6 (setN [.i .i64 1, .i .u64 a, .i .u64 b, .i .u64 c, .i .u64 d, .nils] 0 (ofL z6 0))))) := stW_cs (by omega) rfl rfl rfl (has_ofL _ _ _ (by decide))
  have hg2 : ∀ t, getN (setN [.i .i64 1, .i .u64 a, .i .u64 b, .i .u64 c, .i .u64 d, .nils] 0 t) 6 0 = some [.i .i64 1, .i .u64 a, .i .u64 b, .i .u64 c, .i .u64 d, .nils] := fun t => getN_setN [.i .i64 1, .i .u64 a, .i .u64 b, .i .u64 c, .i .u64 d, .nils] 0 t
  simp (maxSteps := 4000000) (disch := first | omega | assumption | (simp only [bxS, bxV, stOk, Nat.reduceBEq, Nat.reduceEqDiff, Nat.reduceAdd]; done) | (simp only [bxU]; omega) | ((try apply has_setN); apply has_ofL; simp only [bxL]; omega)) only [↓bxD, bxP, bxQ, Nat.reduceBEq, reduceCtorEq, Nat.reduceAdd, Nat.reduceSub, Nat.reduceMul, Nat.reduceLeDiff, Nat.reduceLT, bxR, g2, ff, hst, set_same, res_cN, cNV_p, cNo_cs, get_set, hg2, map_ag]
  exact ⟨⟨_, _, _, _, rfl⟩, (hx1.trans hx2).set _ (Nat.le_refl _)⟩
theorem cv_byte {i : Nat} (h : i < 256) : cvIV .u8 (.i .i64 (i : Int)) = some (.i .u8 (i : Int)) := by
  show some (MV.i .u8 (wrapF .u8 (i : Int))) = _
  rw [wrapF_eq]
  simp only [IntKind.wrap, IntKind.bits, IntKind.signed]
  simp
  omega
theorem dot_any {M : MH} (hlo : M.lo ≤ M.n) : Cp fns 70 [] M fun m M' => (∃ a b c d, m = .ag (st4 a b c d)) ∧ Ext M M' := by
  refine Cp_call (fn := F70) (by kernel_rfl) (Nat.le_of_ble_eq_true rfl) ?_
  show Wp fns B70 T.lf M _
  unfold B70
  simp (maxSteps := 4000000) (disch := first | omega | assumption | (simp only [bxS, bxV, stOk, Nat.reduceBEq, Nat.reduceEqDiff, Nat.reduceAdd]; done) | (simp only [bxU]; omega) | ((try apply has_setN); apply has_ofL; simp only [bxL]; omega)) only [↓bxD, bxP, bxQ, Nat.reduceBEq, reduceCtorEq, Nat.reduceAdd, Nat.reduceSub, Nat.reduceMul, Nat.reduceLeDiff, Nat.reduceLT, bxR]
  generalize hM1 : (M.push _).push _ = M1
  have g0 : M1.get M.n = some (.cs false 4 (ofL (st4 0 0 0 0) 0)) := by rw [← hM1, push_old (by show M.n < M.n + 1; omega)]; exact push_new _
  have g1 : M1.get (M.n + 1) = some (.cs false 4 (ofL (st4 0 0 0 0) 0)) := by rw [← hM1]; exact push_new (M := M.push _) _
  have hx1 : Ext M M1 := by rw [← hM1]; exact (Ext.push M _).push' _
  have hl1 := hx1.lo
  have hn1 : M1.n = M.n + 2 := by rw [← hM1]; rfl
  clear hM1
  refine Wp_inv (σ := Nat) (fun i f M' => i ≤ 256 ∧ f.get q0 = some (.p M.n 0) ∧ X.ev f (.t q1) = .p (M.n + 1) 0 ∧ X.ev f (.t q2) = .i .i64 (i : Int) ∧ Chg (fun j => j = M.n + 1) M1 M' ∧ ∃ t a b c d, M'.get (M.n + 1) = some (.cs false 4 t) ∧ At t 0 (st4 a b c d)) (fun i => 256 - i) ?_ 0 ?_
  · rintro i f M2 ⟨hi, h0, h1, h2, hc2, t, a, b, c, d, g2, hA⟩
    simp only [q0, q1, q2] at h0 h1 h2
    have hN : getN t 4 0 = some (st4 a b c d) := hA.getN
    have hl2 := hc2.lo
    have hn2 := hc2.n
    unfold L70_2
    simp (maxSteps := 4000000) (disch := first | omega | assumption | (simp only [bxS, bxV, stOk, Nat.reduceBEq, Nat.reduceEqDiff, Nat.reduceAdd]; done) | (simp only [bxU]; omega) | ((try apply has_setN); apply has_ofL; simp only [bxL]; omega)) only [↓bxD, bxP, bxQ, Nat.reduceBEq, reduceCtorEq, Nat.reduceAdd, Nat.reduceSub, Nat.reduceMul, Nat.reduceLeDiff, Nat.reduceLT, bxR, h1, h2]
    refine condP_split (fun hlt => ?_) (fun hge => ?_)
    · have hi' : i < 256 := by omega
      have hcv := cv_byte hi'
      simp (maxSteps := 4000000) (disch := first | omega | assumption | (simp only [bxS, bxV, stOk, Nat.reduceBEq, Nat.reduceEqDiff, Nat.reduceAdd]; done) | (simp only [bxU]; omega) | ((try apply has_setN); apply has_ofL; simp only [bxL]; omega)) only [↓bxD, bxP, bxQ, Nat.reduceBEq, reduceCtorEq, Nat.reduceAdd, Nat.reduceSub, Nat.reduceMul, Nat.reduceLeDiff, Nat.reduceLT, bxR, h1, h2]
      show Wp fns K70_1 _ _ _
      unfold K70_1
      simp (maxSteps := 4000000) (disch := first | omega | assumption | (simp only [bxS, bxV, stOk, Nat.reduceBEq, Nat.reduceEqDiff, Nat.reduceAdd]; done) | (simp only [bxU]; omega) | ((try apply has_setN); apply has_ofL; simp only [bxL]; omega)) only [↓bxD, bxP, bxQ, Nat.reduceBEq, reduceCtorEq, Nat.reduceAdd, Nat.reduceSub, Nat.reduceMul, Nat.reduceLeDiff, Nat.reduceLT, bxR, h1, h2]
      by_cases h10 : (i : Int) = 10
      · have hd : decide ((i : Int) = 10) = true := decide_eq_true h10
        have hdn : decide ((i : Int) ≠ 10) = false := decide_eq_false (fun q => q h10)
        simp (maxSteps := 4000000) (disch := first | omega | assumption | (simp only [bxS, bxV, stOk, Nat.reduceBEq, Nat.reduceEqDiff, Nat.reduceAdd]; done) | (simp only [bxU]; omega) | ((try apply has_setN); apply has_ofL; simp only [bxL]; omega)) only [↓bxD, bxP, bxQ, Nat.reduceBEq, reduceCtorEq, Nat.reduceAdd, Nat.reduceSub, Nat.reduceMul, Nat.reduceLeDiff, Nat.reduceLT, bxR, h0, h1, h2, hd, hdn]
        show Wp fns K70_0 _ _ _
        unfold K70_0
        simp (maxSteps := 4000000) (disch := first | omega | assumption | (simp only [bxS, bxV, stOk, Nat.reduceBEq, Nat.reduceEqDiff, Nat.reduceAdd]; done) | (simp only [bxU]; omega) | ((try apply has_setN); apply has_ofL; simp only [bxL]; omega)) only [↓bxD, bxP, bxQ, Nat.reduceBEq, reduceCtorEq, Nat.reduceAdd, Nat.reduceSub, Nat.reduceMul, Nat.reduceLeDiff, Nat.reduceLT, bxR, h0, h1, h2, hd, hdn]
        exact ⟨i + 1, by omega, by omega, h0, rfl, hc2, t, a, b, c, d, g2, hA⟩
      · have hd : decide ((i : Int) = 10) = false := decide_eq_false h10
        have hdn : decide ((i : Int) ≠ 10) = true := decide_eq_true h10
        simp (maxSteps := 4000000) (disch := first | omega | assumption | (simp only [bxS, bxV, stOk, Nat.reduceBEq, Nat.reduceEqDiff, Nat.reduceAdd]; done) | (simp only [bxU]; omega) | ((try apply has_setN); apply has_ofL; simp only [bxL]; omega)) only [↓bxD, bxP, bxQ, Nat.reduceBEq, reduceCtorEq, Nat.reduceAdd, Nat.reduceSub, Nat.reduceMul, Nat.reduceLeDiff, Nat.reduceLT, bxR, h1, h2, hd, hdn, g2, hN, hcv, map_ag]
        refine bindP_call (with_any' hi' (by omega)) ?_
        rintro m M3 ⟨⟨a3, b3, c3, d3, rfl⟩, hx3⟩
        have hl3 := hx3.lo
        have g3 : M3.get (M.n + 1) = some (.cs false 4 t) := (hx3.old _ (by omega)).trans g2
        have hst : stW M3 4 (M.n + 1) 0 (.ag (st4 a3 b3 c3 d3)) (some (.cs false 4 t)) = some (.u, M3.set (M.n + 1) (some (.cs false 4 (setN (st4 a3 b3 c3 d3) 0 t)))) := stW_cs (by omega) rfl rfl rfl (has_at hA (Nat.zero_le _) (by show 0 + 4 ≤ 0 + 4; omega))
        simp (maxSteps := 4000000) (disch := first | omega | assumption | (simp only [bxS, bxV, stOk, Nat.reduceBEq, Nat.reduceEqDiff, Nat.reduceAdd]; done) | (simp only [bxU]; omega) | ((try apply has_setN); apply has_ofL; simp only [bxL]; omega)) only [↓bxD, bxP, bxQ, Nat.reduceBEq, reduceCtorEq, Nat.reduceAdd, Nat.reduceSub, Nat.reduceMul, Nat.reduceLeDiff, Nat.reduceLT, bxR, h1, h2, g3, hst]
        show Wp fns K70_0 _ _ _
        unfold K70_0
        simp (maxSteps := 4000000) (disch := first | omega | assumption | (simp only [bxS, bxV, stOk, Nat.reduceBEq, Nat.reduceEqDiff, Nat.reduceAdd]; done) | (simp only [bxU]; omega) | ((try apply has_setN); apply has_ofL; simp only [bxL]; omega)) only [↓bxD, bxP, bxQ, Nat.reduceBEq, reduceCtorEq, Nat.reduceAdd, Nat.reduceSub, Nat.reduceMul, Nat.reduceLeDiff, Nat.reduceLT, bxR, h1, h2, g3, hst]
        exact ⟨i + 1, by omega, by omega, h0, rfl, (hc2.trans (.of hx3)).set _ (.inl rfl), _, a3, b3, c3, d3, rfl, at_setN _ _ _⟩
    · have hi' : i = 256 := by omega
      subst hi'
      simp (maxSteps := 4000000) (disch := first | omega | assumption | (simp only [bxS, bxV, stOk, Nat.reduceBEq, Nat.reduceEqDiff, Nat.reduceAdd]; done) | (simp only [bxU]; omega) | ((try apply has_setN); apply has_ofL; simp only [bxL]; omega)) only [↓bxD, bxP, bxQ, Nat.reduceBEq, reduceCtorEq, Nat.reduceAdd, Nat.reduceSub, Nat.reduceMul, Nat.reduceLeDiff, Nat.reduceLT, bxR, h1, h2]
      have g0' : M2.get M.n = some (.cs false 4 (ofL (st4 0 0 0 0) 0)) := (hc2.old _ (by omega) (by omega)).trans g0
      have hst : stW M2 4 M.n 0 (.ag (st4 a b c d)) (some (.cs false 4 (ofL (st4 0 0 0 0) 0))) = some (.u, M2.set M.n (some (.cs false 4 (setN (st4 a b c d) 0 (ofL (st4 0 0 0 0) 0))))) := stW_cs (by omega) rfl rfl rfl (has_ofL _ _ _ (by decide))
      have hg2 : ∀ t, getN (setN (st4 a b c d) 0 t) 4 0 = some (st4 a b c d) := fun t => getN_setN (st4 a b c d) 0 t
      show Wp fns K70_3 _ _ _
      unfold K70_3
      simp (maxSteps := 4000000) (disch := first | omega | assumption | (simp only [bxS, bxV, stOk, Nat.reduceBEq, Nat.reduceEqDiff, Nat.reduceAdd]; done) | (simp only [bxU]; omega) | ((try apply has_setN); apply has_ofL; simp only [bxL]; omega)) only [↓bxD, bxP, bxQ, Nat.reduceBEq, reduceCtorEq, Nat.reduceAdd, Nat.reduceSub, Nat.reduceMul, Nat.reduceLeDiff, Nat.reduceLT, bxR, h1, h2, ev_get h0, g2, hN, g0', hst, set_same, res_cN, cNV_p, cNo_cs, get_set, hg2, h0, map_ag]
      exact ⟨⟨_, _, _, _, rfl⟩, ⟨by show M.n ≤ M2.n; omega, by show M2.lo = M.lo; omega, fun j hj => by rw [set_ne (by omega), hc2.old j (by omega) (by omega)]; exact hx1.old j hj⟩⟩
  · exact ⟨by omega, by simp (maxSteps := 4000000) (disch := first | omega | assumption | (simp only [bxS, bxV, stOk, Nat.reduceBEq, Nat.reduceEqDiff, Nat.reduceAdd]; done) | (simp only [bxU]; omega) | ((try apply has_setN); apply has_ofL; simp only [bxL]; omega)) only [↓bxD, bxP, bxQ, Nat.reduceBEq, reduceCtorEq, Nat.reduceAdd, Nat.reduceSub, Nat.reduceMul, Nat.reduceLeDiff, Nat.reduceLT, bxR, get_set], by simp only [bxP, bxQ, reduceCtorEq], by simp only [bxP, bxQ, reduceCtorEq] <;> rfl, .refl _ _, _, 0, 0, 0, 0, g1, at_ofL _⟩
mutual
def BlkIn (S : Nat → Prop) (M : MH) : Rx → Nat → Nat → Prop
  | .mk op a b c d kids, id, off => ∃ t kv, M.get id = some (.cs false 6 t) ∧ (S id ∧ id < M.n) ∧ At t off [.i .i64 op, .i .u64 a, .i .u64 b, .i .u64 c, .i .u64 d, kv] ∧ isSl kv = true ∧ slen kv = kids.length ∧ BlksIn S M kids (sid kv) (soff kv)
def BlksIn (S : Nat → Prop) (M : MH) : List Rx → Nat → Nat → Prop
  | [], _, _ => True
  | x :: r, id, off => BlkIn S M x id off ∧ BlksIn S M r id (off + 6)
end
mutual
theorem BlkIn.node {S : Nat → Prop} {M : MH} : ∀ {x : Rx} {id off : Nat}, BlkIn S M x id off → NodeAt M x id off
  | .mk op a b c d kids, id, off, h => by
    unfold BlkIn at h
    unfold NodeAt
    obtain ⟨t, kv, h1, h2, h3, h4, h5, h6⟩ := h
    exact ⟨t, kv, h1, h2.2, h3, h4, h5, h6.nodes⟩
theorem BlksIn.nodes {S : Nat → Prop} {M : MH} : ∀ {l : List Rx} {id off : Nat}, BlksIn S M l id off → NodesAt M l id off
  | [], id, off, h => by unfold NodesAt; trivial
  | x :: r, id, off, h => by
    unfold BlksIn at h
    unfold NodesAt
    exact ⟨h.1.node, h.2.nodes⟩
end
mutual
theorem BlkIn.more {S S' : Nat → Prop} {M M' : MH} (hn : M.n ≤ M'.n) (hS : ∀ j, S j → j < M.n → S' j ∧ M'.get j = M.get j) : ∀ {x : Rx} {id off : Nat}, BlkIn S M x id off → BlkIn S' M' x id off
  | .mk op a b c d kids, id, off, h => by
    unfold BlkIn at h ⊢
    obtain ⟨t, kv, h1, h2, h3, h4, h5, h6⟩ := h
    obtain ⟨k1, k2⟩ := hS id h2.1 h2.2
    exact ⟨t, kv, k2.trans h1, ⟨k1, Nat.lt_of_lt_of_le h2.2 hn⟩, h3, h4, h5, h6.more hn hS⟩
theorem BlksIn.more {S S' : Nat → Prop} {M M' : MH} (hn : M.n ≤ M'.n) (hS : ∀ j, S j → j < M.n → S' j ∧ M'.get j = M.get j) : ∀ {l : List Rx} {id off : Nat}, BlksIn S M l id off → BlksIn S' M' l id off
  | [], id, off, h => by unfold BlksIn; trivial
  | x :: r, id, off, h => by
    unfold BlksIn at h ⊢
    exact ⟨h.1.more hn hS, h.2.more hn hS⟩
end
def ReC (e : List MV) : Prop := ∃ op a b c d kv, e = [.i .i64 op, .i .u64 a, .i .u64 b, .i .u64 c, .i .u64 d, kv] ∧ isSl kv = true
def XIn (S : Nat → Prop) (M : MH) (e : List MV) : Rx → Prop
  | .mk op a b c d kids => ∃ kv, e = [.i .i64 op, .i .u64 a, .i .u64 b, .i .u64 c, .i .u64 d, kv] ∧ isSl kv = true ∧ slen kv = kids.length ∧ BlksIn S M kids (sid kv) (soff kv)
theorem XIn.more {S S' : Nat → Prop} {M M' : MH} {e : List MV} (hn : M.n ≤ M'.n) (hS : ∀ j, S j → j < M.n → S' j ∧ M'.get j = M.get j) {x : Rx} (h : XIn S M e x) : XIn S' M' e x := by
  obtain ⟨op, a, b, c, d, kids⟩ := x
  obtain ⟨kv, h1, h2, h3, h4⟩ := h
  exact ⟨kv, h1, h2, h3, h4.more hn hS⟩
theorem XIn.xat {S : Nat → Prop} {M : MH} {e : List MV} {x : Rx} (h : XIn S M e x) : XAt M (.ag e) x := by
  obtain ⟨op, a, b, c, d, kids⟩ := x
  obtain ⟨kv, h1, h2, h3, h4⟩ := h
  exact ⟨kv, by rw [h1], h2, h3, h4.nodes⟩
theorem ReC.len {e : List MV} (h : ReC e) : e.length = 6 := by
  obtain ⟨op, a, b, c, d, kv, rfl, _⟩ := h; rfl
theorem ReC.one {e : List MV} (h : ReC e) : allOne e = true := by
  obtain ⟨op, a, b, c, d, kv, rfl, h⟩ := h
  cases kv <;> first | rfl | cases h
theorem ReC.stok {e : List MV} (h : ReC e) : stOk 6 (.ag e) = true := by
  obtain ⟨op, a, b, c, d, kv, rfl, h⟩ := h
  cases kv <;> first | rfl | cases h
def XsIn (S : Nat → Prop) (M : MH) : List (List MV) → List Rx → Prop
  | [], [] => True
  | e :: es, x :: xs => XIn S M e x ∧ XsIn S M es xs
  | _, _ => False
theorem XsIn.more {S S' : Nat → Prop} {M M' : MH} (hn : M.n ≤ M'.n) (hS : ∀ j, S j → j < M.n → S' j ∧ M'.get j = M.get j) : ∀ {es : List (List MV)} {xs : List Rx}, XsIn S M es xs → XsIn S' M' es xs
  | [], [], h => trivial
  | e :: es, x :: xs, h => ⟨h.1.more hn hS, XsIn.more hn hS h.2⟩
  | [], _ :: _, h => h.elim
  | _ :: _, [], h => h.elim
theorem XsIn.app {S : Nat → Prop} {M : MH} : ∀ {es : List (List MV)} {xs : List Rx} {e : List MV} {x : Rx}, XsIn S M es xs → XIn S M e x → XsIn S M (es ++ [e]) (xs ++ [x])
  | [], [], e, x, h, k => ⟨k, trivial⟩
  | a :: es, y :: xs, e, x, h, k => ⟨h.1, XsIn.app h.2 k⟩
  | [], _ :: _, _, _, h, _ => h.elim
  | _ :: _, [], _, _, h, _ => h.elim
theorem XsIn.len {S : Nat → Prop} {M : MH} : ∀ {es : List (List MV)} {xs : List Rx}, XsIn S M es xs → es.length = xs.length
  | [], [], _ => rfl
  | _ :: _, _ :: _, h => by rw [List.length_cons, List.length_cons, XsIn.len h.2]
  | [], _ :: _, h => h.elim
  | _ :: _, [], h => h.elim
theorem XsIn.blks {S : Nat → Prop} {M : MH} {id : Nat} {t : Ev.T MV} (hg : M.get id = some (.cs false 6 t)) (hs : S id) (hid : id < M.n) : ∀ {es : List (List MV)} {xs : List Rx} {off : Nat}, XsIn S M es xs → At t off es.flatten → BlksIn S M xs id off
  | [], [], off, _, _ => by unfold BlksIn; trivial
  | e :: es, x :: xs, off, h, hA => by
    unfold BlksIn
    rw [List.flatten_cons] at hA
    obtain ⟨op, a, b, c, d, kids⟩ := x
    obtain ⟨⟨kv, h1, h2, h3, h4⟩, h5⟩ := h
    subst h1
    refine ⟨?_, XsIn.blks hg hs hid h5 hA.right⟩
    unfold BlkIn
    exact ⟨t, kv, hg, ⟨hs, hid⟩, hA.left, h2, h3, h4⟩
  | [], _ :: _, _, h, _ => h.elim
  | _ :: _, [], _, h, _ => h.elim
theorem weiL_app : ∀ (l r : List Rx), weiL (l ++ r) = weiL l + weiL r
  | [], r => by simp [weiL]
  | x :: l, r => by rw [List.cons_append, weiL, weiL, weiL_app l r]; omega
theorem WkL_app : ∀ {l r : List Rx}, WkL l → WkL r → WkL (l ++ r)
  | [], r, _, h => h
  | x :: l, r, h, k => by
    rw [WkL] at h
    rw [List.cons_append, WkL]
    exact ⟨h.1, WkL_app h.2 k⟩
theorem slot_get {f : Fr} {k : Ky} {id off : Nat} (h : X.ev f (.t k) = .p id off) : T.get f k = some (.p id off) := by
  unfold X.ev at h
  simp only at h
  cases e : f.get k with
  | none => rw [e] at h; cases h
  | some v => rw [e] at h; simp only at h; rw [← h]
theorem push2 {M M2 : MH} {a b : MO} (h : (M.push a).push b = M2) : Ext M M2 ∧ M2.n = M.n + 2 ∧ M2.get M.n = some a ∧ M2.get (M.n + 1) = some b := by
  subst h
  refine ⟨(Ext.push M a).trans (.push _ b), rfl, ?_, push_new (M := M.push a) b⟩
  rw [push_old (by show M.n < M.n + 1; omega)]; exact push_new _
end Go.Proofs.Ytcajphnjiepbaaa.K
