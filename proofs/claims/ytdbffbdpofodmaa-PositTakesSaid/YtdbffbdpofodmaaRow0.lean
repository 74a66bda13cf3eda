/-
  Rows of patterns that a call makes itself: one more put behind, handed on.
-/
import Derived.Test.YtdbffbdpofodmaaMem
namespace Go.Proofs.Ytdbffbdpofodmaa.Kit
open Go Go.RowKit
def cellsOf (u : Value) : List Value := u.cells.toList
def Six (u : Value) : Prop := ∃ op s A n cap, u = re6 op s (.slice A n cap)
theorem Six.len {u : Value} (h : Six u) : (cellsOf u).length = 6 := by
  obtain ⟨_, _, _, _, _, rfl⟩ := h
  rfl
theorem flat_get : ∀ (vs : List Value) (j i : Nat) (u : Value), (∀ u ∈ vs, Six u) → vs[j]? = some u → i < 6 → (vs.flatMap cellsOf)[j * 6 + i]? = (cellsOf u)[i]?
  | [], j, i, u, _, h, _ => by simp at h
  | v :: r, 0, i, u, h, hj, hi => by
    simp only [List.getElem?_cons_zero, Option.some.injEq] at hj
    subst hj
    rw [List.flatMap_cons, List.getElem?_append_left (by rw [(h v (by simp)).len]; omega)]
    simp
  | v :: r, j + 1, i, u, h, hj, hi => by
    rw [List.flatMap_cons, List.getElem?_append_right (by rw [(h v (by simp)).len]; omega), (h v (by simp)).len]
    rw [show (j + 1) * 6 + i - 6 = j * 6 + i from by omega]
    exact flat_get r j i u (fun u hu => h u (by simp [hu])) (by simpa using hj) hi
theorem six_one {vs : List Value} (h : ∀ u ∈ vs, Six u) : ∀ c ∈ vs.flatMap cellsOf, c.oneCell' = true := by
  intro c hc
  obtain ⟨u, hu, hcu⟩ := List.mem_flatMap.1 hc
  obtain ⟨op, s, A, n, cap, rfl⟩ := h u hu
  simp only [cellsOf, re6, Value.cells, wd, List.mem_cons, List.not_mem_nil, or_false] at hcu
  rcases hcu with rfl | rfl | rfl | rfl | rfl | rfl <;> rfl
/-- A row of six-cell values of the call's own. -/
def Raw (base : Nat) (w : World) (v : Value) (vs : List Value) : Prop := w.ownsRow base 26 6 v vs.length (vs.flatMap cellsOf) ∧ ∀ u ∈ vs, Six u
/-- A row of patterns of the call's own. -/
def Row (base : Nat) (w : World) (v : Value) (xs : List Re) : Prop :=
  ∃ vs : List Value, Raw base w v vs ∧ vs.length = xs.length ∧ ∀ (j : Nat) (u : Value) (x : Re), vs[j]? = some u → xs[j]? = some x → ReAt (fun k => base ≤ k ∧ v.ownBlock ≠ some k) w u x
theorem Raw.nil (base : Nat) (w : World) : Raw base w (.slice none 0 0) [] := ⟨World.ownsRow_nil w base 26 6, fun u hu => by simp at hu⟩
theorem Row.nil (base : Nat) (w : World) : Row base w (.slice none 0 0) [] := ⟨[], Raw.nil base w, rfl, fun j u x h => by simp at h⟩
theorem Raw.gr {base g : Nat} {w w' : World} {v : Value} {vs : List Value} (h : Raw base w v vs) (hg : Gr g w w') (hb : g < base) : Raw base w' v vs := by
  refine ⟨⟨h.1.1, ?_⟩, h.2⟩
  rcases h.1.2 with h0 | ⟨b, cap, cur, e, h1, h2, h3⟩
  · exact .inl h0
  · exact .inr ⟨b, cap, cur, e, h1, hg.blk h2 (by omega), h3⟩
theorem Row.gr {base g : Nat} {w w' : World} {v : Value} {xs : List Re} (h : Row base w v xs) (hg : Gr g w w') (hb : g < base) : Row base w' v xs := by
  obtain ⟨vs, h1, h2, h3⟩ := h
  exact ⟨vs, h1.gr hg hb, h2, fun j u x hu hx => (h3 j u x hu hx).gr hg (fun h => by omega)⟩
theorem Raw.kept {base : Nat} {w w' : World} {v : Value} {vs : List Value} (h : Raw base w v vs) (hg : Kept w w') : Raw base w' v vs := by
  refine ⟨⟨h.1.1, ?_⟩, h.2⟩
  rcases h.1.2 with h0 | ⟨b, cap, cur, e, h1, h2, h3⟩
  · exact .inl h0
  · exact .inr ⟨b, cap, cur, e, h1, hg.blk h2, h3⟩
theorem Row.kept {base : Nat} {w w' : World} {v : Value} {xs : List Re} (h : Row base w v xs) (hg : Kept w w') : Row base w' v xs := by
  obtain ⟨vs, h1, h2, h3⟩ := h
  exact ⟨vs, h1.kept hg, h2, fun j u x hu hx => (h3 j u x hu hx).kept hg⟩
theorem Raw.form {base : Nat} {w : World} {v : Value} {vs : List Value} (h : Raw base w v vs) : ∃ A cap, v = .slice A vs.length cap := by
  rcases h.1.2 with ⟨e, h0⟩ | ⟨b, cap, cur, e, h1, h2, h3⟩
  · exact ⟨none, 0, by rw [e, h0]⟩
  · exact ⟨_, cap, e⟩
theorem Raw.own {base : Nat} {w : World} {v : Value} {vs : List Value} (h : Raw base w v vs) : ∀ k, v.ownBlock = some k → base ≤ k ∧ k < w.heap.size := h.1.lt
theorem info26 : (Try.prog.info? 26).map (fun i => (i.zero, i.size, i.bytes)) = some (some (.agg #[.int .i64 0, .int .u64 0, .int .u64 0, .int .u64 0, .int .u64 0, .slice none 0 0]), 6, 64) := by kernel_rfl
theorem info26' : ∃ i, Try.prog.info? 26 = some i ∧ i.zero = some (.agg #[.int .i64 0, .int .u64 0, .int .u64 0, .int .u64 0, .int .u64 0, .slice none 0 0]) ∧ i.size = 6 ∧ i.bytes = 64 := by
  have h := info26
  cases hi : Try.prog.info? 26 with
  | none => rw [hi] at h; cases h
  | some i =>
    rw [hi] at h
    simp only [Option.map_some, Option.some.injEq, Prod.mk.injEq] at h
    exact ⟨i, rfl, h.1, h.2.1, h.2.2⟩
/-- One more. -/
theorem wpList_push {w : World} {ops : Array Oper} {rest : List Oper} {o : Oper} {a : Act} {Q : Exit → Act → World → Prop} (hgd : o.guard = none) (s x : Operand)
    (ho : o.op = .call { callee := .builtin .append, args := #[s, x], argTypes := #[24, 24] }) {base : Nat} {v : Value} {vs : List Value} (hs : a.eval s = v) (h : Raw base w v vs) (u : Value) (hu : Six u) (k : Nat) (hx : a.eval x = .slice (some ⟨k, 0, none⟩) 1 1)
    (hk : ∀ (j : Nat) (c : Value), (cellsOf u)[j]? = some c → w.cell? ⟨k, j, none⟩ = some c) (hn : vs.length ≤ 100000) (hb : base ≤ w.heap.size)
    (K : ∀ v' w', Raw base w' v' (vs ++ [u]) → w.grownBy w' v.ownBlock → (v'.ownBlock = v.ownBlock ∨ v'.ownBlock = some w.heap.size) → wpList Try.prog ops Q rest (a.put o.dst v') w') :
    wpList Try.prog ops Q (o :: rest) a w := by
  obtain ⟨i, hi, hz, hsz, hby⟩ := info26'
  have hnews : ∀ (j : Nat) (c : Value), (cellsOf u)[j]? = some c → w.cell? ((⟨k, 0, none⟩ : Addr).add j) = some c := fun j c hj => by
    have e : (⟨k, 0, none⟩ : Addr).add j = ⟨k, j, none⟩ := by unfold Addr.add; split <;> simp_all
    rw [e]; exact hk j c hj
  have hm : maxLen = 9223372036854775807 := rfl
  have hu2 : Try.prog.underlying 24 = some (.slice 26) := by kernel_rfl
  refine wpList_append_own_at (P := Try.prog) w hgd s x 24 ho base 26 i _ 6 64 hu2 hi hz hsz hby rfl (by omega) v vs.length _ hs h.1 ⟨k, 0, none⟩ 1 1 (cellsOf u) hx (by rw [hu.len]) hnews
    (fun c hc => six_one (vs := [u]) (by simpa using hu) c (by simpa using hc)) (by rw [hm]; omega) (by omega) hb ?_
  intro v' w' h1 h2 _ h4
  refine K v' w' ⟨?_, fun q hq => ?_⟩ h2 h4
  · rw [List.length_append, List.flatMap_append]
    simpa using h1
  · rcases List.mem_append.1 hq with hq | hq
    · exact h.2 q hq
    · rw [List.mem_singleton.1 hq]; exact hu
theorem Row.push {base lo : Nat} {w w' : World} {v v' u : Value} {vs : List Value} {xs : List Re} {x : Re} (_h1 : Raw base w v vs) (h2 : vs.length = xs.length) (h3 : ∀ (j : Nat) (u : Value) (x : Re), vs[j]? = some u → xs[j]? = some x → ReAt (fun k => base ≤ k ∧ v.ownBlock ≠ some k) w u x)
    (hx : ReAt (lo ≤ ·) w u x) (hlo : base ≤ lo) (hown : ∀ b, v.ownBlock = some b → b < lo) (hr : Raw base w' v' (vs ++ [u])) (hg : w.grownBy w' v.ownBlock) (ho : v'.ownBlock = v.ownBlock ∨ v'.ownBlock = some w.heap.size) : Row base w' v' (xs ++ [x]) := by
  have key : ∀ (y : Value) (z : Re), ReAt (fun k => base ≤ k ∧ v.ownBlock ≠ some k) w y z → ReAt (fun k => base ≤ k ∧ v'.ownBlock ≠ some k) w' y z := fun y z hz => by
    refine hz.keep (fun k hk hS => ⟨hS.1, ?_⟩) (fun a c hS hc => hg.cell hc (fun e => hS.2 e.symm))
    rcases ho with e | e
    · rw [e]; exact hS.2
    · rw [e]; intro e2; injection e2 with e2; omega
  refine ⟨_, hr, by simp [h2], fun j y z hy hz => ?_⟩
  by_cases hj : j < vs.length
  · rw [List.getElem?_append_left hj] at hy
    rw [List.getElem?_append_left (by omega)] at hz
    exact key y z (h3 j y z hy hz)
  · have hjl : j < (vs ++ [u]).length := (List.getElem?_eq_some_iff.1 hy).1
    have : j = vs.length := by simp at hjl; omega
    subst this
    rw [List.getElem?_append_right (Nat.le_refl _)] at hy
    rw [h2, List.getElem?_append_right (Nat.le_refl _)] at hz
    simp at hy hz
    subst hy hz
    exact key _ _ (hx.weak fun k _ hS => ⟨by omega, fun e => by have := hown k e; omega⟩)
/-- What a row's cells are. -/
theorem Raw.cell {base : Nat} {w : World} {v : Value} {vs : List Value} (h : Raw base w v vs) (j : Nat) (u : Value) (hj : vs[j]? = some u) : ∃ b cap, v = .slice (some ⟨b, 0, none⟩) vs.length cap ∧ vs.length ≤ cap ∧ cap ≤ maxLen ∧ base ≤ b ∧ ∀ i c, i < 6 → (cellsOf u)[i]? = some c → w.cell? ⟨b, j * 6 + i, none⟩ = some c := by
  rcases h.1.2 with ⟨e, h0⟩ | ⟨b, cap, cur, e, h1, h2, h3, h4, h5⟩
  · rw [List.eq_nil_of_length_eq_zero h0] at hj; simp at hj
  · refine ⟨b, cap, e, h3, h4, h1, fun i c hi hc => ?_⟩
    have := h.1.cells (g := b) (by rw [e]; rfl) (j * 6 + i) c (by rw [flat_get vs j i u h.2 hj hi]; exact hc)
    have e2 : (⟨b, 0, none⟩ : Addr).add (j * 6 + i) = ⟨b, j * 6 + i, none⟩ := by unfold Addr.add; split <;> simp_all
    rw [e2] at this
    exact this
/-- A row handed on as a pattern's kids. -/
theorem Row.kids {base : Nat} {w : World} {v : Value} {xs : List Re} (h : Row base w v xs) (hne : xs ≠ []) (op : Nat) : ReAt (base ≤ ·) w (re6 op 0#256 v) (.mk op 0#256 xs) := by
  obtain ⟨vs, h1, h2, h3⟩ := h
  obtain ⟨u0, hu0⟩ : ∃ u, vs[0]? = some u := ⟨vs[0]'(by rw [h2]; exact List.length_pos_iff.2 hne), List.getElem?_eq_getElem _⟩
  obtain ⟨b, cap, e, hc1, hc2, hb, -⟩ := h1.cell 0 u0 hu0
  subst e
  have hvs : ∀ (j : Nat) (y : Re), xs[j]? = some y → vs[j]? = some (vs.getD j undef) := fun j y hj => by
    have : j < vs.length := by rw [h2]; exact (List.getElem?_eq_some_iff.1 hj).1
    simp [List.getD_eq_getElem?_getD, List.getElem?_eq_getElem this]
  rw [h2]
  refine .mk op 0#256 xs (some ⟨b, 0, none⟩) cap (fun j => vs.getD j undef) (by rw [← h2]; exact hc1) hc2 (fun j y hj => ?_) (fun j y hj => (h3 j _ y (hvs j y hj) hj).weak fun k _ hS => hS.1)
  have hu := hvs j y hj
  obtain ⟨b', cap', e', -, -, -, hcell⟩ := h1.cell j _ hu
  injection e' with e1 _ _
  injection e1 with e1
  injection e1 with e1 _ _
  subst e1
  obtain ⟨op', s', A', n', cap2, e6⟩ := h1.2 _ (List.mem_of_getElem? hu)
  rw [e6] at hcell
  refine ⟨b, rfl, hb, _, _, _, _, _, _, e6, ?_, ?_, ?_, ?_, ?_, ?_⟩
  · exact hcell 0 _ (by omega) rfl
  · exact hcell 1 _ (by omega) rfl
  · exact hcell 2 _ (by omega) rfl
  · exact hcell 3 _ (by omega) rfl
  · exact hcell 4 _ (by omega) rfl
  · exact hcell 5 _ (by omega) rfl
end Go.Proofs.Ytdbffbdpofodmaa.Kit
namespace Go.Proofs.Ytdbffbdpofodmaa.Kit
open Go Go.RowKit
end Go.Proofs.Ytdbffbdpofodmaa.Kit
