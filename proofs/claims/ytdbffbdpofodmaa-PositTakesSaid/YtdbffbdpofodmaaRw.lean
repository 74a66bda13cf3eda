/-
  Rows of a call's own and lists that are read: elements of one cell or of more, one more put behind, one turned, kept while memory grows.
-/
import Derived.Test.YtdbffbdpofodmaaMem
import Derived.Test.YtdbffbdpofodmaaRow0
set_option linter.unusedSimpArgs false
namespace Go.Proofs.Ytdbffbdpofodmaa.Kit
open Go Go.RowKit
def ints (l : List Nat) : List Value := l.map fun n => .int .i64 (n : Nat)
theorem ints_len (l : List Nat) : (ints l).length = l.length := by simp [ints]
theorem ints_get {l : List Nat} {j n : Nat} (h : l[j]? = some n) : (ints l)[j]? = some (.int .i64 (n : Nat)) := by simp [ints, h]
/-- The value reads as the list xs of one-cell values, in a block of which S. -/
def Ls (S : Nat → Prop) (w : World) (v : Value) (xs : List Value) : Prop :=
  ∃ A cap, v = .slice A xs.length cap ∧ xs.length ≤ cap ∧ cap ≤ maxLen ∧ ∀ (j : Nat) (y : Value), xs[j]? = some y → ∃ k o, A = some ⟨k, o, none⟩ ∧ S k ∧ w.cell? ⟨k, o + j, none⟩ = some y
theorem Ls.nil (S : Nat → Prop) (w : World) : Ls S w (.slice none 0 0) [] := ⟨none, 0, rfl, Nat.le_refl _, Nat.zero_le _, fun j y h => by simp at h⟩
theorem Ls.keep {S S' : Nat → Prop} {w w' : World} {v : Value} {xs : List Value} (h : Ls S w v xs) (hk : ∀ k, k < w.heap.size → S k → S' k ∧ w'.heap[k]? = w.heap[k]?) : Ls S' w' v xs := by
  obtain ⟨A, cap, e, h1, h2, h3⟩ := h
  refine ⟨A, cap, e, h1, h2, fun j y hj => ?_⟩
  obtain ⟨k, o, ea, hs, hc⟩ := h3 j y hj
  obtain ⟨hs', hb⟩ := hk k (World.block_lt_of_cell? w _ hc) hs
  exact ⟨k, o, ea, hs', (World.cell?_of_block (a := ⟨k, o + j, none⟩) hb).trans hc⟩
theorem Ls.kept {S : Nat → Prop} {w w' : World} {v : Value} {xs : List Value} (h : Ls S w v xs) (hk : Kept w w') : Ls S w' v xs :=
  h.keep fun k hk' hs => ⟨hs, hk.block k hk'⟩
theorem Ls.weak {S S' : Nat → Prop} {w : World} {v : Value} {xs : List Value} (h : Ls S w v xs) (hk : ∀ k, k < w.heap.size → S k → S' k) : Ls S' w v xs :=
  h.keep fun k hk' hs => ⟨hk k hk' hs, rfl⟩
theorem Ls.form {S : Nat → Prop} {w : World} {v : Value} {xs : List Value} (h : Ls S w v xs) : ∃ A cap, v = .slice A xs.length cap := by
  obtain ⟨A, cap, e, -⟩ := h
  exact ⟨A, cap, e⟩
/-- An element of it. -/
theorem Ls.at {S : Nat → Prop} {w : World} {A : Option Addr} {n cap : Nat} {xs : List Value} (h : Ls S w (.slice A n cap) xs) {j : Nat} {y : Value} (hj : xs[j]? = some y) : ∃ k o, A = some ⟨k, o, none⟩ ∧ S k ∧ w.cell? ⟨k, o + j, none⟩ = some y := by
  obtain ⟨A', cap', e, -, -, h3⟩ := h
  injection e with e1 e2 e3
  subst e1
  exact h3 j y hj
/-- A row of one-cell values of the call's own. -/
def R1 (e base : Nat) (w : World) (v : Value) (xs : List Value) : Prop := w.ownsRow base e 1 v xs.length xs
theorem R1.nil (e base : Nat) (w : World) : R1 e base w (.slice none 0 0) [] := World.ownsRow_nil w base e 1
theorem R1.form {e base : Nat} {w : World} {v : Value} {xs : List Value} (h : R1 e base w v xs) : ∃ A cap, v = .slice A xs.length cap := by
  rcases h.2 with ⟨e, h0⟩ | ⟨b, cap, cur, e, h1, h2, h3⟩
  · exact ⟨none, 0, by rw [e, h0]⟩
  · exact ⟨_, cap, e⟩
theorem R1.own {e base : Nat} {w : World} {v : Value} {xs : List Value} (h : R1 e base w v xs) : ∀ k, v.ownBlock = some k → base ≤ k ∧ k < w.heap.size := World.ownsRow.lt h
theorem R1.same {e base : Nat} {w w' : World} {v : Value} {xs : List Value} (h : R1 e base w v xs) (hs : ∀ k, v.ownBlock = some k → w'.heap[k]? = w.heap[k]?) : R1 e base w' v xs := by
  refine ⟨h.1, ?_⟩
  rcases h.2 with h0 | ⟨b, cap, cur, e, h1, h2, h3⟩
  · exact .inl h0
  · exact .inr ⟨b, cap, cur, e, h1, (hs b (by rw [e]; rfl)).trans h2, h3⟩
theorem R1.kept {e base : Nat} {w w' : World} {v : Value} {xs : List Value} (h : R1 e base w v xs) (hk : Kept w w') : R1 e base w' v xs :=
  h.same fun k hk' => hk.block k (h.own k hk').2
theorem R1.ls {e base : Nat} {w : World} {v : Value} {xs : List Value} (h : R1 e base w v xs) : Ls (fun k => v.ownBlock = some k ∧ base ≤ k) w v xs := by
  rcases h.2 with ⟨ev, h0⟩ | ⟨b, cap, cur, ev, h1, h2, h3, h4, h5, h6⟩
  · obtain rfl := List.length_eq_zero_iff.1 h0
    rw [ev]
    exact Ls.nil _ _
  · refine ⟨_, cap, ev, h3, h4, fun j y hj => ⟨b, 0, rfl, ⟨by rw [ev]; rfl, h1⟩, ?_⟩⟩
    have hl : j < xs.length := (List.getElem?_eq_some_iff.1 hj).1
    have := World.ownsRow.cellAt (w := w) (base := base) (e := e) (size := 1) (g := b) (n := xs.length) (cap := cap) (xs := xs) (by rw [← ev]; exact h) j (by omega)
    rw [Nat.zero_add, this]
    exact hj
theorem R1.at {e base b n cap : Nat} {w : World} {xs : List Value} (h : R1 e base w (.slice (some ⟨b, 0, none⟩) n cap) xs) : w.heap[b]? ≠ none ∧ (∀ j, w.frozen? ⟨b, j, none⟩ = false) ∧ ∀ (j : Nat) (y : Value), xs[j]? = some y → w.cell? ⟨b, j, none⟩ = some y := by
  rcases h.2 with ⟨ev, h0⟩ | ⟨b', cap', cur, ev, h1, h2, h3, h4, h5, h6⟩
  · cases ev
  · have ev2 := ev
    injection ev with e1 e2 e3
    injection e1 with e1
    injection e1 with e1
    subst e1 e2 e3
    have hh : w.ownsRow base e 1 (.slice (some ⟨b, 0, none⟩) xs.length cap) xs.length xs := h
    refine ⟨by rw [h2]; simp, fun j => hh.frozenAt j, fun j y hj => ?_⟩
    have hl : j < xs.length := (List.getElem?_eq_some_iff.1 hj).1
    rw [hh.cellAt j (by omega)]
    exact hj
theorem R1.blkOf {e base : Nat} {w : World} {v : Value} {xs : List Value} (h : R1 e base w v xs) {j : Nat} {y : Value} (hj : xs[j]? = some y) : ∃ b cap, v = .slice (some ⟨b, 0, none⟩) xs.length cap ∧ base ≤ b ∧ b < w.heap.size := by
  rcases h.2 with ⟨ev, h0⟩ | ⟨b, cap, cur, ev, h1, h2, h3, h4, h5, h6⟩
  · rw [List.length_eq_zero_iff.1 h0] at hj
    simp at hj
  · exact ⟨b, cap, ev, h1, (Array.getElem?_eq_some_iff.1 h2).1⟩
/-- One turned. -/
theorem R1.set {e base b n cap : Nat} {w : World} {xs : List Value} (h : R1 e base w (.slice (some ⟨b, 0, none⟩) n cap) xs) (j : Nat) (u : Value) :
    R1 e base (w.setCell ⟨b, j, none⟩ u) (.slice (some ⟨b, 0, none⟩) n cap) (xs.set j u) := by
  rcases h.2 with ⟨ev, h0⟩ | ⟨b', cap', cur, ev, -⟩
  · cases ev
  · injection ev with e1 e2 e3
    subst e2
    have := (World.ownsRow.stored (w := w) (base := base) (e := e) (size := 1) (g := b) (n := xs.length) (cap := cap) (xs := xs) h j u).1
    unfold R1
    rw [List.length_set]
    exact this
theorem wpList_push1 {w : World} {ops : Array Oper} {rest : List Oper} {o : Oper} {a : Act} {Q : Exit → Act → World → Prop} (hgd : o.guard = none) (s x : Operand) (t e : Nat) (hm : (t = 30 ∧ e = 3) ∨ (t = 31 ∧ e = 30))
    (ho : o.op = .call { callee := .builtin .append, args := #[s, x], argTypes := #[t, t] }) {base : Nat} {v : Value} {xs : List Value} (hs : a.eval s = v) (h : R1 e base w v xs) (u : Value) (hu : u.oneCell' = true) (k : Nat) (hx : a.eval x = .slice (some ⟨k, 0, none⟩) 1 1)
    (hk : w.cell? ⟨k, 0, none⟩ = some u) (hn : xs.length ≤ 100000) (hb : base ≤ w.heap.size)
    (K : ∀ v' w', R1 e base w' v' (xs ++ [u]) → w.grownBy w' v.ownBlock → (v'.ownBlock = v.ownBlock ∨ v'.ownBlock = some w.heap.size) → wpList Try.prog ops Q rest (a.put o.dst v') w') :
    wpList Try.prog ops Q (o :: rest) a w := by
  have hnews : ∀ (j : Nat) (c : Value), [u][j]? = some c → w.cell? ((⟨k, 0, none⟩ : Addr).add j) = some c := fun j c hj => by
    match j, hj with
    | 0, hj =>
      simp only [List.getElem?_cons_zero, Option.some.injEq] at hj
      subst hj
      have e : (⟨k, 0, none⟩ : Addr).add 0 = ⟨k, 0, none⟩ := by unfold Addr.add; split <;> simp_all
      rw [e]; exact hk
  have hm2 : maxLen = 9223372036854775807 := rfl
  rcases hm with ⟨rfl, rfl⟩ | ⟨rfl, rfl⟩
  · have hi : (Try.prog.info? 3).map (fun i => (i.zero, i.size, i.bytes)) = some (some (.int .i64 0), 1, 8) := by kernel_rfl
    cases hi' : Try.prog.info? 3 with
    | none => rw [hi'] at hi; cases hi
    | some i =>
      rw [hi'] at hi
      simp only [Option.map_some, Option.some.injEq, Prod.mk.injEq] at hi
      exact wpList_append_own_at (P := Try.prog) w hgd s x 30 ho base 3 i _ 1 8 (by kernel_rfl) hi' hi.1 hi.2.1 hi.2.2 rfl (by omega) v xs.length _ hs h ⟨k, 0, none⟩ 1 1 [u] hx rfl hnews
        (fun c hc => by rw [List.mem_singleton.1 hc]; exact hu) (by rw [hm2]; omega) (by omega) hb fun v' w' h1 h2 _ h4 => K v' w' (by unfold R1; rw [List.length_append]; exact h1) h2 h4
  · have hi : (Try.prog.info? 30).map (fun i => (i.zero, i.size, i.bytes)) = some (some (.slice none 0 0), 1, 24) := by kernel_rfl
    cases hi' : Try.prog.info? 30 with
    | none => rw [hi'] at hi; cases hi
    | some i =>
      rw [hi'] at hi
      simp only [Option.map_some, Option.some.injEq, Prod.mk.injEq] at hi
      exact wpList_append_own_at (P := Try.prog) w hgd s x 31 ho base 30 i _ 1 24 (by kernel_rfl) hi' hi.1 hi.2.1 hi.2.2 rfl (by omega) v xs.length _ hs h ⟨k, 0, none⟩ 1 1 [u] hx rfl hnews
        (fun c hc => by rw [List.mem_singleton.1 hc]; exact hu) (by rw [hm2]; omega) (by omega) hb fun v' w' h1 h2 _ h4 => K v' w' (by unfold R1; rw [List.length_append]; exact h1) h2 h4
/-- A row of the call's own, each element so many cells. -/
def Rn (e size base : Nat) (w : World) (v : Value) (vs : List (List Value)) : Prop := w.ownsRow base e size v vs.length vs.flatten ∧ ∀ u ∈ vs, u.length = size ∧ ∀ c ∈ u, c.oneCell' = true
theorem Rn.nil (e size base : Nat) (w : World) : Rn e size base w (.slice none 0 0) [] := ⟨World.ownsRow_nil w base e size, fun u h => by simp at h⟩
theorem Rn.form {e size base : Nat} {w : World} {v : Value} {vs : List (List Value)} (h : Rn e size base w v vs) : ∃ A cap, v = .slice A vs.length cap := by
  rcases h.1.2 with ⟨e, h0⟩ | ⟨b, cap, cur, e, h1, h2, h3⟩
  · exact ⟨none, 0, by rw [e, h0]⟩
  · exact ⟨_, cap, e⟩
theorem Rn.own {e size base : Nat} {w : World} {v : Value} {vs : List (List Value)} (h : Rn e size base w v vs) : ∀ k, v.ownBlock = some k → base ≤ k ∧ k < w.heap.size := World.ownsRow.lt h.1
theorem Rn.same {e size base : Nat} {w w' : World} {v : Value} {vs : List (List Value)} (h : Rn e size base w v vs) (hs : ∀ k, v.ownBlock = some k → w'.heap[k]? = w.heap[k]?) : Rn e size base w' v vs := by
  refine ⟨⟨h.1.1, ?_⟩, h.2⟩
  rcases h.1.2 with h0 | ⟨b, cap, cur, e, h1, h2, h3⟩
  · exact .inl h0
  · exact .inr ⟨b, cap, cur, e, h1, (hs b (by rw [e]; rfl)).trans h2, h3⟩
theorem Rn.kept {e size base : Nat} {w w' : World} {v : Value} {vs : List (List Value)} (h : Rn e size base w v vs) (hk : Kept w w') : Rn e size base w' v vs :=
  h.same fun k hk' => hk.block k (h.own k hk').2
theorem flatten_at {size : Nat} : ∀ {vs : List (List Value)} (_ : ∀ u ∈ vs, u.length = size) {j i : Nat} {u : List Value} {c : Value} (_ : vs[j]? = some u) (_ : u[i]? = some c), vs.flatten[j * size + i]? = some c
  | [], _, j, i, u, c, h, _ => by simp at h
  | v :: r, hl, 0, i, u, c, h, hc => by
    simp only [List.getElem?_cons_zero, Option.some.injEq] at h
    subst h
    rw [List.flatten_cons, List.getElem?_append_left (by have := (List.getElem?_eq_some_iff.1 hc).1; omega)]
    simpa using hc
  | v :: r, hl, j + 1, i, u, c, h, hc => by
    have hv := hl v (by simp)
    rw [List.flatten_cons, List.getElem?_append_right (by rw [hv, Nat.succ_mul]; omega), hv]
    rw [show (j + 1) * size + i - size = j * size + i from by rw [Nat.succ_mul]; omega]
    exact flatten_at (fun u hu => hl u (by simp [hu])) (by simpa using h) hc
theorem flatten_len {size : Nat} : ∀ {vs : List (List Value)} (_ : ∀ u ∈ vs, u.length = size), vs.flatten.length = vs.length * size
  | [], _ => by simp
  | v :: r, hl => by
    rw [List.flatten_cons, List.length_append, hl v (by simp), flatten_len fun u hu => hl u (by simp [hu]), List.length_cons, Nat.succ_mul]
    omega
theorem Rn.at {e size base b n cap : Nat} {w : World} {vs : List (List Value)} (h : Rn e size base w (.slice (some ⟨b, 0, none⟩) n cap) vs) : (∀ j, w.frozen? ⟨b, j, none⟩ = false) ∧ ∀ (j i : Nat) (u : List Value) (c : Value), vs[j]? = some u → u[i]? = some c → w.cell? ⟨b, j * size + i, none⟩ = some c := by
  rcases h.1.2 with ⟨ev, h0⟩ | ⟨b', cap', cur, ev, h1, h2, h3, h4, h5, h6⟩
  · cases ev
  · injection ev with e1 e2 e3
    injection e1 with e1
    injection e1 with e1
    subst e1 e2 e3
    have hh : w.ownsRow base e size (.slice (some ⟨b, 0, none⟩) vs.length cap) vs.length vs.flatten := h.1
    refine ⟨fun j => hh.frozenAt j, fun j i u c hj hi => ?_⟩
    have hf := flatten_at (fun u hu => (h.2 u hu).1) hj hi
    have hl : j * size + i < vs.length * size := by
      have := (List.getElem?_eq_some_iff.1 hf).1
      rw [flatten_len fun u hu => (h.2 u hu).1] at this
      exact this
    rw [hh.cellAt _ hl]
    exact hf
theorem Rn.blkOf {e size base : Nat} {w : World} {v : Value} {vs : List (List Value)} (h : Rn e size base w v vs) {j : Nat} {y : List Value} (hj : vs[j]? = some y) : ∃ b cap, v = .slice (some ⟨b, 0, none⟩) vs.length cap ∧ base ≤ b ∧ b < w.heap.size := by
  rcases h.1.2 with ⟨ev, h0⟩ | ⟨b, cap, cur, ev, h1, h2, h3, h4, h5, h6⟩
  · rw [List.length_eq_zero_iff.1 h0] at hj
    simp at hj
  · exact ⟨b, cap, ev, h1, (Array.getElem?_eq_some_iff.1 h2).1⟩
theorem wpList_pushN {w : World} {ops : Array Oper} {rest : List Oper} {o : Oper} {a : Act} {Q : Exit → Act → World → Prop} (hgd : o.guard = none) (s x : Operand) (t e size bytes : Nat) (z : Value)
    (ht : Try.prog.underlying t = some (.slice e)) (hi : (Try.prog.info? e).map (fun i => (i.zero, i.size, i.bytes)) = some (some z, size, bytes)) (hz : z.cells.size = size) (hs0 : 0 < size) (hs9 : bytes ≤ 1000)
    (ho : o.op = .call { callee := .builtin .append, args := #[s, x], argTypes := #[t, t] }) {base : Nat} {v : Value} {vs : List (List Value)} (hs : a.eval s = v) (h : Rn e size base w v vs) (u : List Value) (hu : u.length = size) (hu1 : ∀ c ∈ u, c.oneCell' = true) (k : Nat) (hx : a.eval x = .slice (some ⟨k, 0, none⟩) 1 1)
    (hk : ∀ (j : Nat) (c : Value), u[j]? = some c → w.cell? ⟨k, j, none⟩ = some c) (hn : vs.length ≤ 100000) (hb : base ≤ w.heap.size)
    (K : ∀ v' w', Rn e size base w' v' (vs ++ [u]) → w.grownBy w' v.ownBlock → (v'.ownBlock = v.ownBlock ∨ v'.ownBlock = some w.heap.size) → wpList Try.prog ops Q rest (a.put o.dst v') w') :
    wpList Try.prog ops Q (o :: rest) a w := by
  have hnews : ∀ (j : Nat) (c : Value), u[j]? = some c → w.cell? ((⟨k, 0, none⟩ : Addr).add j) = some c := fun j c hj => by
    have e : (⟨k, 0, none⟩ : Addr).add j = ⟨k, j, none⟩ := by unfold Addr.add; split <;> simp_all
    rw [e]; exact hk j c hj
  have hm2 : maxLen = 9223372036854775807 := rfl
  have hmul : (vs.length + 1) * bytes ≤ 100001 * 1000 := Nat.mul_le_mul (by omega) hs9
  cases hi' : Try.prog.info? e with
  | none => rw [hi'] at hi; cases hi
  | some i =>
    rw [hi'] at hi
    simp only [Option.map_some, Option.some.injEq, Prod.mk.injEq] at hi
    refine wpList_append_own_at (P := Try.prog) w hgd s x t ho base e i z size bytes ht hi' hi.1 hi.2.1 hi.2.2 hz hs0 v vs.length _ hs h.1 ⟨k, 0, none⟩ 1 1 u hx (by omega) hnews hu1 (by rw [hm2]; omega) (by omega) hb fun v' w' h1 h2 _ h4 => K v' w' ⟨?_, fun q hq => ?_⟩ h2 h4
    · rw [List.length_append, List.flatten_append]
      simpa using h1
    · rcases List.mem_append.1 hq with hq | hq
      · exact h.2 q hq
      · rw [List.mem_singleton.1 hq]; exact ⟨hu, hu1⟩
end Go.Proofs.Ytdbffbdpofodmaa.Kit
