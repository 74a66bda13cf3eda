/-
  Rows of elements in the model's memory: read, kept, appended to. Conditions: none.
-/
import Derived.Test.YtaagkdljkpbilaaSy
set_option linter.unusedSimpArgs false
set_option linter.unusedVariables false
namespace Go.Proofs.Ytaagkdljkpbilaa.Ev
open Go
/-- All that was there is there as it was. -/
structure Ext (M M' : MH) : Prop where
  n : M.n ≤ M'.n
  lo : M'.lo = M.lo
  old : ∀ id, id < M.n → M'.get id = M.get id
theorem Ext.refl (M : MH) : Ext M M := ⟨Nat.le_refl _, rfl, fun _ _ => rfl⟩
theorem Ext.trans {a b c : MH} (h : Ext a b) (k : Ext b c) : Ext a c := ⟨Nat.le_trans h.n k.n, k.lo.trans h.lo, fun id hid => (k.old id (Nat.lt_of_lt_of_le hid h.n)).trans (h.old id hid)⟩
theorem Ext.push (M : MH) (o : MO) : Ext M (M.push o) := ⟨Nat.le_succ _, rfl, fun id hid => push_old hid⟩
theorem Ext.room (M : MH) (r : Nat) : Ext M (M.room r) := ⟨Nat.le_add_right _ _, rfl, fun id hid => rfl⟩
theorem Ext.set {M0 M : MH} (h : Ext M0 M) {id : Nat} (o : Option MO) (hid : M0.n ≤ id) : Ext M0 (M.set id o) := ⟨h.n, h.lo, fun j hj => by rw [set_ne (by omega)]; exact h.old j hj⟩
theorem Ext.push' {M0 M : MH} (h : Ext M0 M) (o : MO) : Ext M0 (M.push o) := h.trans (.push M o)
/-- A part of a row of cells, read. -/
def At (c : T MV) (off : Nat) (l : List MV) : Prop := ∀ j x, l[j]? = some x → cget c (off + j) = some x
theorem At.nil (c : T MV) (off : Nat) : At c off [] := fun j x h => by simp at h
theorem At.getN {c : T MV} : ∀ {l : List MV} {off : Nat}, At c off l → getN c l.length off = some l
  | [], off, h => rfl
  | x :: l, off, h => by
    rw [List.length_cons, getN_succ, show cget c off = some x from h 0 x rfl]
    simp only
    rw [At.getN (l := l) (off := off + 1) fun j y hj => by rw [show off + 1 + j = off + (j + 1) from by omega]; exact h (j + 1) y (by simpa using hj)]
theorem At.of_getN {c : T MV} {n off : Nat} {l : List MV} (h : Ev.getN c n off = some l) : At c off l := (getN_some h).2
theorem At.left {c : T MV} {off : Nat} {a b : List MV} (h : At c off (a ++ b)) : At c off a := fun j x hj => h j x (by rw [List.getElem?_append_left (List.getElem?_eq_some_iff.1 hj).1]; exact hj)
theorem At.right {c : T MV} {off : Nat} {a b : List MV} (h : At c off (a ++ b)) : At c (off + a.length) b := fun j x hj => by
  rw [Nat.add_assoc]
  exact h _ x (by rw [List.getElem?_append_right (by omega), show a.length + j - a.length = j from by omega]; exact hj)
theorem At.one {c : T MV} {off : Nat} {l : List MV} (h : At c off l) {j : Nat} {x : MV} (hj : l[j]? = some x) : cget c (off + j) = some x := h j x hj
theorem at_ofL (l : List MV) : At (ofL l 0) 0 l := fun j x hj => by rw [cget_ofL, if_pos (Nat.zero_le _), Nat.zero_add, Nat.sub_zero, hj]
theorem At.app {c : T MV} {olds news : List MV} (h : At c 0 olds) : At (appC c olds.length 0 olds news) 0 (olds ++ news) := fun j x hj => by rw [Nat.zero_add, appC_get h.getN, hj]
/-- Rows of elements of one size. -/
def Sized (sz : Nat) (es : List (List MV)) : Prop := ∀ e ∈ es, e.length = sz
theorem Sized.flat {sz : Nat} : ∀ {es : List (List MV)}, Sized sz es → es.flatten.length = es.length * sz
  | [], h => by simp
  | e :: es, h => by
    rw [List.flatten_cons, List.length_append, h e List.mem_cons_self, Sized.flat fun x hx => h x (List.mem_cons_of_mem _ hx), List.length_cons, Nat.succ_mul, Nat.add_comm]
theorem At.elem {c : T MV} {sz : Nat} : ∀ {es : List (List MV)} {off i : Nat} {e : List MV}, Sized sz es → At c off es.flatten → es[i]? = some e → At c (off + i * sz) e
  | [], off, i, e, hs, h, hi => by simp at hi
  | x :: es, off, 0, e, hs, h, hi => by
    simp only [List.getElem?_cons_zero, Option.some.injEq] at hi
    subst hi
    rw [Nat.zero_mul, Nat.add_zero]
    rw [List.flatten_cons] at h
    exact h.left
  | x :: es, off, i + 1, e, hs, h, hi => by
    rw [List.flatten_cons] at h
    have h1 := h.right
    rw [hs x List.mem_cons_self] at h1
    rw [Nat.succ_mul, show off + (i * sz + sz) = off + sz + i * sz from by omega]
    exact At.elem (fun y hy => hs y (List.mem_cons_of_mem _ hy)) h1 (by simpa using hi)
/-- A slice that reads as a row of elements. -/
def RowAt (M : MH) (sz : Nat) (v : MV) (es : List (List MV)) : Prop := Sized sz es ∧ ((v = .nils ∧ es = []) ∨ ∃ id off e ro s c, v = .sl id off es.length e ∧ M.get id = some (.cs ro s c) ∧ id < M.n ∧ At c off es.flatten)
theorem RowAt.ext {M M' : MH} {sz : Nat} {v : MV} {es : List (List MV)} (h : RowAt M sz v es) (k : Ext M M') : RowAt M' sz v es := by
  obtain ⟨hs, h | ⟨id, off, e, ro, s, c, h1, h2, h3, h4⟩⟩ := h
  · exact ⟨hs, .inl h⟩
  · exact ⟨hs, .inr ⟨id, off, e, ro, s, c, h1, (k.old id h3).trans h2, Nat.lt_of_lt_of_le h3 k.n, h4⟩⟩
/-- A row of one's own: it may be appended to. -/
def OwnRow (lo : Nat) (M : MH) (sz : Nat) (v : MV) (es : List (List MV)) : Prop := Sized sz es ∧ ((v = .nils ∧ es = []) ∨ ∃ id c, v = .sl id 0 es.length 0 ∧ M.get id = some (.cs false sz c) ∧ lo ≤ id ∧ id < M.n ∧ At c 0 es.flatten)
theorem OwnRow.row {lo : Nat} {M : MH} {sz : Nat} {v : MV} {es : List (List MV)} (h : OwnRow lo M sz v es) : RowAt M sz v es := by
  obtain ⟨hs, h | ⟨id, c, h1, h2, h3, h4, h5⟩⟩ := h
  · exact ⟨hs, .inl h⟩
  · exact ⟨hs, .inr ⟨id, 0, 0, false, sz, c, h1, h2, h4, h5⟩⟩
theorem OwnRow.nil (lo : Nat) (M : MH) (sz : Nat) : OwnRow lo M sz .nils [] := ⟨fun e h => (by cases h), .inl ⟨rfl, rfl⟩⟩
theorem OwnRow.ext {lo : Nat} {M M' : MH} {sz : Nat} {v : MV} {es : List (List MV)} (h : OwnRow lo M sz v es) (k : Ext M M') : OwnRow lo M' sz v es := by
  obtain ⟨hs, h | ⟨id, c, h1, h2, h3, h4, h5⟩⟩ := h
  · exact ⟨hs, .inl h⟩
  · exact ⟨hs, .inr ⟨id, c, h1, (k.old id h4).trans h2, h3, Nat.lt_of_lt_of_le h4 k.n, h5⟩⟩
theorem OwnRow.le {lo lo' : Nat} {M : MH} {sz : Nat} {v : MV} {es : List (List MV)} (h : OwnRow lo M sz v es) (k : lo' ≤ lo) : OwnRow lo' M sz v es := by
  obtain ⟨hs, h | ⟨id, c, h1, h2, h3, h4, h5⟩⟩ := h
  · exact ⟨hs, .inl h⟩
  · exact ⟨hs, .inr ⟨id, c, h1, h2, by omega, h4, h5⟩⟩
theorem RowAt.len {M : MH} {sz : Nat} {v : MV} {es : List (List MV)} (h : RowAt M sz v es) (call : CallM) (f : Fr) (x : X) (hx : x.ev f = v) : Iop.ev call f M (.len x) = some (.i .i64 (es.length : Int), M) := by
  obtain ⟨hs, ⟨rfl, rfl⟩ | ⟨id, off, e, ro, s, c, rfl, _⟩⟩ := h
  · simp only [Iop.ev, hx, List.length_nil]; rfl
  · simp only [Iop.ev, hx]
/-- Where an element lies. -/
def ElAt (M : MH) (v : MV) (e : List MV) : Prop := ∃ id off ro s c, v = .p id off ∧ M.get id = some (.cs ro s c) ∧ id < M.n ∧ At c off e
theorem ElAt.ext {M M' : MH} {v : MV} {e : List MV} (h : ElAt M v e) (k : Ext M M') : ElAt M' v e := by
  obtain ⟨id, off, ro, s, c, h1, h2, h3, h4⟩ := h
  exact ⟨id, off, ro, s, c, h1, (k.old id h3).trans h2, Nat.lt_of_lt_of_le h3 k.n, h4⟩
theorem RowAt.ix {M : MH} {sz : Nat} {v : MV} {es : List (List MV)} (h : RowAt M sz v es) (call : CallM) (f : Fr) (x y : X) (hx : x.ev f = v) {k : IntKind} {i : Nat} (hy : y.ev f = .i k (i : Int)) {e : List MV} (he : es[i]? = some e) : ∃ p, Iop.ev call f M (.ixS sz x y) = some (p, M) ∧ ElAt M p e := by
  obtain ⟨hs, ⟨rfl, rfl⟩ | ⟨id, off, ed, ro, s, c, rfl, h2, h3, h4⟩⟩ := h
  · simp at he
  · have hlt : i < es.length := (List.getElem?_eq_some_iff.1 he).1
    refine ⟨.p id (off + i * sz), ?_, id, _, ro, s, c, rfl, h2, h3, h4.elem hs he⟩
    simp only [Iop.ev, hx, hy]
    show (bif Nat.blt i es.length then some (MV.p id (off + i * sz), M) else none) = _
    rw [blt_t hlt, cond_true]
theorem ElAt.ldN {M : MH} {v : MV} {e : List MV} (h : ElAt M v e) (call : CallM) (f : Fr) (x : X) (hx : x.ev f = v) {n : Nat} (hn : e.length = n) : Iop.ev call f M (.ldN n x) = some (.ag e, M) := by
  obtain ⟨id, off, ro, s, c, rfl, h2, h3, h4⟩ := h
  subst hn
  simp only [Iop.ev, hx, h2, h4.getN]
theorem ElAt.fa {M : MH} {v : MV} {e : List MV} (h : ElAt M v e) (call : CallM) (f : Fr) (x : X) (hx : x.ev f = v) (o : Nat) : ∃ p, Iop.ev call f M (.fa o x) = some (p, M) ∧ ElAt M p (e.drop o) := by
  obtain ⟨id, off, ro, s, c, rfl, h2, h3, h4⟩ := h
  refine ⟨.p id (off + o), by simp only [Iop.ev, hx], id, _, ro, s, c, rfl, h2, h3, fun j y hj => ?_⟩
  rw [Nat.add_assoc]
  exact h4 _ y (by rw [List.getElem?_drop] at hj; exact hj)
theorem ElAt.ld1 {M : MH} {v : MV} {a : MV} {e : List MV} (h : ElAt M v (a :: e)) (call : CallM) (f : Fr) (x : X) (hx : x.ev f = v) : Iop.ev call f M (.ld1 x) = some (a, M) := by
  obtain ⟨id, off, ro, s, c, rfl, h2, h3, h4⟩ := h
  have := h4 0 a rfl
  rw [Nat.add_zero] at this
  simp only [Iop.ev, hx, h2, this]
/-- What is made new. -/
theorem new_ev {M : MH} (hlo : M.lo ≤ M.n) (call : CallM) (f : Fr) (l : List MV) : Iop.ev call f M (.new l) = some (.p M.n 0, M.push (.cs false l.length (ofL l 0))) := by
  simp only [Iop.ev, ble_t' hlo, cond_true]
theorem allOne_append (a b : List MV) : allOne (a ++ b) = (allOne a && allOne b) := by unfold allOne; rw [List.all_append]
theorem src_row {M : MH} {sz : Nat} {w : MV} {ns : List (List MV)} (h : RowAt M sz w ns) : srcM M sz w = some (ns.length, ns.flatten) := by
  obtain ⟨hs, ⟨rfl, rfl⟩ | ⟨id, off, e, ro, s, c, rfl, h2, h3, h4⟩⟩ := h
  · rfl
  · cases ns with
    | nil => rfl
    | cons x ns =>
      have hf := hs.flat
      unfold srcM
      simp only [List.length_cons, h2]
      rw [← List.length_cons (a := x), ← hf, h4.getN]
theorem all_flat : ∀ {ns : List (List MV)}, (∀ e ∈ ns, allOne e = true) → allOne ns.flatten = true
  | [], _ => rfl
  | e :: ns, h => by
    rw [List.flatten_cons, allOne_append, h e List.mem_cons_self, all_flat fun x hx => h x (List.mem_cons_of_mem _ hx)]
    rfl
theorem Sized.append {sz : Nat} {a b : List (List MV)} (h : Sized sz a) (k : Sized sz b) : Sized sz (a ++ b) := fun x hx => (List.mem_append.1 hx).elim (h x) (k x)
/-- A row is appended to a row of one's own. -/
theorem app_rowX {lo sz bytes : Nat} {M : MH} {v w : MV} {es ns : List (List MV)} (h : OwnRow lo M sz v es) (hw : RowAt M sz w ns) (hlo : M.lo ≤ lo) (hln : lo ≤ M.n) (ho : ∀ e ∈ ns, allOne e = true) (hb : (es.length + ns.length) * bytes ≤ 140737488355328) (hl : es.length + ns.length ≤ 9223372036854775807) :
    ∃ v' M', appM M sz bytes v w = some (v', M') ∧ OwnRow lo M' sz v' (es ++ ns) ∧ M.n ≤ M'.n ∧ M'.lo = M.lo ∧ (∀ j, j < M.n → (∀ a b n d, v = .sl a b n d → a ≠ j) → M'.get j = M.get j) ∧ (∀ j, j < lo → j < M.n → M'.get j = M.get j) ∧ (ns ≠ [] → ∃ n, v' = .sl M.n 0 n 0) := by
  have hsrc := src_row hw
  have ho := all_flat ho
  have hz := hw.1
  clear hw
  cases ns with
  | nil =>
    refine ⟨v, M, ?_, ?_, Nat.le_refl _, rfl, fun _ _ _ => rfl, fun _ _ _ => rfl, fun e => (e rfl).elim⟩
    · unfold appM
      rw [hsrc]
      simp only [ho, cond_true, List.length_nil]
      obtain ⟨hs, ⟨rfl, rfl⟩ | ⟨id, c, rfl, h2, h3, h4, h5⟩⟩ := h <;> rfl
    · rw [List.append_nil]; exact h
  | cons x ns =>
  obtain ⟨hs, ⟨rfl, rfl⟩ | ⟨id, c, rfl, h2, h3, h4, h5⟩⟩ := h
  · refine ⟨.sl M.n 0 (ns.length + 1) 0, M.push (.cs false sz (ofL (x :: ns).flatten 0)), ?_, ?_, Nat.le_succ _, rfl, fun j hj _ => push_old hj, fun j _ hj => push_old hj, fun _ => ⟨_, rfl⟩⟩
    · unfold appM
      rw [hsrc]
      simp only [List.length_nil, Nat.zero_add, List.length_cons] at hb hl
      simp only [ho, cond_true, List.length_cons]
      rw [ble_t' hb, ble_t' hl, ble_t' (show M.lo ≤ M.n by omega)]
      rfl
    · exact ⟨hz, .inr ⟨M.n, _, rfl, push_new _, hln, Nat.lt_succ_self _, at_ofL _⟩⟩
  · have hf := hs.flat
    refine ⟨.sl M.n 0 (es.length + (ns.length + 1)) 0, (M.set id none).push (.cs false sz (appC c (es.length * sz) 0 es.flatten (x :: ns).flatten)), ?_, ?_, Nat.le_succ _, rfl, fun j hj hv => ?_, fun j hj hjn => ?_, fun _ => ⟨_, rfl⟩⟩
    · unfold appM
      rw [hsrc]
      simp only [List.length_cons] at hb hl
      simp only [ho, cond_true, List.length_cons]
      rw [ble_t' hb, ble_t' hl, ble_t' (show M.lo ≤ id by omega), blt_t h4]
      simp only [Bool.true_and, h2, Nat.zero_mul, beq_self_eq_true, cond_true]
      rw [← hf, h5.getN]
    · refine ⟨hs.append hz, .inr ⟨M.n, _, by simp, push_new (M := M.set id none) _, hln, Nat.lt_succ_self _, ?_⟩⟩
      rw [List.flatten_append, ← hf]
      exact h5.app
    · rw [push_old (by rw [set_n]; exact hj), set_ne (fun e => hv id 0 es.length 0 rfl e.symm)]
    · rw [push_old (by rw [set_n]; exact hjn), set_ne (by omega)]
/-- A row is appended to a row of one's own. -/
theorem app_row {lo sz bytes : Nat} {M : MH} {v w : MV} {es ns : List (List MV)} (h : OwnRow lo M sz v es) (hw : RowAt M sz w ns) (hlo : M.lo ≤ lo) (hln : lo ≤ M.n) (ho : ∀ e ∈ ns, allOne e = true) (hb : (es.length + ns.length) * bytes ≤ 140737488355328) (hl : es.length + ns.length ≤ 9223372036854775807) :
    ∃ v' M', appM M sz bytes v w = some (v', M') ∧ OwnRow lo M' sz v' (es ++ ns) ∧ M.n ≤ M'.n ∧ M'.lo = M.lo ∧ (∀ j, j < M.n → (∀ a b n d, v = .sl a b n d → a ≠ j) → M'.get j = M.get j) ∧ (∀ j, j < lo → j < M.n → M'.get j = M.get j) := by
  obtain ⟨v', M', a, b, c, d, e, f, _⟩ := app_rowX h hw hlo hln ho hb hl
  exact ⟨v', M', a, b, c, d, e, f⟩
end Go.Proofs.Ytaagkdljkpbilaa.Ev
