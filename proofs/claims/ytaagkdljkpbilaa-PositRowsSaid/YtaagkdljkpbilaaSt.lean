/-
  Stores into rows, and what stays. Conditions: none.
-/
import Derived.Test.YtaagkdljkpbilaaAx
set_option linter.unusedSimpArgs false
set_option linter.unusedVariables false
namespace Go.Proofs.Ytaagkdljkpbilaa.Ev
open Go
/-- One cell is written. -/
theorem At.set {c : T MV} {off : Nat} {l : List MV} (h : At c off l) (j : Nat) (x : MV) (hj : j < l.length) : At (setN [x] (off + j) c) off (l.set j x) := fun i y hi => by
  rw [cget_setN]
  rw [List.getElem?_set] at hi
  by_cases e : j = i
  · subst e
    rw [if_pos rfl, if_pos hj] at hi
    rw [if_pos ⟨Nat.le_refl _, by simp⟩, Nat.sub_self]
    exact hi
  · rw [if_neg e] at hi
    rw [if_neg (by simp only [List.length_singleton]; omega)]
    exact h i y hi
theorem At.set' {c : T MV} {off k : Nat} {l : List MV} (h : At c off l) (j : Nat) (x : MV) (hj : j < l.length) (hk : k = off + j) : At (setN [x] k c) off (l.set j x) := by subst hk; exact h.set j x hj
theorem flat_set {sz : Nat} : ∀ {es : List (List MV)} {i o : Nat} {e : List MV} {x : MV}, Sized sz es → es[i]? = some e → o < sz → es.flatten.set (i * sz + o) x = (es.set i (e.set o x)).flatten
  | [], i, o, e, x, hs, he, ho => by simp at he
  | a :: es, 0, o, e, x, hs, he, ho => by
    simp only [List.getElem?_cons_zero, Option.some.injEq] at he
    subst he
    have hl : a.length = sz := hs a List.mem_cons_self
    rw [List.flatten_cons, List.set_cons_zero, List.flatten_cons, Nat.zero_mul, Nat.zero_add, List.set_append_left _ _ (by omega)]
  | a :: es, i + 1, o, e, x, hs, he, ho => by
    have hl : a.length = sz := hs a List.mem_cons_self
    rw [List.flatten_cons, List.set_cons_succ, List.flatten_cons, List.set_append_right _ _ (by rw [hl, Nat.succ_mul]; omega), hl, Nat.succ_mul, show i * sz + sz + o - sz = i * sz + o from by omega]
    rw [flat_set (fun y hy => hs y (List.mem_cons_of_mem _ hy)) (by simpa using he) ho]
theorem Sized.set {sz : Nat} {es : List (List MV)} (h : Sized sz es) (i : Nat) {e : List MV} (he : e.length = sz) : Sized sz (es.set i e) := fun x hx => by
  rcases List.mem_or_eq_of_mem_set hx with h1 | h1
  · exact h x h1
  · rw [h1]; exact he
theorem At.elem_set {c : T MV} {sz : Nat} {es : List (List MV)} (hs : Sized sz es) (h : At c 0 es.flatten) {i o : Nat} {e : List MV} {x : MV} (he : es[i]? = some e) (ho : o < sz) {k : Nat} (hk : k = i * sz + o) : At (setN [x] k c) 0 (es.set i (e.set o x)).flatten := by
  rw [← flat_set hs he ho]
  have hi := (List.getElem?_eq_some_iff.1 he).1
  refine h.set' _ x ?_ (by rw [hk, Nat.zero_add])
  rw [hs.flat]
  have : (i + 1) * sz ≤ es.length * sz := Nat.mul_le_mul_right sz hi
  rw [Nat.succ_mul] at this
  omega
theorem has_at {c : T MV} {off : Nat} {l : List MV} (h : At c off l) {k n : Nat} (hk : off ≤ k) (hn : k + n ≤ off + l.length) : hasB c n k = true := hasB_of fun j hj => by
  rw [show k + j = off + (k - off + j) from by omega, h (k - off + j) _ (List.getElem?_eq_getElem (by omega))]
  rfl
theorem cget_at {c : T MV} {off : Nat} {l : List MV} (h : At c off l) {k : Nat} {x : MV} (j : Nat) (hk : k = off + j) (hx : l[j]? = some x) : cget c k = some x := by subst hk; exact h j x hx
theorem getN_at {c : T MV} {off : Nat} {l m : List MV} (h : At c off l) {k n : Nat} (hk : k = off) (hn : n = l.length) (hm : m = l) : getN c n k = some m := by subst hk hn hm; exact h.getN
theorem OwnRow.le' {lo lo' : Nat} {M : MH} {sz : Nat} {v : MV} {es : List (List MV)} (h : OwnRow lo M sz v es) (k : lo' ≤ lo) : OwnRow lo' M sz v es := h.le k
/-- A row stays where its object does. -/
theorem OwnRow.keep {lo : Nat} {M M' : MH} {sz : Nat} {v : MV} {es : List (List MV)} (h : OwnRow lo M sz v es) (hn : M.n ≤ M'.n) (k : ∀ a b n d, v = .sl a b n d → M'.get a = M.get a) : OwnRow lo M' sz v es := by
  obtain ⟨hs, h | ⟨id, c, h1, h2, h3, h4, h5⟩⟩ := h
  · exact ⟨hs, .inl h⟩
  · exact ⟨hs, .inr ⟨id, c, h1, (k _ _ _ _ h1).trans h2, h3, Nat.lt_of_lt_of_le h4 hn, h5⟩⟩
end Go.Proofs.Ytaagkdljkpbilaa.Ev
