/-
  Grammars as they lie in memory, and what chapter 10 asks of them. Conditions: none.
-/
import Derived.Test.YtokfokeijnbbfaaAx
import Derived.Test.YtokfokeijnbbfaaSt
set_option linter.unusedSimpArgs false
set_option linter.unusedVariables false
namespace Go.Proofs.Ytokfokeijnbbfaa.Ev
open Go
/-- A row of numbers. -/
def ints (l : List Int) : List (List MV) := l.map fun z => [.i .i64 z]
theorem ints_len (l : List Int) : (ints l).length = l.length := by unfold ints; rw [List.length_map]
theorem ints_at {l : List Int} {i : Nat} {z : Int} (h : l[i]? = some z) : (ints l)[i]? = some [.i .i64 z] := by unfold ints; rw [List.getElem?_map, h]; rfl
def IntRow (M : MH) (v : MV) (l : List Int) : Prop := RowAt M 1 v (ints l)
theorem IntRow.ext {M M' : MH} {v : MV} {l : List Int} (h : IntRow M v l) (k : Ext M M') : IntRow M' v l := RowAt.ext h k
theorem IntRow.sl {M : MH} {v : MV} {l : List Int} (h : IntRow M v l) : isSl v = true ∧ slen v = l.length := by
  obtain ⟨a, b⟩ := RowAt.sl h
  exact ⟨a, b.trans (ints_len l)⟩
theorem IntRow.read {M : MH} {v : MV} {l : List Int} (h : IntRow M v l) {i : Nat} {z : Int} (hz : l[i]? = some z) : ∃ ro s c, M.get (sid v) = some (.cs ro s c) ∧ sid v < M.n ∧ cget c (soff v + i * 1) = some (.i .i64 z) := by
  obtain ⟨ro, s, c, h1, h2, h3⟩ := RowAt.read h (ints_at hz)
  exact ⟨ro, s, c, h1, h2, h3 0 _ rfl⟩
/-- A grammar, as numbers and lists: of each rule Left, Right, Dyn. -/
structure Gr where
  names : Int
  kinds : Int
  start : Int
  rules : List (Int × List Int × Int)
  forbid : List (Int × Int × Int)
  rc : List Int
  kc : List Int
def RuleAt (M : MH) (e : List MV) (r : Int × List Int × Int) : Prop := ∃ v, e = [.i .i64 r.1, v, .i .i64 r.2.2] ∧ IntRow M v r.2.1
theorem RuleAt.ext {M M' : MH} {e : List MV} {r : Int × List Int × Int} (h : RuleAt M e r) (k : Ext M M') : RuleAt M' e r := let ⟨v, h1, h2⟩ := h; ⟨v, h1, h2.ext k⟩
def trip (f : Int × Int × Int) : List MV := [.i .i64 f.1, .i .i64 f.2.1, .i .i64 f.2.2]
structure RulesAt (M : MH) (v : MV) (es : List (List MV)) (l : List (Int × List Int × Int)) : Prop where
  row : RowAt M 3 v es
  len : es.length = l.length
  at_ : ∀ (i : Nat) e r, es[i]? = some e → l[i]? = some r → RuleAt M e r
theorem RulesAt.ext {M M' : MH} {v : MV} {es : List (List MV)} {l : List (Int × List Int × Int)} (h : RulesAt M v es l) (k : Ext M M') : RulesAt M' v es l := ⟨h.row.ext k, h.len, fun i e r h1 h2 => (h.at_ i e r h1 h2).ext k⟩
theorem RulesAt.get {M : MH} {v : MV} {es : List (List MV)} {l : List (Int × List Int × Int)} (h : RulesAt M v es l) {i : Nat} {r : Int × List Int × Int} (hr : l[i]? = some r) : ∃ uu, es[i]? = some [.i .i64 r.1, uu, .i .i64 r.2.2] ∧ IntRow M uu r.2.1 := by
  have hi := (List.getElem?_eq_some_iff.1 hr).1
  have hi' : i < es.length := by rw [h.len]; exact hi
  have he : es[i]? = some es[i] := List.getElem?_eq_getElem hi'
  obtain ⟨uu, h1, h2⟩ := h.at_ i _ r he hr
  exact ⟨uu, by rw [he, h1], h2⟩
/-- Numbers as Go has them. -/
def Wf64 (z : Int) : Prop := -9223372036854775808 ≤ z ∧ z ≤ 9223372036854775807
structure GrWf (g : Gr) : Prop where
  names : Wf64 g.names
  kinds : Wf64 g.kinds
  start : Wf64 g.start
  rules : ∀ r ∈ g.rules, Wf64 r.1 ∧ (∀ z ∈ r.2.1, Wf64 z) ∧ Wf64 r.2.2 ∧ r.2.1.length ≤ 9223372036854775807
  forbid : ∀ f ∈ g.forbid, Wf64 f.1 ∧ Wf64 f.2.1 ∧ Wf64 f.2.2
  rc : ∀ z ∈ g.rc, Wf64 z
  kc : ∀ z ∈ g.kc, Wf64 z
  lens : g.rules.length ≤ 9223372036854775807 ∧ g.forbid.length ≤ 9223372036854775807 ∧ g.rc.length ≤ 9223372036854775807 ∧ g.kc.length ≤ 9223372036854775807
structure GrAt (M : MH) (vr vf vc vk : MV) (es : List (List MV)) (g : Gr) : Prop where
  rules : RulesAt M vr es g.rules
  forbid : RowAt M 3 vf (g.forbid.map trip)
  rc : IntRow M vc g.rc
  kc : IntRow M vk g.kc
  wf : GrWf g
theorem GrAt.ext {M M' : MH} {vr vf vc vk : MV} {es : List (List MV)} {g : Gr} (h : GrAt M vr vf vc vk es g) (k : Ext M M') : GrAt M' vr vf vc vk es g := ⟨h.rules.ext k, h.forbid.ext k, h.rc.ext k, h.kc.ext k, h.wf⟩
/-- The cells of a grammar. -/
def gcs (g : Gr) (vr vf vc vk : MV) : List MV := [.i .i64 g.names, .i .i64 g.kinds, .i .i64 g.start, vr, vf, vc, vk]
/-! What chapter 10 asks. -/
def symB (g : Gr) (s : Int) : Bool := if s < 0 then decide (-1 - s < g.kinds) else decide (s < g.names)
def clsB (l : List Int) : Bool := l.all fun z => decide (0 ≤ z) && decide (z ≤ 100)
def okR (g : Gr) (r : Int × List Int × Int) : Bool := (decide (0 ≤ r.1) && decide (r.1 < g.names)) && r.2.1.all (symB g)
def ruleE (g : Gr) (r : Int × List Int × Int) : Option Int :=
  if okR g r = false then some 6 else if (8 : Int) < (r.2.1.length : Int) then some 3 else if r.2.2 < -1000 ∨ 1000 < r.2.2 then some 1 else none
def findE {α : Type} (f : α → Option Int) : List α → Nat → Option (Nat × Int)
  | [], _ => none
  | r :: l, i => match f r with
    | some e => some (i, e)
    | none => findE f l (i + 1)
def badF (g : Gr) (f : Int × Int × Int) : Bool :=
  if f.1 < 0 ∨ (g.rules.length : Int) ≤ f.1 ∨ f.2.2 < 0 ∨ (g.rules.length : Int) ≤ f.2.2 then true
  else match g.rules[f.1.toNat]?, g.rules[f.2.2.toNat]? with
    | some a, some b => if f.2.1 < 0 ∨ (a.2.1.length : Int) ≤ f.2.1 then true else match a.2.1[f.2.1.toNat]? with
      | some s => decide (s ≠ b.1)
      | none => true
    | _, _ => true
def headE (g : Gr) : Option Int :=
  if g.names < 1 ∨ 40 < g.names ∨ g.kinds < 0 ∨ 40 < g.kinds ∨ (60 : Int) < (g.rules.length : Int) ∨ (200 : Int) < (g.forbid.length : Int) then some 3
  else if g.start < 0 ∨ g.names ≤ g.start then some 6
  else if (g.rules.length : Int) < (g.rc.length : Int) ∨ g.kinds < (g.kc.length : Int) ∨ clsB g.rc = false ∨ clsB g.kc = false then some 1
  else none
def formP (g : Gr) : Int × Int := match headE g with
  | some e => (-1, e)
  | none => match findE (ruleE g) g.rules 0 with
    | some (i, e) => (i, e)
    | none => if g.forbid.any (badF g) = true then (-1, 6) else (-1, 0)
theorem findE_drop {α : Type} {f : α → Option Int} {l : List α} {i : Nat} {r : α} (h : l[i]? = some r) : findE f (l.drop i) i = match f r with
    | some e => some (i, e)
    | none => findE f (l.drop (i + 1)) (i + 1) := by
  have hi := (List.getElem?_eq_some_iff.1 h).1
  rw [List.drop_eq_getElem_cons hi, (List.getElem?_eq_some_iff.1 h).2]
  rfl
end Go.Proofs.Ytokfokeijnbbfaa.Ev
