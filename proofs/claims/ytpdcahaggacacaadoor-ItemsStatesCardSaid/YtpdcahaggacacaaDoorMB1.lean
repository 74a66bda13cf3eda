/-
 What the claim leans on, part 1: A model of memory and values for runs of a program's text, and what single operations do in it and in the world. Conditions: none. A region that draws its order, whose operations make memory: one plain condition for each operation serves every order. Conditions: every operation but the last has a successor, no two operations write one slot, what an operation looks at is written before it or after it by the region's own edges. Lists of bytes in memory: what a []byte value reads as1, kept while memory grows, cut, turned into a string, appended.
-/
import Derived.Deep.AppendSrc
import Derived.Deep.MidRow
import Derived.Below
import Derived.Calls
import Derived.WalkKit
import Derived.Laws.Tables
import Derived.Laws.MakeOwn
import Derived.Deep.Upon
import Derived.MapKept
import Derived.WideKeyRuns
import Derived.ChangeKeysEq
import Derived.Laws.IdiomCopy
import Derived.Laws.IdiomStrings
import Derived.Laws.StructEq
import Derived.Orders
import Derived.Maps.AppendAt
import Derived.WalkLawsBesides
import Derived.Lib.AppendZerosOnto
import Derived.Lib.Hide
import Derived.Lib.SlBytesConst
set_option linter.unusedSimpArgs false
set_option linter.unusedVariables false
namespace Go.Proofs.YtpdcahaggacacaaDoor.Ev
open Go

inductive B (α : Type) where
 | lf
 | nd (v : Option α) (l r : B α)
noncomputable def B.get {α : Type} (t : B α) : List Bool → Option α :=
 B.rec (fun _ => none) (fun v _ _ hl hr p => match p with
  | [] => v
  | true :: q => hl q
  | false :: q => hr q) t
noncomputable def B.set {α : Type} (p : List Bool) (x : Option α) : B α → B α :=
 List.rec (fun t => match t with
  | .lf => .nd x .lf .lf
  | .nd _ l r => .nd x l r) (fun b _ ih t => match b, t with
  | true, .lf => .nd none (ih .lf) .lf
  | false, .lf => .nd none .lf (ih .lf)
  | true, .nd v l r => .nd v (ih l) r
  | false, .nd v l r => .nd v l (ih r)) p
theorem B.get_lf {α : Type} (p : List Bool) : (B.lf : B α).get p = none := rfl
theorem B.get_set {α : Type} : ∀ (p : List Bool) (x : Option α) (t : B α) (q : List Bool), (B.set p x t).get q = if p = q then x else t.get q
 | [], x, .lf, [] => rfl
 | [], x, .lf, true :: q => rfl
 | [], x, .lf, false :: q => rfl
 | [], x, .nd v l r, [] => rfl
 | [], x, .nd v l r, true :: q => rfl
 | [], x, .nd v l r, false :: q => rfl
 | true :: p, x, .lf, [] => rfl
 | true :: p, x, .lf, true :: q => by
  show (B.set p x .lf).get q = _
  rw [B.get_set p x .lf q]
  simp [B.get_lf]
 | true :: p, x, .lf, false :: q => rfl
 | false :: p, x, .lf, [] => rfl
 | false :: p, x, .lf, true :: q => rfl
 | false :: p, x, .lf, false :: q => by
  show (B.set p x .lf).get q = _
  rw [B.get_set p x .lf q]
  simp [B.get_lf]
 | true :: p, x, .nd v l r, [] => rfl
 | true :: p, x, .nd v l r, true :: q => by
  show (B.set p x l).get q = _
  rw [B.get_set p x l q]
  simp only [List.cons.injEq, true_and]
  rfl
 | true :: p, x, .nd v l r, false :: q => rfl
 | false :: p, x, .nd v l r, [] => rfl
 | false :: p, x, .nd v l r, true :: q => rfl
 | false :: p, x, .nd v l r, false :: q => by
  show (B.set p x r).get q = _
  rw [B.get_set p x r q]
  simp only [List.cons.injEq, true_and]
  rfl
noncomputable def pathF (fuel : Nat) : Nat → List Bool :=
 Nat.rec (fun _ => []) (fun _ ih n => match n with
  | 0 => []
  | m + 1 => match m % 2 with
   | 0 => true :: ih (m / 2)
   | _ + 1 => false :: ih (m / 2)) fuel
theorem pathF_zero (f : Nat) : pathF f 0 = [] := by cases f <;> rfl
theorem pathF_succ (f m : Nat) : pathF (f + 1) (m + 1) = (decide (m % 2 = 0)) :: pathF f (m / 2) := by
 show (match m % 2 with
   | 0 => true :: pathF f (m / 2)
   | _ + 1 => false :: pathF f (m / 2)) = _
 have h : m % 2 = 0 ∨ m % 2 = 1 := by omega
 rcases h with h | h <;> rw [h] <;> rfl
theorem pathF_inj : ∀ (f g a b : Nat), a ≤ f → b ≤ g → pathF f a = pathF g b → a = b
 | f, g, 0, 0, _, _, _ => rfl
 | f, g + 1, 0, b + 1, _, _, h => by rw [pathF_zero, pathF_succ] at h; simp at h
 | f + 1, g, a + 1, 0, _, _, h => by rw [pathF_zero, pathF_succ] at h; simp at h
 | f + 1, g + 1, a + 1, b + 1, ha, hb, h => by
  rw [pathF_succ, pathF_succ] at h
  injection h with h1 h2
  have := pathF_inj f g (a / 2) (b / 2) (by omega) (by omega) h2
  have h3 : (a % 2 = 0) ↔ (b % 2 = 0) := by simpa using h1
  omega
 | 0, _, _ + 1, _, h, _, _ => by omega
 | _, 0, _, _ + 1, _, h, _ => by omega

inductive Dg where
 | d0
 | d1
 | d2
 | d3
 | d4
 | d5
 | d6
 | d7
 | d8
 | d9
 | d10
 | d11
 | d12
 | d13
 | d14
 | d15
deriving DecidableEq
structure W (β : Type) where
 a0 : β
 a1 : β
 a2 : β
 a3 : β
 a4 : β
 a5 : β
 a6 : β
 a7 : β
 a8 : β
 a9 : β
 a10 : β
 a11 : β
 a12 : β
 a13 : β
 a14 : β
 a15 : β

def W.all {β : Type} (x : β) : W β := ⟨x, x, x, x, x, x, x, x, x, x, x, x, x, x, x, x⟩
def W.get {β : Type} (w : W β) (d : Dg) : β := match d with
 | .d0 => w.a0
 | .d1 => w.a1
 | .d2 => w.a2
 | .d3 => w.a3
 | .d4 => w.a4
 | .d5 => w.a5
 | .d6 => w.a6
 | .d7 => w.a7
 | .d8 => w.a8
 | .d9 => w.a9
 | .d10 => w.a10
 | .d11 => w.a11
 | .d12 => w.a12
 | .d13 => w.a13
 | .d14 => w.a14
 | .d15 => w.a15
def W.put {β : Type} (d : Dg) (x : β) (w : W β) : W β := match d, w with
 | .d0, ⟨_, a1, a2, a3, a4, a5, a6, a7, a8, a9, a10, a11, a12, a13, a14, a15⟩ => ⟨x, a1, a2, a3, a4, a5, a6, a7, a8, a9, a10, a11, a12, a13, a14, a15⟩
 | .d1, ⟨a0, _, a2, a3, a4, a5, a6, a7, a8, a9, a10, a11, a12, a13, a14, a15⟩ => ⟨a0, x, a2, a3, a4, a5, a6, a7, a8, a9, a10, a11, a12, a13, a14, a15⟩
 | .d2, ⟨a0, a1, _, a3, a4, a5, a6, a7, a8, a9, a10, a11, a12, a13, a14, a15⟩ => ⟨a0, a1, x, a3, a4, a5, a6, a7, a8, a9, a10, a11, a12, a13, a14, a15⟩
 | .d3, ⟨a0, a1, a2, _, a4, a5, a6, a7, a8, a9, a10, a11, a12, a13, a14, a15⟩ => ⟨a0, a1, a2, x, a4, a5, a6, a7, a8, a9, a10, a11, a12, a13, a14, a15⟩
 | .d4, ⟨a0, a1, a2, a3, _, a5, a6, a7, a8, a9, a10, a11, a12, a13, a14, a15⟩ => ⟨a0, a1, a2, a3, x, a5, a6, a7, a8, a9, a10, a11, a12, a13, a14, a15⟩
 | .d5, ⟨a0, a1, a2, a3, a4, _, a6, a7, a8, a9, a10, a11, a12, a13, a14, a15⟩ => ⟨a0, a1, a2, a3, a4, x, a6, a7, a8, a9, a10, a11, a12, a13, a14, a15⟩
 | .d6, ⟨a0, a1, a2, a3, a4, a5, _, a7, a8, a9, a10, a11, a12, a13, a14, a15⟩ => ⟨a0, a1, a2, a3, a4, a5, x, a7, a8, a9, a10, a11, a12, a13, a14, a15⟩
 | .d7, ⟨a0, a1, a2, a3, a4, a5, a6, _, a8, a9, a10, a11, a12, a13, a14, a15⟩ => ⟨a0, a1, a2, a3, a4, a5, a6, x, a8, a9, a10, a11, a12, a13, a14, a15⟩
 | .d8, ⟨a0, a1, a2, a3, a4, a5, a6, a7, _, a9, a10, a11, a12, a13, a14, a15⟩ => ⟨a0, a1, a2, a3, a4, a5, a6, a7, x, a9, a10, a11, a12, a13, a14, a15⟩
 | .d9, ⟨a0, a1, a2, a3, a4, a5, a6, a7, a8, _, a10, a11, a12, a13, a14, a15⟩ => ⟨a0, a1, a2, a3, a4, a5, a6, a7, a8, x, a10, a11, a12, a13, a14, a15⟩
 | .d10, ⟨a0, a1, a2, a3, a4, a5, a6, a7, a8, a9, _, a11, a12, a13, a14, a15⟩ => ⟨a0, a1, a2, a3, a4, a5, a6, a7, a8, a9, x, a11, a12, a13, a14, a15⟩
 | .d11, ⟨a0, a1, a2, a3, a4, a5, a6, a7, a8, a9, a10, _, a12, a13, a14, a15⟩ => ⟨a0, a1, a2, a3, a4, a5, a6, a7, a8, a9, a10, x, a12, a13, a14, a15⟩
 | .d12, ⟨a0, a1, a2, a3, a4, a5, a6, a7, a8, a9, a10, a11, _, a13, a14, a15⟩ => ⟨a0, a1, a2, a3, a4, a5, a6, a7, a8, a9, a10, a11, x, a13, a14, a15⟩
 | .d13, ⟨a0, a1, a2, a3, a4, a5, a6, a7, a8, a9, a10, a11, a12, _, a14, a15⟩ => ⟨a0, a1, a2, a3, a4, a5, a6, a7, a8, a9, a10, a11, a12, x, a14, a15⟩
 | .d14, ⟨a0, a1, a2, a3, a4, a5, a6, a7, a8, a9, a10, a11, a12, a13, _, a15⟩ => ⟨a0, a1, a2, a3, a4, a5, a6, a7, a8, a9, a10, a11, a12, a13, x, a15⟩
 | .d15, ⟨a0, a1, a2, a3, a4, a5, a6, a7, a8, a9, a10, a11, a12, a13, a14, _⟩ => ⟨a0, a1, a2, a3, a4, a5, a6, a7, a8, a9, a10, a11, a12, a13, a14, x⟩
theorem W.get_put {β : Type} (d e : Dg) (x : β) (w : W β) : (W.put d x w).get e = if d = e then x else w.get e := by
 obtain ⟨a0, a1, a2, a3, a4, a5, a6, a7, a8, a9, a10, a11, a12, a13, a14, a15⟩ := w
 cases d <;> cases e <;> rfl
theorem W.get_all {β : Type} (d : Dg) (x : β) : (W.all x).get d = x := by cases d <;> rfl
def dgn : Dg → Nat
 | .d0 => 0
 | .d1 => 1
 | .d2 => 2
 | .d3 => 3
 | .d4 => 4
 | .d5 => 5
 | .d6 => 6
 | .d7 => 7
 | .d8 => 8
 | .d9 => 9
 | .d10 => 10
 | .d11 => 11
 | .d12 => 12
 | .d13 => 13
 | .d14 => 14
 | .d15 => 15
def dg : Nat → Dg
 | 0 => .d0
 | 1 => .d1
 | 2 => .d2
 | 3 => .d3
 | 4 => .d4
 | 5 => .d5
 | 6 => .d6
 | 7 => .d7
 | 8 => .d8
 | 9 => .d9
 | 10 => .d10
 | 11 => .d11
 | 12 => .d12
 | 13 => .d13
 | 14 => .d14
 | _ => .d15
theorem dgn_dg : ∀ n, n < 16 → dgn (dg n) = n
 | 0, _ => rfl
 | 1, _ => rfl
 | 2, _ => rfl
 | 3, _ => rfl
 | 4, _ => rfl
 | 5, _ => rfl
 | 6, _ => rfl
 | 7, _ => rfl
 | 8, _ => rfl
 | 9, _ => rfl
 | 10, _ => rfl
 | 11, _ => rfl
 | 12, _ => rfl
 | 13, _ => rfl
 | 14, _ => rfl
 | 15, _ => rfl
 | n + 16, h => by omega
theorem dg_inj {m n : Nat} (hm : m < 16) (hn : n < 16) (h : dg m = dg n) : m = n := by rw [← dgn_dg m hm, ← dgn_dg n hn, h]
def W.cut {β : Type} (d : Dg) (f : β → β) (z : β) (w : W β) : W β := match d, w with
 | .d0, ⟨a0, _, _, _, _, _, _, _, _, _, _, _, _, _, _, _⟩ => ⟨f a0, z, z, z, z, z, z, z, z, z, z, z, z, z, z, z⟩
 | .d1, ⟨a0, a1, _, _, _, _, _, _, _, _, _, _, _, _, _, _⟩ => ⟨a0, f a1, z, z, z, z, z, z, z, z, z, z, z, z, z, z⟩
 | .d2, ⟨a0, a1, a2, _, _, _, _, _, _, _, _, _, _, _, _, _⟩ => ⟨a0, a1, f a2, z, z, z, z, z, z, z, z, z, z, z, z, z⟩
 | .d3, ⟨a0, a1, a2, a3, _, _, _, _, _, _, _, _, _, _, _, _⟩ => ⟨a0, a1, a2, f a3, z, z, z, z, z, z, z, z, z, z, z, z⟩
 | .d4, ⟨a0, a1, a2, a3, a4, _, _, _, _, _, _, _, _, _, _, _⟩ => ⟨a0, a1, a2, a3, f a4, z, z, z, z, z, z, z, z, z, z, z⟩
 | .d5, ⟨a0, a1, a2, a3, a4, a5, _, _, _, _, _, _, _, _, _, _⟩ => ⟨a0, a1, a2, a3, a4, f a5, z, z, z, z, z, z, z, z, z, z⟩
 | .d6, ⟨a0, a1, a2, a3, a4, a5, a6, _, _, _, _, _, _, _, _, _⟩ => ⟨a0, a1, a2, a3, a4, a5, f a6, z, z, z, z, z, z, z, z, z⟩
 | .d7, ⟨a0, a1, a2, a3, a4, a5, a6, a7, _, _, _, _, _, _, _, _⟩ => ⟨a0, a1, a2, a3, a4, a5, a6, f a7, z, z, z, z, z, z, z, z⟩
 | .d8, ⟨a0, a1, a2, a3, a4, a5, a6, a7, a8, _, _, _, _, _, _, _⟩ => ⟨a0, a1, a2, a3, a4, a5, a6, a7, f a8, z, z, z, z, z, z, z⟩
 | .d9, ⟨a0, a1, a2, a3, a4, a5, a6, a7, a8, a9, _, _, _, _, _, _⟩ => ⟨a0, a1, a2, a3, a4, a5, a6, a7, a8, f a9, z, z, z, z, z, z⟩
 | .d10, ⟨a0, a1, a2, a3, a4, a5, a6, a7, a8, a9, a10, _, _, _, _, _⟩ => ⟨a0, a1, a2, a3, a4, a5, a6, a7, a8, a9, f a10, z, z, z, z, z⟩
 | .d11, ⟨a0, a1, a2, a3, a4, a5, a6, a7, a8, a9, a10, a11, _, _, _, _⟩ => ⟨a0, a1, a2, a3, a4, a5, a6, a7, a8, a9, a10, f a11, z, z, z, z⟩
 | .d12, ⟨a0, a1, a2, a3, a4, a5, a6, a7, a8, a9, a10, a11, a12, _, _, _⟩ => ⟨a0, a1, a2, a3, a4, a5, a6, a7, a8, a9, a10, a11, f a12, z, z, z⟩
 | .d13, ⟨a0, a1, a2, a3, a4, a5, a6, a7, a8, a9, a10, a11, a12, a13, _, _⟩ => ⟨a0, a1, a2, a3, a4, a5, a6, a7, a8, a9, a10, a11, a12, f a13, z, z⟩
 | .d14, ⟨a0, a1, a2, a3, a4, a5, a6, a7, a8, a9, a10, a11, a12, a13, a14, _⟩ => ⟨a0, a1, a2, a3, a4, a5, a6, a7, a8, a9, a10, a11, a12, a13, f a14, z⟩
 | .d15, ⟨a0, a1, a2, a3, a4, a5, a6, a7, a8, a9, a10, a11, a12, a13, a14, a15⟩ => ⟨a0, a1, a2, a3, a4, a5, a6, a7, a8, a9, a10, a11, a12, a13, a14, f a15⟩
theorem W.get_cut {β : Type} (d e : Dg) (f : β → β) (z : β) (w : W β) : (W.cut d f z w).get e = if dgn e < dgn d then w.get e else if dgn e = dgn d then f (w.get d) else z := by
 obtain ⟨a0, a1, a2, a3, a4, a5, a6, a7, a8, a9, a10, a11, a12, a13, a14, a15⟩ := w
 cases d <;> cases e <;> rfl
inductive Ky where
 | k1 (a : Dg)
 | k2 (a b : Dg)
 | k3 (a b c : Dg)
 | k4 (a b c d : Dg)
 | kb (p : List Bool)
deriving DecidableEq
structure T (α : Type) where
 n1 : W (Option α)
 n2 : Option (W (W (Option α)))
 n3 : Option (W (W (W (Option α))))
 n4 : Option (W (W (W (W (Option α)))))
 nb : B α
def w1 {α : Type} : W (Option α) := .all none
def w2 {α : Type} : W (W (Option α)) := .all w1
def w3 {α : Type} : W (W (W (Option α))) := .all w2
def w4 {α : Type} : W (W (W (W (Option α)))) := .all w3
def T.lf {α : Type} : T α := ⟨w1, none, none, none, .lf⟩
def orW {β : Type} (z : β) (o : Option β) : β := match o with
 | some w => w
 | none => z
noncomputable def T.get {α : Type} (t : T α) (k : Ky) : Option α := match k with
 | .k1 a => t.n1.get a
 | .k2 a b => ((orW w2 t.n2).get a).get b
 | .k3 a b c => (((orW w3 t.n3).get a).get b).get c
 | .k4 a b c d => ((((orW w4 t.n4).get a).get b).get c).get d
 | .kb p => t.nb.get p
noncomputable def T.set {α : Type} (k : Ky) (x : Option α) (t : T α) : T α := match k with
 | .k1 a => ⟨t.n1.put a x, t.n2, t.n3, t.n4, t.nb⟩
 | .k2 a b => ⟨t.n1, some ((orW w2 t.n2).put a (((orW w2 t.n2).get a).put b x)), t.n3, t.n4, t.nb⟩
 | .k3 a b c => ⟨t.n1, t.n2, some ((orW w3 t.n3).put a (((orW w3 t.n3).get a).put b ((((orW w3 t.n3).get a).get b).put c x))), t.n4, t.nb⟩
 | .k4 a b c d => ⟨t.n1, t.n2, t.n3, some ((orW w4 t.n4).put a (((orW w4 t.n4).get a).put b ((((orW w4 t.n4).get a).get b).put c (((((orW w4 t.n4).get a).get b).get c).put d x)))), t.nb⟩
 | .kb p => ⟨t.n1, t.n2, t.n3, t.n4, B.set p x t.nb⟩
theorem T.get_lf {α : Type} (p : Ky) : (T.lf : T α).get p = none := by
 cases p with
 | k1 a => cases a <;> rfl
 | k2 a b => cases a <;> cases b <;> rfl
 | k3 a b c =>
  show (((w3 (α := α)).get a).get b).get c = none
  unfold w3
  rw [W.get_all]
  cases b <;> cases c <;> rfl
 | k4 a b c d =>
  show ((((w4 (α := α)).get a).get b).get c).get d = none
  unfold w4
  rw [W.get_all]
  unfold w3
  rw [W.get_all]
  cases c <;> cases d <;> rfl
 | kb p => rfl
theorem T.get_set {α : Type} (p : Ky) (x : Option α) (t : T α) (q : Ky) : (T.set p x t).get q = if p = q then x else t.get q := by
 cases p with
 | k1 a =>
  cases q with
  | k1 a' =>
   show (W.put a x t.n1).get a' = _
   rw [W.get_put]
   simp only [Ky.k1.injEq]
   rfl
  | _ => rfl
 | k2 a b =>
  cases q with
  | k2 a' b' =>
   show ((W.put a _ (orW w2 t.n2)).get a').get b' = _
   rw [W.get_put]
   by_cases h : a = a'
   ·subst h
    rw [if_pos rfl, W.get_put]
    simp only [Ky.k2.injEq, true_and]
    rfl
   ·rw [if_neg h, if_neg (fun e : Ky.k2 a b = Ky.k2 a' b' => h (by injection e))]
    rfl
  | _ => rfl
 | k3 a b c =>
  cases q with
  | k3 a' b' c' =>
   show (((W.put a _ (orW w3 t.n3)).get a').get b').get c' = _
   rw [W.get_put]
   by_cases h : a = a'
   ·subst h
    rw [if_pos rfl, W.get_put]
    by_cases h : b = b'
    ·subst h
     rw [if_pos rfl, W.get_put]
     simp only [Ky.k3.injEq, true_and]
     rfl
    ·rw [if_neg h, if_neg (fun e : Ky.k3 a b c = Ky.k3 a b' c' => h (by injection e))]
     rfl
   ·rw [if_neg h, if_neg (fun e : Ky.k3 a b c = Ky.k3 a' b' c' => h (by injection e))]
    rfl
  | _ => rfl
 | k4 a b c d =>
  cases q with
  | k4 a' b' c' d' =>
   show ((((W.put a _ (orW w4 t.n4)).get a').get b').get c').get d' = _
   rw [W.get_put]
   by_cases h : a = a'
   ·subst h
    rw [if_pos rfl, W.get_put]
    by_cases h : b = b'
    ·subst h
     rw [if_pos rfl, W.get_put]
     by_cases h : c = c'
     ·subst h
      rw [if_pos rfl, W.get_put]
      simp only [Ky.k4.injEq, true_and]
      rfl
     ·rw [if_neg h, if_neg (fun e : Ky.k4 a b c d = Ky.k4 a b c' d' => h (by injection e))]
      rfl
    ·rw [if_neg h, if_neg (fun e : Ky.k4 a b c d = Ky.k4 a b' c' d' => h (by injection e))]
     rfl
   ·rw [if_neg h, if_neg (fun e : Ky.k4 a b c d = Ky.k4 a' b' c' d' => h (by injection e))]
    rfl
  | _ => rfl
 | kb r =>
  cases q with
  | kb r' =>
   show (B.set r x t.nb).get r' = _
   rw [B.get_set]
   simp only [Ky.kb.injEq]
   rfl
  | _ => rfl
noncomputable def path (n : Nat) : Ky :=
 bif Nat.ble n 15 then .k1 (dg n)
 else bif Nat.ble n 255 then .k2 (dg (n / 16)) (dg (n % 16))
 else bif Nat.ble n 4095 then .k3 (dg (n / 256)) (dg (n / 16 % 16)) (dg (n % 16))
 else bif Nat.ble n 65535 then .k4 (dg (n / 4096)) (dg (n / 256 % 16)) (dg (n / 16 % 16)) (dg (n % 16))
 else .kb (pathF n n)
theorem ble_t {m n : Nat} (h : m ≤ n) : Nat.ble m n = true := Nat.ble_eq_true_of_le h
theorem ble_f {m n : Nat} (h : n < m) : Nat.ble m n = false := by
 cases e : Nat.ble m n with
 | false => rfl
 | true => have := Nat.le_of_ble_eq_true e; omega
theorem path_cases (n : Nat) : (n < 16 ∧ path n = .k1 (dg n)) ∨ (16 ≤ n ∧ n < 256 ∧ path n = .k2 (dg (n / 16)) (dg (n % 16))) ∨ (256 ≤ n ∧ n < 4096 ∧ path n = .k3 (dg (n / 256)) (dg (n / 16 % 16)) (dg (n % 16))) ∨ (4096 ≤ n ∧ n < 65536 ∧ path n = .k4 (dg (n / 4096)) (dg (n / 256 % 16)) (dg (n / 16 % 16)) (dg (n % 16))) ∨ path n = .kb (pathF n n) := by
 unfold path
 by_cases h1 : n ≤ 15
 ·exact .inl ⟨by omega, by rw [ble_t h1]; rfl⟩
 ·rw [ble_f (by omega)]
  by_cases h2 : n ≤ 255
  ·exact .inr (.inl ⟨by omega, by omega, by rw [ble_t h2]; rfl⟩)
  ·rw [ble_f (m := n) (n := 255) (by omega)]
   by_cases h3 : n ≤ 4095
   ·exact .inr (.inr (.inl ⟨by omega, by omega, by rw [ble_t h3]; rfl⟩))
   ·rw [ble_f (m := n) (n := 4095) (by omega)]
    by_cases h4 : n ≤ 65535
    ·exact .inr (.inr (.inr (.inl ⟨by omega, by omega, by rw [ble_t h4]; rfl⟩)))
    ·rw [ble_f (m := n) (n := 65535) (by omega)]
     exact .inr (.inr (.inr (.inr rfl)))
theorem path_inj {m n : Nat} (h : path m = path n) : m = n := by
 rcases path_cases m with ⟨a, e⟩ | ⟨a, a', e⟩ | ⟨a, a', e⟩ | ⟨a, a', e⟩ | e <;> rcases path_cases n with ⟨b, f⟩ | ⟨b, b', f⟩ | ⟨b, b', f⟩ | ⟨b, b', f⟩ | f <;> rw [e, f] at h <;> first | (injection h; done) | skip
 ·injection h with h; exact dg_inj a b h
 ·injection h with h1 h2
  have h1 := dg_inj (by omega) (by omega) h1
  have h2 := dg_inj (by omega) (by omega) h2
  omega
 ·injection h with h1 h2 h3
  have h1 := dg_inj (by omega) (by omega) h1
  have h2 := dg_inj (by omega) (by omega) h2
  have h3 := dg_inj (by omega) (by omega) h3
  omega
 ·injection h with h1 h2 h3 h4
  have h1 := dg_inj (by omega) (by omega) h1
  have h2 := dg_inj (by omega) (by omega) h2
  have h3 := dg_inj (by omega) (by omega) h3
  have h4 := dg_inj (by omega) (by omega) h4
  omega
 ·injection h with h; exact pathF_inj m n m n (Nat.le_refl _) (Nat.le_refl _) h
def T.trunc {α : Type} (n : Nat) (t : T α) : T α :=
 bif Nat.ble n 15 then ⟨W.cut (dg n) (fun _ => none) none t.n1, none, none, none, .lf⟩
 else ⟨t.n1, some (W.cut (dg (n / 16)) (W.cut (dg (n % 16)) (fun _ => none) none) w1 (orW w2 t.n2)), none, none, .lf⟩
theorem T.trunc_get {α : Type} (n : Nat) (hn : n < 256) (t : T α) (j : Nat) : (T.trunc n t).get (path j) = if j < n then t.get (path j) else none := by
 unfold T.trunc
 by_cases h : n ≤ 15
 ·rw [ble_t h, cond_true]
  rcases path_cases j with ⟨a, e⟩ | ⟨a, a', e⟩ | ⟨a, a', e⟩ | ⟨a, a', e⟩ | e <;> rw [e]
  ·show (W.cut (dg n) _ _ t.n1).get (dg j) = _
   rw [W.get_cut, dgn_dg n (by omega), dgn_dg j a]
   by_cases hj : j < n
   ·rw [if_pos hj, if_pos hj]; rfl
   ·rw [if_neg hj, if_neg hj]
    by_cases hj : j = n
    ·rw [if_pos hj]
    ·rw [if_neg hj]
  ·rw [if_neg (by omega)]
   exact T.get_lf (.k2 _ _)
  ·rw [if_neg (by omega)]
   exact T.get_lf (.k3 _ _ _)
  ·rw [if_neg (by omega)]
   exact T.get_lf (.k4 _ _ _ _)
  ·have : ¬ j < n := fun hj => by
    have e' : path j = .k1 (dg j) := by unfold path; rw [ble_t (by omega)]; rfl
    rw [e'] at e; cases e
   rw [if_neg this]; rfl
 ·rw [ble_f (by omega), cond_false]
  rcases path_cases j with ⟨a, e⟩ | ⟨a, a', e⟩ | ⟨a, a', e⟩ | ⟨a, a', e⟩ | e <;> rw [e]
  ·rw [if_pos (by omega)]; rfl
  ·show ((W.cut (dg (n / 16)) _ _ (orW w2 t.n2)).get (dg (j / 16))).get (dg (j % 16)) = _
   rw [W.get_cut, dgn_dg (n / 16) (by omega), dgn_dg (j / 16) (by omega)]
   by_cases h1 : j / 16 < n / 16
   ·rw [if_pos h1, if_pos (by omega)]; rfl
   ·rw [if_neg h1]
    by_cases h2 : j / 16 = n / 16
    ·rw [if_pos h2, W.get_cut, dgn_dg (n % 16) (by omega), dgn_dg (j % 16) (by omega)]
     by_cases h3 : j % 16 < n % 16
     ·rw [if_pos h3, if_pos (by omega)]
      show ((orW w2 t.n2).get (dg (n / 16))).get _ = ((orW w2 t.n2).get (dg (j / 16))).get _
      rw [h2]
     ·rw [if_neg h3]
      by_cases h4 : j % 16 = n % 16
      ·rw [if_pos h4, if_neg (by omega)]
      ·rw [if_neg h4, if_neg (by omega)]
    ·rw [if_neg h2, if_neg (by omega)]
     unfold w1
     exact W.get_all _ _
  ·rw [if_neg (by omega)]
   exact T.get_lf (.k3 _ _ _)
  ·rw [if_neg (by omega)]
   exact T.get_lf (.k4 _ _ _ _)
  ·have : ¬ j < n := fun hj => by
    have e' : path j = .k2 (dg (j / 16)) (dg (j % 16)) ∨ path j = .k1 (dg j) := by
     unfold path
     by_cases h1 : j ≤ 15
     ·rw [ble_t h1]; exact .inr rfl
     ·rw [ble_f (by omega), ble_t (m := j) (n := 255) (by omega)]; exact .inl rfl
    rcases e' with e' | e' <;> (rw [e'] at e; cases e)
   rw [if_neg this]; rfl
inductive MV where
 | u
 | b (x : Bool)
 | i (k : IntKind) (n : Int)
 | s (x : ByteArray)
 | nilp
 | p (id off : Nat)
 | nils
 | sl (id off len e : Nat)
 | nilm
 | m (id : Nat)
 | nilf
 | fn (f : Fn) (a c : List MV)
 | ag (l : List MV)
 | tp (l : List MV)
structure Bl where
 blk : Nat
 off : Nat
 cap : Nat
abbrev BM := Nat → Option Bl
inductive Den (β : BM) : MV → Value → Prop where
 | u (v : Value) : Den β .u v
 | b (x : Bool) : Den β (.b x) (.bool x)
 | i (k : IntKind) (n : Int) : Den β (.i k n) (.int k n)
 | s (x : ByteArray) : Den β (.s x) (.string x)
 | nilp : Den β .nilp (.pointer none)
 | p (id off : Nat) (B : Bl) (h : β id = some B) : Den β (.p id off) (.pointer (some ⟨B.blk, B.off + off, none⟩))
 | nils : Den β .nils (.slice none 0 0)
 | sl (id off len e : Nat) (B : Bl) (a : Addr) (h : β id = some B) (h1 : e + len ≤ B.cap) (h2 : e < B.cap → a = ⟨B.blk, B.off + off, none⟩) : Den β (.sl id off len e) (.slice (some a) len (B.cap - e))
 | nilm : Den β .nilm (.map none)
 | m (id : Nat) (B : Bl) (h : β id = some B) : Den β (.m id) (.map (some B.blk))
 | nilf : Den β .nilf .nilFunc
 | fn (f : Fn) (a c : List MV) (va vc : Array Value) (ha : a.length = va.size) (hc : c.length = vc.size) (h1 : ∀ (j : Nat) (x : MV), a[j]? = some x → Den β x (va.getD j undef)) (h2 : ∀ (j : Nat) (x : MV), c[j]? = some x → Den β x (vc.getD j undef)) : Den β (.fn f a c) (.func f va vc)
 | ag (l : List MV) (vs : Array Value) (hl : l.length = vs.size) (h : ∀ (j : Nat) (x : MV), l[j]? = some x → Den β x (vs.getD j undef)) : Den β (.ag l) (.agg vs)
 | tp (l : List MV) (vs : Array Value) (hl : l.length = vs.size) (h : ∀ (j : Nat) (x : MV), l[j]? = some x → Den β x (vs.getD j undef)) : Den β (.tp l) (.tuple vs)
def BM.le (β β' : BM) : Prop := ∀ id B, β id = some B → β' id = some B
def gtab : Nat → Option (Nat × Nat) := fun g => if g = 0 then some (0, 64) else none
def GlobOk (β : BM) : Prop := ∀ g id cap, gtab g = some (id, cap) → β id = some ⟨g, 0, cap⟩
theorem GlobOk.mono {β β' : BM} (hb : β.le β') (h : GlobOk β) : GlobOk β' := fun g id cap e => hb _ _ (h g id cap e)
theorem BM.le.refl (β : BM) : β.le β := fun _ _ h => h
theorem BM.le.trans {a b c : BM} (h : a.le b) (k : b.le c) : a.le c := fun id B e => k id B (h id B e)
theorem Den.mono {β β' : BM} (hb : β.le β') {x : MV} {v : Value} (h : Den β x v) : Den β' x v := by
 induction h with
 | u v => exact .u v
 | b x => exact .b x
 | i k n => exact .i k n
 | s x => exact .s x
 | nilp => exact .nilp
 | p id off B h => exact .p id off B (hb _ _ h)
 | nils => exact .nils
 | sl id off len e B a h h1 h2 => exact .sl id off len e B a (hb _ _ h) h1 h2
 | nilm => exact .nilm
 | m id B h => exact .m id B (hb _ _ h)
 | nilf => exact .nilf
 | fn f a c va vc ha hc _ _ i1 i2 => exact .fn f a c va vc ha hc i1 i2
 | ag l vs hl _ ih => exact .ag l vs hl ih
 | tp l vs hl _ ih => exact .tp l vs hl ih
def DenL (β : BM) (l : List MV) (vs : List Value) : Prop := l.length = vs.length ∧ ∀ (j : Nat) (x : MV), l[j]? = some x → ∃ v, vs[j]? = some v ∧ Den β x v
theorem DenL.nil (β : BM) : DenL β [] [] := ⟨rfl, fun j x h => by simp at h⟩
theorem DenL.cons {β : BM} {x : MV} {v : Value} {l : List MV} {vs : List Value} (h : Den β x v) (hl : DenL β l vs) : DenL β (x :: l) (v :: vs) := by
 refine ⟨by simp [hl.1], fun j y hj => ?_⟩
 cases j with
 | zero => simp at hj; subst hj; exact ⟨v, rfl, h⟩
 | succ j => exact hl.2 j y (by simpa using hj)
theorem DenL.inv {β : BM} {x : MV} {l : List MV} {vs : List Value} (h : DenL β (x :: l) vs) : ∃ v ws, vs = v :: ws ∧ Den β x v ∧ DenL β l ws := by
 cases vs with
 | nil => have := h.1; simp at this
 | cons v ws =>
  obtain ⟨v', e, hd⟩ := h.2 0 x rfl
  simp at e; subst e
  exact ⟨v, ws, rfl, hd, by have := h.1; simpa using this, fun j y hj => h.2 (j + 1) y (by simpa using hj)⟩
theorem DenL.inv0 {β : BM} {vs : List Value} (h : DenL β [] vs) : vs = [] := List.length_eq_zero_iff.1 h.1.symm
theorem DenL.mono {β β' : BM} (hb : β.le β') {l : List MV} {vs : List Value} (h : DenL β l vs) : DenL β' l vs :=
 ⟨h.1, fun j x hj => let ⟨v, h1, h2⟩ := h.2 j x hj; ⟨v, h1, h2.mono hb⟩⟩
theorem DenL.append {β : BM} : ∀ {l l' : List MV} {vs vs' : List Value}, DenL β l vs → DenL β l' vs' → DenL β (l ++ l') (vs ++ vs')
 | [], _, vs, _, h, h' => by rw [h.inv0]; exact h'
 | x :: l, _, vs, _, h, h' => by
  obtain ⟨v, ws, rfl, hd, hl⟩ := h.inv
  exact .cons hd (hl.append h')
theorem getD_of {vs : Array Value} {j : Nat} {v : Value} (h : vs.toList[j]? = some v) : vs.getD j undef = v := by
 rw [Array.getElem?_toList] at h
 simp [Array.getD_eq_getD_getElem?, h]
theorem DenL.agg {β : BM} {l : List MV} {vs : Array Value} (h : DenL β l vs.toList) : Den β (.ag l) (.agg vs) :=
 .ag l vs (by have := h.1; simpa using this) fun j x hj => by
  obtain ⟨v, h1, h2⟩ := h.2 j x hj
  rw [getD_of h1]; exact h2
theorem DenL.tuple {β : BM} {l : List MV} {vs : Array Value} (h : DenL β l vs.toList) : Den β (.tp l) (.tuple vs) :=
 .tp l vs (by have := h.1; simpa using this) fun j x hj => by
  obtain ⟨v, h1, h2⟩ := h.2 j x hj
  rw [getD_of h1]; exact h2
theorem denL_of {β : BM} {l : List MV} {vs : Array Value} (hl : l.length = vs.size) (h : ∀ (j : Nat) (x : MV), l[j]? = some x → Den β x (vs.getD j undef)) : DenL β l vs.toList := by
 refine ⟨by simpa using hl, fun j x hj => ?_⟩
 have hlt : j < vs.size := by rw [← hl]; exact (List.getElem?_eq_some_iff.1 hj).1
 refine ⟨vs[j], by simp [hlt], ?_⟩
 have := h j x hj
 simpa [Array.getD_eq_getD_getElem?, hlt] using this
theorem Den.agInv {β : BM} {l : List MV} {v : Value} (h : Den β (.ag l) v) : ∃ vs : Array Value, v = .agg vs ∧ DenL β l vs.toList := by
 cases h with
 | ag l vs hl h => exact ⟨vs, rfl, denL_of hl h⟩
theorem Den.tpInv {β : BM} {l : List MV} {v : Value} (h : Den β (.tp l) v) : ∃ vs : Array Value, v = .tuple vs ∧ DenL β l vs.toList := by
 cases h with
 | tp l vs hl h => exact ⟨vs, rfl, denL_of hl h⟩
def MV.one : MV → Bool
 | .u | .ag _ | .tp _ => false
 | _ => true
theorem Den.oneCell {β : BM} {x : MV} {v : Value} (h : Den β x v) (ho : x.one = true) : v.oneCell' = true := by
 cases h <;> first | rfl | cases ho
def MV.cells : MV → List MV
 | .ag l => l
 | v => [v]
theorem Den.cells {β : BM} {x : MV} {v : Value} (h : Den β x v) (hu : ∀ h : x = .u, False) : DenL β x.cells v.cells.toList := by
 cases h with
 | u v => exact (hu rfl).elim
 | ag l vs hl h => exact denL_of hl h
 | _ =>
  refine .cons ?_ (.nil β)
  constructor <;> assumption

inductive MO where
 | cs (ro : Bool) (sz : Nat) (c : T MV)
 | mp (es : List (MV × MV × Nat)) (ck : Nat)
def MO.rw : MO → Bool
 | .cs ro _ _ => !ro
 | .mp _ _ => true
structure MH where
 h : T MO
 n : Nat
 lo : Nat
noncomputable def MH.get (M : MH) (id : Nat) : Option MO := M.h.get (path id)
noncomputable def MH.set (M : MH) (id : Nat) (o : Option MO) : MH := ⟨M.h.set (path id) o, M.n, M.lo⟩
noncomputable def MH.push (M : MH) (o : MO) : MH := ⟨M.h.set (path M.n) (some o), M.n + 1, M.lo⟩
theorem MH.get_set (M : MH) (id j : Nat) (o : Option MO) : (M.set id o).get j = if id = j then o else M.get j := by
 unfold MH.set MH.get
 rw [T.get_set]
 by_cases h : id = j
 ·simp [h]
 ·have hp : ¬ path id = path j := fun e => h (path_inj e)
  simp [h, hp]
theorem MH.get_push (M : MH) (j : Nat) (o : MO) : (M.push o).get j = if M.n = j then some o else M.get j := by
 unfold MH.push MH.get
 rw [T.get_set]
 by_cases h : M.n = j
 ·simp [h]
 ·have hp : ¬ path M.n = path j := fun e => h (path_inj e)
  simp [h, hp]
noncomputable def cget (c : T MV) (i : Nat) : Option MV := c.get (path i)
theorem cget_set (c : T MV) (i j : Nat) (o : Option MV) : cget (c.set (path i) o) j = if i = j then o else cget c j := by
 unfold cget
 rw [T.get_set]
 by_cases h : i = j
 ·simp [h]
 ·have hp : ¬ path i = path j := fun e => h (path_inj e)
  simp [h, hp]
def Thawed (sz : Nat) (fr : Nat × Nat) (n : Nat) : Prop := fr.1 = fr.2 ∨ (sz = 1 ∧ n ≤ fr.1)
structure MapEntryOk (β : BM) (e : MV × MV × Nat) (x : MapEntry) : Prop where
 key : Den β e.1 x.key
 val : Den β e.2.1 x.val
 born : e.2.2 = x.born
def OkO (β : BM) (w : World) (B : Bl) : MO → Prop
 | .cs false sz c => ∃ arr t fr, w.heap[B.blk]? = some (.cells arr t fr) ∧ Thawed sz fr arr.size ∧ B.off + B.cap * sz ≤ arr.size ∧ ∀ i x, cget c i = some x → ∃ v, arr[B.off + i]? = some v ∧ Den β x v
 | .cs true _ c => ∀ i x, cget c i = some x → ∃ v, w.cell? ⟨B.blk, B.off + i, none⟩ = some v ∧ Den β x v
 | .mp es ck => ∃ xs : Array MapEntry, w.heap[B.blk]? = some (.map xs ck) ∧ es.length = xs.size ∧ ∀ (j : Nat) (e : MV × MV × Nat), es[j]? = some e → ∃ x, xs[j]? = some x ∧ MapEntryOk β e x
def Owns (β : BM) (M : MH) (b : Nat) : Prop := ∃ id o B, M.get id = some o ∧ o.rw = true ∧ β id = some B ∧ B.blk = b
def thinO : MO := .cs true 0 .lf
theorem thin_rw {o : MO} (h : o.rw = true) : o ≠ thinO := by rintro rfl; cases h
theorem OkO.thin (β : BM) (w : World) (B : Bl) : OkO β w B thinO := fun i x hx => by simp [cget, T.get_lf] at hx
structure Inv (β : BM) (M : MH) (w : World) : Prop where
 fresh : ∀ id, M.n ≤ id → β id = none
 old : ∀ id B, β id = some B → B.blk < w.heap.size ∨ (id = 0 ∧ M.get 0 = some thinO)
 obj : ∀ id o, M.get id = some o → ∃ B, β id = some B ∧ OkO β w B o
 inj : ∀ id id' o o' B B', M.get id = some o → M.get id' = some o' → o.rw = true → β id = some B → β id' = some B' → id ≠ id' → o' ≠ thinO → B.blk ≠ B'.blk
structure Step (β β' : BM) (M M' : MH) (w w' : World) : Prop where
 inv : Inv β' M' w'
 ext : β.le β'
 size : w.heap.size ≤ w'.heap.size
 os : w'.os = w.os
 tape : w'.tape = w.tape
 output : w'.output = w.output
 frame : ∀ b, b < w.heap.size → ¬ Owns β M b → w'.heap[b]? = w.heap[b]?
 own : ∀ b, Owns β' M' b → Owns β M b ∨ w.heap.size ≤ b
 nle : M.n ≤ M'.n
 lo : M'.lo = M.lo
 low : ∀ id, id < M.lo → M'.get id = M.get id
 dead : ∀ id, id < M.n → M.get id = none → M'.get id = none
 bold : ∀ id, id < M.n → β' id = β id
 ro : ∀ id o, M'.get id = some o → o.rw = false → M.get id = some o
theorem Step.refl {β : BM} {M : MH} {w : World} (h : Inv β M w) : Step β β M M w w :=
 ⟨h, .refl β, Nat.le_refl _, rfl, rfl, rfl, fun _ _ _ => rfl, fun _ h => .inl h, Nat.le_refl _, rfl, fun _ _ => rfl, fun _ _ h => h, fun _ _ => rfl, fun _ _ h _ => h⟩
theorem Step.trans {β β1 β2 : BM} {M M1 M2 : MH} {w w1 w2 : World} (h : Step β β1 M M1 w w1) (k : Step β1 β2 M1 M2 w1 w2) : Step β β2 M M2 w w2 :=
 ⟨k.inv, h.ext.trans k.ext, Nat.le_trans h.size k.size, k.os.trans h.os, k.tape.trans h.tape, k.output.trans h.output,
  fun b hb ho => (k.frame b (Nat.lt_of_lt_of_le hb h.size) fun h1 => (h.own b h1).elim ho fun h2 => absurd hb (Nat.not_lt.2 h2)).trans (h.frame b hb ho),
  fun b hb => (k.own b hb).elim (h.own b) fun h1 => .inr (Nat.le_trans h.size h1), Nat.le_trans h.nle k.nle, k.lo.trans h.lo,
  fun id hid => (k.low id (by rw [h.lo]; exact hid)).trans (h.low id hid), fun id hid hn => k.dead id (Nat.lt_of_lt_of_le hid h.nle) (h.dead id hid hn), fun id hid => (k.bold id (Nat.lt_of_lt_of_le hid h.nle)).trans (h.bold id hid), fun id o ho hr => h.ro id o (k.ro id o ho hr) hr⟩
theorem OkO.mono {β β' : BM} (hb : β.le β') {w w' : World} {B : Bl} {o : MO} (hw : w'.heap[B.blk]? = w.heap[B.blk]?) (h : OkO β w B o) : OkO β' w' B o := by
 match o, h with
 | .cs false sz c, ⟨arr, t, fr, h1, h2, h3, h4⟩ => exact ⟨arr, t, fr, hw.trans h1, h2, h3, fun i x hx => let ⟨v, e, d⟩ := h4 i x hx; ⟨v, e, d.mono hb⟩⟩
 | .cs true sz c, h => exact fun i x hx => let ⟨v, e, d⟩ := h i x hx; ⟨v, (World.cell?_of_block (a := ⟨B.blk, B.off + i, none⟩) hw).trans e, d.mono hb⟩
 | .mp es ck, ⟨xs, h1, h2, h3⟩ => exact ⟨xs, hw.trans h1, h2, fun j e he => let ⟨x, hx, ho⟩ := h3 j e he; ⟨x, hx, ⟨ho.key.mono hb, ho.val.mono hb, ho.born⟩⟩⟩
theorem Inv.lt {β : BM} {M : MH} {w : World} (h : Inv β M w) {id : Nat} {o : MO} {B : Bl} (ho : M.get id = some o) (hn : o ≠ thinO) (hB : β id = some B) : B.blk < w.heap.size := by
 rcases h.old id B hB with h1 | ⟨rfl, h1⟩
 ·exact h1
 ·rw [ho] at h1; injection h1 with h1; exact (hn h1).elim
theorem Inv.keep {β β' : BM} {M : MH} {w w' : World} (h : Inv β M w) (hle : β.le β') (hh : ∀ b, b < w.heap.size → w'.heap[b]? = w.heap[b]?) {id : Nat} {o : MO} (ho : M.get id = some o) : ∃ B, β' id = some B ∧ OkO β' w' B o := by
 obtain ⟨B, hB, hO⟩ := h.obj id o ho
 by_cases e : o = thinO
 ·subst e; exact ⟨B, hle _ _ hB, .thin _ _ _⟩
 ·exact ⟨B, hle _ _ hB, hO.mono hle (hh _ (h.lt ho e hB))⟩
theorem Step.alike {β : BM} {M : MH} {w w' : World} (h : Inv β M w) (hh : w'.heap = w.heap) (h1 : w'.os = w.os) (h2 : w'.tape = w.tape) (h3 : w'.output = w.output) : Step β β M M w w' :=
 ⟨⟨h.fresh, fun id B hB => by rw [hh]; exact h.old id B hB, fun id o ho => let ⟨B, hB, hO⟩ := h.obj id o ho; ⟨B, hB, hO.mono (.refl β) (by rw [hh])⟩, h.inj⟩, .refl β, by rw [hh]; exact Nat.le_refl _, h1, h2, h3, fun b _ _ => by rw [hh], fun b hb => .inl hb, Nat.le_refl _, rfl, fun _ _ => rfl, fun _ _ h => h, fun _ _ => rfl, fun _ _ h _ => h⟩
theorem Step.drew {β : BM} {M : MH} {w : World} (h : Inv β M w) : Step β β M M w w.drew := .alike h rfl rfl rfl rfl
theorem Inv.kill {β : BM} {M : MH} {w : World} (h : Inv β M w) (id : Nat) {o0 : MO} (ho0 : M.get id = some o0) (hr0 : o0.rw = true) : Inv β (M.set id none) w := by
 have hg : ∀ j o, (M.set id none).get j = some o → M.get j = some o := fun j o hj => by
  rw [MH.get_set] at hj
  split at hj
  ·cases hj
  ·exact hj
 refine ⟨h.fresh, fun j B hB => ?_, fun j o ho => h.obj j o (hg j o ho), fun j k o o' B B' ho ho' hr hB hB' hn => h.inj j k o o' B B' (hg _ _ ho) (hg _ _ ho') hr hB hB' hn⟩
 rcases h.old j B hB with h1 | ⟨rfl, h1⟩
 ·exact .inl h1
 ·refine .inr ⟨rfl, ?_⟩
  rw [MH.get_set, if_neg ?_]
  ·exact h1
  ·rintro rfl
   rw [ho0] at h1; injection h1 with h1; exact thin_rw hr0 h1
theorem Step.new {β : BM} {M : MH} {w : World} (h : Inv β M w) (ob : Obj) (mo : MO) (cap : Nat) (hlo : M.lo ≤ M.n) (hrw : mo.rw = true)
  (hok : ∀ β' : BM, β.le β' → OkO β' (w.alloc ob) ⟨w.heap.size, 0, cap⟩ mo) :
  ∃ β' : BM, Step β β' M (M.push mo) w (w.alloc ob) ∧ β' M.n = some ⟨w.heap.size, 0, cap⟩ := by
 let β' : BM := fun id => if id = M.n then some ⟨w.heap.size, 0, cap⟩ else β id
 have hle : β.le β' := fun id B hB => by
  have : id ≠ M.n := by rintro rfl; rw [h.fresh _ (Nat.le_refl _)] at hB; cases hB
  simp [β', this, hB]
 have hn : β' M.n = some ⟨w.heap.size, 0, cap⟩ := by simp [β']
 have hβ : ∀ id B, β' id = some B → id ≠ M.n → β id = some B := fun id B hB hne => by simpa [β', hne] using hB
 have hold : ∀ b, b < w.heap.size → (w.alloc ob).heap[b]? = w.heap[b]? := fun b hb => by first | exact heap_alloc_old w ob b hb | exact heap_alloc_old w ob hb
 refine ⟨β', ⟨⟨fun id hid => ?_, fun id B hB => ?_, fun id o ho => ?_, ?_⟩, hle, by simp, rfl, rfl, rfl, fun b hb _ => hold b hb, fun b ⟨id, o, B, ho, hr, hB, hb⟩ => ?_, Nat.le_succ _, rfl, fun id hid => ?_, fun id hid hd => ?_, fun id hid => ?_, fun id o ho hro => ?_⟩, hn⟩
 ·have h1 : M.n + 1 ≤ id := hid
  have : id ≠ M.n := by omega
  simp [β', this, h.fresh id (by omega)]
 ·by_cases e : id = M.n
  ·subst e
   rw [hn] at hB
   injection hB with hB
   subst hB
   simp
  ·rcases h.old id B (hβ id B hB e) with h1 | ⟨rfl, h1⟩
   ·left; simp; omega
   ·exact .inr ⟨rfl, by rw [MH.get_push, if_neg fun x => e x.symm]; exact h1⟩
 ·rw [MH.get_push] at ho
  split at ho
  ·rename_i e
   subst e
   injection ho with ho
   subst ho
   exact ⟨_, hn, hok β' hle⟩
  ·exact h.keep hle hold ho
 ·intro id id' o o' B B' ho ho' hr hB hB' hne hth
  rw [MH.get_push] at ho ho'
  split at ho
  ·rename_i e
   subst e
   rw [hn] at hB
   injection hB with hB
   subst hB
   rw [if_neg hne] at ho'
   have := h.lt ho' hth (hβ _ _ hB' fun e => hne e.symm)
   show w.heap.size ≠ B'.blk
   omega
  ·rename_i e
   split at ho'
   ·rename_i e'
    subst e'
    rw [hn] at hB'
    injection hB' with hB'
    subst hB'
    have := h.lt ho (thin_rw hr) (hβ _ _ hB fun e'' => e e''.symm)
    show B.blk ≠ w.heap.size
    omega
   ·rename_i e'
    exact h.inj id id' o o' B B' ho ho' hr (hβ _ _ hB fun x => e x.symm) (hβ _ _ hB' fun x => e' x.symm) hne hth
 ·rw [MH.get_push] at ho
  split at ho
  ·rename_i e
   subst e
   rw [hn] at hB
   injection hB with hB
   subst hB
   right
   rw [← hb]
   exact Nat.le_refl _
  ·rename_i e
   exact .inl ⟨id, o, B, ho, hr, hβ _ _ hB fun x => e x.symm, hb⟩
 ·rw [MH.get_push]
  split
  ·omega
  ·rfl
 ·rw [MH.get_push, if_neg (by omega)]
  exact hd
 ·have : id ≠ M.n := by omega
  simp [β', this]
 ·rw [MH.get_push] at ho
  split at ho
  ·injection ho with ho
   subst ho
   rw [hrw] at hro
   cases hro
  ·exact ho
theorem Step.turn {β : BM} {M : MH} {w : World} (h : Inv β M w) (id : Nat) (o mo : MO) (B : Bl) (ho : M.get id = some o) (hr : o.rw = true) (hr' : mo.rw = true) (hB : β id = some B) (hlo : M.lo ≤ id) (ob : Obj)
  (hok : OkO β { w with heap := w.heap.setIfInBounds B.blk ob } B mo) : Step β β M (M.set id (some mo)) w { w with heap := w.heap.setIfInBounds B.blk ob } := by
 have hoth : ∀ b, b ≠ B.blk → (w.heap.setIfInBounds B.blk ob)[b]? = w.heap[b]? := fun b hb => Array.getElem?_setIfInBounds_ne (fun e => hb e.symm)
 have hback : ∀ j o', (M.set id (some mo)).get j = some o' → (j = id ∧ o' = mo) ∨ (j ≠ id ∧ M.get j = some o') := fun j o' hj => by
  rw [MH.get_set] at hj
  split at hj
  ·rename_i e
   injection hj with hj
   exact .inl ⟨e.symm, hj.symm⟩
  ·rename_i e
   exact .inr ⟨fun x => e x.symm, hj⟩
 refine ⟨⟨h.fresh, fun j C hC => ?_, fun j o' hj => ?_, ?_⟩, .refl β, by simp, rfl, rfl, rfl, fun b _ hno => hoth b fun e => hno ⟨id, o, B, ho, hr, hB, e.symm⟩, fun b ⟨j, o', C, hj, hr2, hC, hb⟩ => ?_, Nat.le_refl _, rfl, fun j hj => ?_, fun j hj hd => ?_, fun _ _ => rfl, fun j o' hj hro => ?_⟩
 ·rcases h.old j C hC with h1 | ⟨rfl, h1⟩
  ·left; simpa using h1
  ·refine .inr ⟨rfl, ?_⟩
   rw [MH.get_set, if_neg ?_]
   ·exact h1
   ·rintro rfl
    rw [ho] at h1; injection h1 with h1; exact thin_rw hr h1
 ·rcases hback j o' hj with ⟨rfl, rfl⟩ | ⟨hne, hj'⟩
  ·exact ⟨B, hB, hok⟩
  ·obtain ⟨C, hC, hO⟩ := h.obj j o' hj'
   by_cases et : o' = thinO
   ·subst et; exact ⟨C, hC, .thin _ _ _⟩
   ·exact ⟨C, hC, hO.mono (.refl β) (hoth _ fun e => h.inj id j o o' B C ho hj' hr hB hC (fun x => hne x.symm) et e.symm)⟩
 ·intro j k o1 o2 C D hj hk h1 hC hD hne hth
  rcases hback j o1 hj with ⟨rfl, rfl⟩ | ⟨hne1, hj'⟩
  ·rcases hback k o2 hk with ⟨rfl, rfl⟩ | ⟨_, hk'⟩
   ·exact (hne rfl).elim
   ·exact h.inj _ _ _ _ _ _ ho hk' hr hC hD hne hth
  ·rcases hback k o2 hk with ⟨rfl, rfl⟩ | ⟨_, hk'⟩
   ·exact h.inj _ _ _ _ _ _ hj' ho h1 hC hD hne (thin_rw hr)
   ·exact h.inj _ _ _ _ _ _ hj' hk' h1 hC hD hne hth
 ·rcases hback j o' hj with ⟨rfl, rfl⟩ | ⟨_, hj'⟩
  ·exact .inl ⟨j, o, C, ho, hr, hC, hb⟩
  ·exact .inl ⟨j, o', C, hj', hr2, hC, hb⟩
 ·rw [MH.get_set]
  split
  ·omega
  ·rfl
 ·rw [MH.get_set]
  split
  ·rename_i e
   subst e
   rw [ho] at hd
   cases hd
  ·exact hd
 ·rcases hback j o' hj with ⟨rfl, rfl⟩ | ⟨_, hj'⟩
  ·rw [hr'] at hro
   cases hro
  ·exact hj'
theorem Step.moved {β : BM} {M : MH} {w : World} (h : Inv β M w) (id : Nat) (o mo : MO) (B C : Bl) (ho : M.get id = some o) (hr : o.rw = true) (hr' : mo.rw = true) (hB : β id = some B) (hlo : M.lo ≤ id) (hlt : id < M.n) (hC : C.blk = B.blk) (ob : Obj)
  (hok : ∀ β' : BM, β.le β' → OkO β' { w with heap := w.heap.setIfInBounds B.blk ob } C mo) :
  ∃ β' : BM, Step β β' M ((M.set id none).push mo) w { w with heap := w.heap.setIfInBounds B.blk ob } ∧ β' M.n = some C := by
 let β' : BM := fun j => if j = M.n then some C else β j
 have hle : β.le β' := fun j D hD => by
  have : j ≠ M.n := by rintro rfl; rw [h.fresh _ (Nat.le_refl _)] at hD; cases hD
  simp [β', this, hD]
 have hn : β' M.n = some C := by simp [β']
 have hβ : ∀ j D, β' j = some D → j ≠ M.n → β j = some D := fun j D hD hne => by simpa [β', hne] using hD
 have hoth : ∀ b, b ≠ B.blk → (w.heap.setIfInBounds B.blk ob)[b]? = w.heap[b]? := fun b hb => Array.getElem?_setIfInBounds_ne (fun e => hb e.symm)
 have hback : ∀ j o', ((M.set id none).push mo).get j = some o' → (j = M.n ∧ o' = mo) ∨ (j ≠ M.n ∧ j ≠ id ∧ M.get j = some o') := fun j o' hj => by
  rw [MH.get_push] at hj
  split at hj
  ·rename_i e
   injection hj with hj
   exact .inl ⟨e.symm, hj.symm⟩
  ·rename_i e
   rw [MH.get_set] at hj
   split at hj
   ·cases hj
   ·rename_i e'
    exact .inr ⟨fun x => e x.symm, fun x => e' x.symm, hj⟩
 refine ⟨β', ⟨⟨fun j hj => ?_, fun j D hD => ?_, fun j o' hj => ?_, ?_⟩, hle, by simp, rfl, rfl, rfl, fun b _ hno => hoth b fun e => hno ⟨id, o, B, ho, hr, hB, e.symm⟩, fun b ⟨j, o', D, hj, hr2, hD, hb⟩ => ?_, Nat.le_succ _, rfl, fun j hj => ?_, fun j hj hd => ?_, fun j hj => ?_, fun j o' hj hro => ?_⟩, hn⟩
 ·have h1 : M.n + 1 ≤ j := hj
  have : j ≠ M.n := by omega
  simp [β', this, h.fresh j (by omega)]
 ·by_cases e : j = M.n
  ·subst e
   rw [hn] at hD
   injection hD with hD
   subst hD
   rw [hC]
   left
   simpa using h.lt ho (thin_rw hr) hB
  ·rcases h.old j D (hβ j D hD e) with h1 | ⟨rfl, h1⟩
   ·left; simpa using h1
   ·refine .inr ⟨rfl, ?_⟩
    rw [MH.get_push, if_neg (fun x => e x.symm), MH.get_set, if_neg ?_]
    ·exact h1
    ·rintro rfl
     rw [ho] at h1; injection h1 with h1; exact thin_rw hr h1
 ·rcases hback j o' hj with ⟨rfl, rfl⟩ | ⟨hne, hne2, hj'⟩
  ·exact ⟨C, hn, hok β' hle⟩
  ·obtain ⟨D, hD, hO⟩ := h.obj j o' hj'
   by_cases et : o' = thinO
   ·subst et; exact ⟨D, hle _ _ hD, .thin _ _ _⟩
   ·exact ⟨D, hle _ _ hD, hO.mono hle (hoth _ fun e => h.inj id j o o' B D ho hj' hr hB hD (fun x => hne2 x.symm) et e.symm)⟩
 ·intro j k o1 o2 D E hj hk h1 hD hE hne hth
  rcases hback j o1 hj with ⟨rfl, rfl⟩ | ⟨hj1, hj2, hj'⟩
  ·rcases hback k o2 hk with ⟨rfl, rfl⟩ | ⟨hk1, hk2, hk'⟩
   ·exact (hne rfl).elim
   ·rw [hn] at hD
    injection hD with hD
    subst hD
    rw [hC]
    exact h.inj id k o o2 B E ho hk' hr hB (hβ _ _ hE hk1) (fun x => hk2 x.symm) hth
  ·rcases hback k o2 hk with ⟨rfl, rfl⟩ | ⟨hk1, hk2, hk'⟩
   ·rw [hn] at hE
    injection hE with hE
    subst hE
    rw [hC]
    exact h.inj j id o1 o D B hj' ho h1 (hβ _ _ hD hj1) hB hj2 (thin_rw hr)
   ·exact h.inj j k o1 o2 D E hj' hk' h1 (hβ _ _ hD hj1) (hβ _ _ hE hk1) hne hth
 ·rcases hback j o' hj with ⟨rfl, rfl⟩ | ⟨hj1, hj2, hj'⟩
  ·rw [hn] at hD
   injection hD with hD
   subst hD
   exact .inl ⟨id, o, B, ho, hr, hB, by rw [← hC]; exact hb⟩
  ·exact .inl ⟨j, o', D, hj', hr2, hβ _ _ hD hj1, hb⟩
 ·rw [MH.get_push]
  split
  ·rename_i e
   have e' : M.n = j := e
   omega
  ·rw [MH.get_set]
   split
   ·omega
   ·rfl
 ·rw [MH.get_push, if_neg (fun e => by have e' : M.n = j := e; omega), MH.get_set]
  split
  ·rfl
  ·exact hd
 ·have : j ≠ M.n := by omega
  simp [β', this]
 ·rcases hback j o' hj with ⟨rfl, rfl⟩ | ⟨_, _, hj'⟩
  ·rw [hr'] at hro
   cases hro
  ·exact hj'
theorem Step.alien {β0 β : BM} {M0 M : MH} {w0 w : World} (h : Step β0 β M0 M w0 w) (id : Nat) (h1 : M0.n ≤ id) (h2 : id < M.n) (h3 : β id = none) (ob : Obj) (cap : Nat) :
  ∃ β' : BM, Step β0 β' M0 M w0 (w.alloc ob) ∧ β.le β' ∧ β' id = some ⟨w.heap.size, 0, cap⟩ ∧ (∀ j, j ≠ id → β' j = β j) ∧ ¬ Owns β' M w.heap.size := by
 let β' : BM := fun j => if j = id then some ⟨w.heap.size, 0, cap⟩ else β j
 have hle : β.le β' := fun j B hB => by
  have : j ≠ id := by rintro rfl; rw [h3] at hB; cases hB
  simp [β', this, hB]
 have hn : β' id = some ⟨w.heap.size, 0, cap⟩ := by simp [β']
 have hoth : ∀ j, j ≠ id → β' j = β j := fun j hj => by simp [β', hj]
 have hget : ∀ j o, M.get j = some o → j ≠ id := fun j o ho e => by
  subst e
  obtain ⟨B, hB, -⟩ := h.inv.obj j o ho
  rw [h3] at hB
  cases hB
 have hold : ∀ b, b < w.heap.size → (w.alloc ob).heap[b]? = w.heap[b]? := fun b hb => by first | exact heap_alloc_old w ob b hb | exact heap_alloc_old w ob hb
 have hsz : w.heap.size ≤ (w.alloc ob).heap.size := by simp
 have hown : ∀ b, Owns β' M b → Owns β M b := fun b ⟨j, o, B, ho, hr, hB, hb⟩ => ⟨j, o, B, ho, hr, by rw [← hoth j (hget j o ho)]; exact hB, hb⟩
 refine ⟨β', ⟨⟨fun j hj => ?_, fun j B hB => ?_, fun j o ho => ?_, fun j k o o' B B' ho ho' hr hB hB' hne hth => ?_⟩, h.ext.trans hle, Nat.le_trans h.size hsz, h.os, h.tape, h.output, fun b hb hno => ?_, fun b hb => h.own b (hown b hb), h.nle, h.lo, h.low, h.dead, fun j hj => ?_, h.ro⟩, hle, hn, hoth, fun hO => ?_⟩
 ·rw [hoth j (by omega)]
  exact h.inv.fresh j hj
 ·by_cases e : j = id
  ·subst e
   rw [hn] at hB
   injection hB with hB
   subst hB
   simp
  ·rw [hoth j e] at hB
   exact (h.inv.old j B hB).imp (fun x => Nat.lt_of_lt_of_le x hsz) (fun x => x)
 ·exact h.inv.keep hle hold ho
 ·rw [hoth j (hget j o ho)] at hB
  rw [hoth k (hget k o' ho')] at hB'
  exact h.inv.inj j k o o' B B' ho ho' hr hB hB' hne hth
 ·rw [hold b (Nat.lt_of_lt_of_le hb h.size)]
  exact h.frame b hb hno
 ·rw [hoth j (by omega)]
  exact h.bold j hj
 ·obtain ⟨j, o, B, ho, hr, hB, hb⟩ := hown _ hO
  have := h.inv.lt ho (thin_rw hr) hB
  omega
theorem Step.adopt {β0 β : BM} {M0 M : MH} {w0 w : World} (h : Step β0 β M0 M w0 w) (id : Nat) (h1 : M0.n ≤ id) (h2 : M0.lo ≤ M0.n) (mo : MO) (B : Bl) (hB : β id = some B) (hd : M.get id = none) (hO : OkO β w B mo) (hno : ¬ Owns β M B.blk) (hi0 : Inv β0 M0 w0) (hrw : mo.rw = true) (hw : w0.heap.size ≤ B.blk) :
  Step β0 β M0 (M.set id (some mo)) w0 w := by
 have hback : ∀ j o, (M.set id (some mo)).get j = some o → (j = id ∧ o = mo) ∨ (j ≠ id ∧ M.get j = some o) := fun j o hj => by
  rw [MH.get_set] at hj
  split at hj
  ·rename_i e
   injection hj with hj
   exact .inl ⟨e.symm, hj.symm⟩
  ·rename_i e
   exact .inr ⟨fun x => e x.symm, hj⟩
 have hro : ∀ j o C, M.get j = some o → β j = some C → o ≠ thinO → C.blk ≠ B.blk := fun j o C hj hC hth e => by
  cases hr : o.rw with
  | true => exact hno ⟨j, o, C, hj, hr, hC, e⟩
  | false =>
   obtain ⟨D, hD, -⟩ := hi0.obj j o (h.ro j o hj hr)
   have h3 := hi0.lt (h.ro j o hj hr) hth hD
   rw [h.ext j D hD] at hC
   injection hC with hC
   subst hC
   omega
 refine ⟨⟨h.inv.fresh, fun j C hC => ?_, fun j o hj => ?_, fun j k o o' C C' hj hk hr hC hC' hne hth => ?_⟩, h.ext, h.size, h.os, h.tape, h.output, h.frame, fun b ⟨j, o, C, hj, hr, hC, hb⟩ => ?_, h.nle, h.lo, fun j hj => ?_, fun j hj hn => ?_, h.bold, fun j o hj hr => ?_⟩
 ·rcases h.inv.old j C hC with h1 | ⟨rfl, h1⟩
  ·exact .inl h1
  ·refine .inr ⟨rfl, ?_⟩
   rw [MH.get_set, if_neg ?_]
   ·exact h1
   ·rintro rfl
    simp_all
 ·rcases hback j o hj with ⟨rfl, rfl⟩ | ⟨_, hj'⟩
  ·exact ⟨B, hB, hO⟩
  ·exact h.inv.obj j o hj'
 ·rcases hback j o hj with ⟨rfl, rfl⟩ | ⟨_, hj'⟩
  ·rw [hB] at hC
   injection hC with hC
   subst hC
   rcases hback k o' hk with ⟨rfl, rfl⟩ | ⟨_, hk'⟩
   ·exact (hne rfl).elim
   ·exact fun e => hro k o' C' hk' hC' hth e.symm
  ·rcases hback k o' hk with ⟨rfl, rfl⟩ | ⟨_, hk'⟩
   ·rw [hB] at hC'
    injection hC' with hC'
    subst hC'
    exact hro j o C hj' hC (thin_rw hr)
   ·exact h.inv.inj j k o o' C C' hj' hk' hr hC hC' hne hth
 ·rcases hback j o hj with ⟨rfl, rfl⟩ | ⟨_, hj'⟩
  ·rw [hB] at hC
   injection hC with hC
   subst hC
   right
   rw [← hb]
   exact hw
  ·exact h.own b ⟨j, o, C, hj', hr, hC, hb⟩
 ·rw [MH.get_set, if_neg (by omega)]
  exact h.low j hj
 ·rw [MH.get_set, if_neg (by omega)]
  exact h.dead j hj hn
 ·rcases hback j o hj with ⟨rfl, rfl⟩ | ⟨_, hj'⟩
  ·rw [hrw] at hr
   cases hr
  ·exact h.ro j o hj' hr
end Go.Proofs.YtpdcahaggacacaaDoor.Ev
namespace Go.Proofs.YtpdcahaggacacaaDoor.Ev
open Go
variable {P : Program}
def Does (P : Program) (o : Oper) (ρ : Operand → Value) (β : BM) (M : MH) (w : World) (mv : MV) (M' : MH) : Prop :=
 ∃ v w' β', ((execOp ρ o).run P w = .ok (.value v) w' ∨ ((execOp ρ o).run P w = .ok .skip w' ∧ v = undef)) ∧ Den β' mv v ∧ Step β β' M M' w w'
theorem Does.val {o : Oper} {ρ : Operand → Value} {β β' : BM} {M M' : MH} {w w' : World} {mv : MV} {v : Value} (h : (execOp ρ o).run P w = .ok (.value v) w') (hd : Den β' mv v) (hs : Step β β' M M' w w') : Does P o ρ β M w mv M' :=
 ⟨v, w', β', .inl h, hd, hs⟩
theorem Does.pure {o : Oper} {ρ : Operand → Value} {β : BM} {M : MH} {w : World} {mv : MV} {v : Value} (hi : Inv β M w) (h : (execOp ρ o).run P w = .ok (.value v) w) (hd : Den β mv v) : Does P o ρ β M w mv M :=
 ⟨v, w, β, .inl h, hd, .refl hi⟩
theorem Does.skip {o : Oper} {ρ : Operand → Value} {β β' : BM} {M M' : MH} {w w' : World} (h : (execOp ρ o).run P w = .ok .skip w') (hs : Step β β' M M' w w') : Does P o ρ β M w .u M' :=
 ⟨undef, w', β', .inr ⟨h, rfl⟩, .u _, hs⟩

noncomputable def ofL (l : List MV) : Nat → T MV :=
 List.rec (fun _ => .lf) (fun x _ ih i => T.set (path i) (some x) (ih (i + 1))) l
theorem ofL_nil (i : Nat) : ofL [] i = .lf := rfl
theorem ofL_cons (x : MV) (l : List MV) (i : Nat) : ofL (x :: l) i = T.set (path i) (some x) (ofL l (i + 1)) := rfl
theorem cget_ofL : ∀ (l : List MV) (i j : Nat), cget (ofL l i) j = if i ≤ j then l[j - i]? else none
 | [], i, j => by rw [ofL_nil]; simp [cget, T.get_lf]
 | x :: l, i, j => by
  rw [ofL_cons, cget_set, cget_ofL l (i + 1) j]
  by_cases h : i = j
  ·subst h; simp
  ·rw [if_neg h]
   by_cases h2 : i ≤ j
   ·have h3 : j - i = (j - (i + 1)) + 1 := by omega
    rw [if_pos (by omega), if_pos h2, h3]
    rfl
   ·rw [if_neg (by omega), if_neg h2]
noncomputable def getN (c : T MV) (n : Nat) : Nat → Option (List MV) :=
 Nat.rec (fun _ => some []) (fun _ ih off => match cget c off with
  | some v => match ih (off + 1) with
   | some l => some (v :: l)
   | none => none
  | none => none) n
theorem getN_zero (c : T MV) (off : Nat) : getN c 0 off = some [] := rfl
theorem getN_succ (c : T MV) (n off : Nat) : getN c (n + 1) off = match cget c off with
  | some v => match getN c n (off + 1) with
   | some l => some (v :: l)
   | none => none
  | none => none := rfl
theorem getN_some {c : T MV} : ∀ {n off : Nat} {l : List MV}, getN c n off = some l → l.length = n ∧ ∀ j x, l[j]? = some x → cget c (off + j) = some x
 | 0, off, l, h => by rw [getN_zero] at h; injection h with h; subst h; exact ⟨rfl, fun j x h => by simp at h⟩
 | n + 1, off, l, h => by
  rw [getN_succ] at h
  cases hv : cget c off with
  | none => rw [hv] at h; cases h
  | some v =>
   rw [hv] at h
   simp only at h
   cases hl : getN c n (off + 1) with
   | none => rw [hl] at h; cases h
   | some r =>
    rw [hl] at h
    injection h with h
    subst h
    obtain ⟨h1, h2⟩ := getN_some hl
    refine ⟨by simp [h1], fun j x hj => ?_⟩
    cases j with
    | zero => simp only [List.getElem?_cons_zero, Option.some.injEq] at hj; subst hj; exact hv
    | succ j => rw [show off + (j + 1) = off + 1 + j from by omega]; exact h2 j x (by simpa using hj)
noncomputable def setN (l : List MV) : Nat → T MV → T MV :=
 List.rec (fun _ c => c) (fun x _ ih off c => ih (off + 1) (T.set (path off) (some x) c)) l
theorem setN_cons (x : MV) (l : List MV) (off : Nat) (c : T MV) : setN (x :: l) off c = setN l (off + 1) (T.set (path off) (some x) c) := rfl
theorem cget_setN : ∀ (l : List MV) (off : Nat) (c : T MV) (j : Nat), cget (setN l off c) j = if off ≤ j ∧ j < off + l.length then l[j - off]? else cget c j
 | [], off, c, j => by
  show cget c j = _
  rw [if_neg (by simp <;> omega)]
 | x :: l, off, c, j => by
  rw [setN_cons, cget_setN l (off + 1) _ j, cget_set]
  by_cases h : off = j
  ·subst h
   rw [if_neg (by omega), if_pos rfl, if_pos (by simp)]
   simp
  ·by_cases h2 : off + 1 ≤ j ∧ j < off + 1 + l.length
   ·rw [if_pos h2, if_pos (by simp; omega)]
    have h3 : j - off = (j - (off + 1)) + 1 := by omega
    rw [h3]; rfl
   ·rw [if_neg h2, if_neg h, if_neg (by simp; omega)]

theorem cget_trunc (c : T MV) (n : Nat) (hn : n < 256) (j : Nat) : cget (c.trunc n) j = if j < n then cget c j else none := T.trunc_get n hn c j
noncomputable def appC (c : T MV) (n off : Nat) (olds news : List MV) : T MV :=
 bif Nat.beq off 0 && Nat.ble n 255 then setN news n (c.trunc n) else ofL (olds ++ news) 0
theorem appC_get {c : T MV} {n off : Nat} {olds news : List MV} (h : getN c n off = some olds) (j : Nat) : cget (appC c n off olds news) j = (olds ++ news)[j]? := by
 obtain ⟨h1, h2⟩ := getN_some h
 unfold appC
 cases hb : Nat.beq off 0 && Nat.ble n 255 with
 | false => rw [cond_false, cget_ofL]; simp
 | true =>
  simp only [Bool.and_eq_true] at hb
  have e := Nat.eq_of_beq_eq_true hb.1
  have hn := Nat.le_of_ble_eq_true hb.2
  subst e
  rw [cond_true, cget_setN, cget_trunc c n (by omega)]
  by_cases hj : j < n
  ·rw [if_neg (by omega), if_pos hj, List.getElem?_append_left (by omega)]
   have hl : j < olds.length := by omega
   have := h2 j (olds[j]) (by simp [hl])
   rw [Nat.zero_add] at this
   rw [this]
   simp [hl]
  ·rw [List.getElem?_append_right (by omega), h1]
   by_cases hj2 : j < n + news.length
   ·rw [if_pos ⟨by omega, hj2⟩]
   ·rw [if_neg (by omega), if_neg hj]
    symm
    simp; omega

theorem read_cells {β : BM} {M : MH} {w : World} (hi : Inv β M w) {id : Nat} {ro : Bool} {sz : Nat} {c : T MV} (ho : M.get id = some (.cs ro sz c)) : ∃ B, β id = some B ∧ ∀ i x, cget c i = some x → ∃ v, w.cell? ⟨B.blk, B.off + i, none⟩ = some v ∧ Den β x v := by
 obtain ⟨B, hB, hO⟩ := hi.obj id _ ho
 refine ⟨B, hB, fun i x hx => ?_⟩
 cases ro with
 | true => exact hO i x hx
 | false =>
  obtain ⟨arr, t, fr, h1, h2, h3, h4⟩ := hO
  obtain ⟨v, hv, hd⟩ := h4 i x hx
  exact ⟨v, by simp [World.cell?, h1, hv], hd⟩
theorem read_list {β : BM} {M : MH} {w : World} (hi : Inv β M w) {id off n : Nat} {ro : Bool} {sz : Nat} {c : T MV} {l : List MV} (ho : M.get id = some (.cs ro sz c)) (hl : getN c n off = some l) :
  ∃ (B : Bl) (vs : List Value), β id = some B ∧ DenL β l vs ∧ vs.length = n ∧ w.rangeAt B.blk (B.off + off) vs := by
 obtain ⟨B, hB, hr⟩ := read_cells hi ho
 obtain ⟨h1, h2⟩ := getN_some hl
 clear hl
 have key : ∀ (l : List MV) (off n : Nat), l.length = n → (∀ j x, l[j]? = some x → cget c (off + j) = some x) → ∃ vs : List Value, DenL β l vs ∧ vs.length = n ∧ w.rangeAt B.blk (B.off + off) vs := by
  intro l
  induction l with
  | nil => intro off n hn _; exact ⟨[], .nil β, by simpa using hn, fun j v h => by simp at h⟩
  | cons x l ih =>
   intro off n hn hc
   obtain ⟨v, hv, hd⟩ := hr off x (hc 0 x rfl)
   obtain ⟨vs, h1, h2, h3⟩ := ih (off + 1) (n - 1) (by simp at hn; omega) (fun j y hj => by
    rw [show off + 1 + j = off + (j + 1) from by omega]; exact hc (j + 1) y (by simpa using hj))
   refine ⟨v :: vs, .cons hd h1, by simp at hn ⊢; omega, fun j u hj => ?_⟩
   cases j with
   | zero => simp at hj; subst hj; exact hv
   | succ j => rw [show B.off + off + (j + 1) = B.off + (off + 1) + j from by omega]; exact h3 j u (by simpa using hj)
 obtain ⟨vs, h3, h4, h5⟩ := key l off n h1 h2
 exact ⟨B, vs, hB, h3, h4, h5⟩
def putCells (arr : Array Value) : Nat → List Value → Array Value
 | _, [] => arr
 | o, v :: r => putCells (arr.setIfInBounds o v) (o + 1) r
theorem putCells_size : ∀ (vs : List Value) (arr : Array Value) (o : Nat), (putCells arr o vs).size = arr.size
 | [], _, _ => rfl
 | v :: r, arr, o => by rw [putCells, putCells_size r]; simp
theorem putCells_get : ∀ (vs : List Value) (arr : Array Value) (o j : Nat), o + vs.length ≤ arr.size → (putCells arr o vs)[j]? = if o ≤ j ∧ j < o + vs.length then vs[j - o]? else arr[j]?
 | [], arr, o, j, _ => by rw [putCells, if_neg (by simp <;> omega)]
 | v :: r, arr, o, j, h => by
  simp only [List.length_cons] at h
  rw [putCells, putCells_get r _ (o + 1) j (by simp; omega)]
  by_cases h1 : o + 1 ≤ j ∧ j < o + 1 + r.length
  ·rw [if_pos h1, if_pos (by simp; omega)]
   have h3 : j - o = (j - (o + 1)) + 1 := by omega
   rw [h3]; rfl
  ·rw [if_neg h1]
   by_cases h2 : o = j
   ·subst h2
    rw [if_pos (by simp)]
    have : o < arr.size := by omega
    simp [this]
   ·rw [Array.getElem?_setIfInBounds_ne h2, if_neg (by simp; omega)]
theorem setCell_blk {w : World} {b o : Nat} {v : Value} {arr : Array Value} {t : TypeId} {fr : Nat × Nat} (h : w.heap[b]? = some (.cells arr t fr)) : w.setCell ⟨b, o, none⟩ v = { w with heap := w.heap.setIfInBounds b (.cells (arr.setIfInBounds o v) t fr) } := by
 unfold World.setCell
 congr 1
 apply Array.ext_getElem?
 intro i
 have hb : b < w.heap.size := (Array.getElem?_eq_some_iff.1 h).1
 rw [Array.getElem?_modify]
 by_cases e : b = i
 ·subst e
  rw [Array.getElem?_setIfInBounds_self_of_lt hb]
  simp [h]
 ·rw [Array.getElem?_setIfInBounds_ne e]
  simp [e]
theorem setCells_blk : ∀ (vs : List Value) {w : World} {b o : Nat} {arr : Array Value} {t : TypeId} {fr : Nat × Nat}, w.heap[b]? = some (.cells arr t fr) → w.setCells b o vs = { w with heap := w.heap.setIfInBounds b (.cells (putCells arr o vs) t fr) }
 | [], w, b, o, arr, t, fr, h => by
  have hb : b < w.heap.size := (Array.getElem?_eq_some_iff.1 h).1
  rw [World.setCells, putCells]
  have : w.heap.setIfInBounds b (.cells arr t fr) = w.heap := by
   apply Array.ext_getElem?
   intro i
   by_cases e : b = i
   ·subst e; rw [Array.getElem?_setIfInBounds_self_of_lt hb, h]
   ·rw [Array.getElem?_setIfInBounds_ne e]
  rw [this]
 | v :: r, w, b, o, arr, t, fr, h => by
  have hb : b < w.heap.size := (Array.getElem?_eq_some_iff.1 h).1
  rw [World.setCells, setCell_blk h, setCells_blk r (w := { w with heap := w.heap.setIfInBounds b (.cells (arr.setIfInBounds o v) t fr) }) (arr := arr.setIfInBounds o v) (t := t) (fr := fr) (Array.getElem?_setIfInBounds_self_of_lt hb)]
  simp only [putCells]
  congr 1
  apply Array.ext_getElem?
  intro i
  by_cases e : b = i
  ·subst e
   rw [Array.getElem?_setIfInBounds_self_of_lt (by simpa using hb), Array.getElem?_setIfInBounds_self_of_lt hb]
  ·rw [Array.getElem?_setIfInBounds_ne e, Array.getElem?_setIfInBounds_ne e, Array.getElem?_setIfInBounds_ne e]
def hasN (c : T MV) (n off : Nat) : Prop := ∀ j, j < n → (cget c (off + j)).isSome = true
theorem thawed {w : World} {b i : Nat} {arr : Array Value} {t : TypeId} {fr : Nat × Nat} (h : w.heap[b]? = some (.cells arr t fr)) {sz : Nat} (ht : Thawed sz fr arr.size) (hi : i < arr.size) : w.frozen? ⟨b, i, none⟩ = false := by
 simp only [World.frozen?, h]
 rcases ht with ht | ht
 ·simp only [Bool.and_eq_false_imp, decide_eq_true_eq, decide_eq_false_iff_not]
  intro _
  omega
 ·simp only [Bool.and_eq_false_imp, decide_eq_true_eq, decide_eq_false_iff_not]
  intro _
  omega
theorem write_cells {β : BM} {M : MH} {w : World} (hi : Inv β M w) {id off : Nat} {sz : Nat} {c : T MV} (ho : M.get id = some (.cs false sz c)) (hlo : M.lo ≤ id) {l : List MV} {vs : List Value} (hd : DenL β l vs) (hh : hasN c l.length off) :
  ∃ B, β id = some B ∧ w.there B.blk (B.off + off) vs.length ∧ Step β β M (M.set id (some (.cs false sz (setN l off c)))) w (w.setCells B.blk (B.off + off) vs) := by
 obtain ⟨B, hB, hO⟩ := hi.obj id _ ho
 obtain ⟨arr, t, fr, h1, h2, h3, h4⟩ := hO
 have hlt : ∀ j, j < vs.length → B.off + off + j < arr.size := fun j hj => by
  obtain ⟨x, hx⟩ := Option.isSome_iff_exists.1 (hh j (by rw [hd.1]; exact hj))
  obtain ⟨v, hv, -⟩ := h4 _ x hx
  have := (Array.getElem?_eq_some_iff.1 hv).1
  omega
 refine ⟨B, hB, fun j hj => ⟨?_, thawed h1 h2 (hlt j hj)⟩, ?_⟩
 ·simp [World.cell?, h1, hlt j hj]
 ·rw [setCells_blk vs h1]
  have hb : B.blk < w.heap.size := (Array.getElem?_eq_some_iff.1 h1).1
  have hle : B.off + off + vs.length ≤ arr.size ∨ vs = [] := by
   rcases Nat.eq_zero_or_pos vs.length with h0 | h0
   ·right; exact List.length_eq_zero_iff.1 h0
   ·left; have := hlt (vs.length - 1) (by omega); omega
  refine Step.turn hi id _ _ B ho rfl rfl hB hlo _ ⟨putCells arr (B.off + off) vs, t, fr, ?_, by rw [putCells_size]; exact h2, by rw [putCells_size]; exact h3, fun i x hx => ?_⟩
  ·simp [hb]
  ·rw [cget_setN] at hx
   rcases hle with hle | rfl
   ·rw [putCells_get _ _ _ _ hle]
    rw [hd.1] at hx
    split at hx
    ·rename_i h5
     rw [if_pos (by omega)]
     obtain ⟨v, hv, hdv⟩ := hd.2 _ _ hx
     refine ⟨v, ?_, hdv⟩
     rw [show B.off + i - (B.off + off) = i - off from by omega]
     exact hv
    ·rename_i h5
     rw [if_neg (by omega)]
     exact h4 i x hx
   ·have h0 : l.length = 0 := by rw [hd.1]; rfl
    rw [if_neg (by omega)] at hx
    exact h4 i x hx
theorem new_cells {β : BM} {M : MH} {w : World} (hi : Inv β M w) (hlo : M.lo ≤ M.n) (arr : Array Value) (t : TypeId) (fr : Nat × Nat) (cap sz : Nat) (hfr : Thawed sz fr arr.size) (hcap : cap * sz ≤ arr.size) (l : List MV) (hl : ∃ vs : List Value, DenL β l vs ∧ ∀ (j : Nat) (v : Value), vs[j]? = some v → arr[j]? = some v) :
  ∃ β', Step β β' M (M.push (.cs false sz (ofL l 0))) w (w.alloc (.cells arr t fr)) ∧ β' M.n = some ⟨w.heap.size, 0, cap⟩ := by
 obtain ⟨vs, hd, hv⟩ := hl
 refine Step.new hi _ _ cap hlo rfl fun β' hle => ⟨arr, t, fr, heap_alloc_new w _, hfr, by simpa using hcap, fun i x hx => ?_⟩
 rw [cget_ofL] at hx
 simp only [Nat.zero_le, if_true, Nat.sub_zero] at hx
 obtain ⟨v, h1, h2⟩ := hd.2 i x hx
 exact ⟨v, by simpa using hv i v h1, h2.mono hle⟩
theorem new_cells2 {β : BM} {M : MH} {w : World} (hi : Inv β M w) (hlo : M.lo ≤ M.n) (arr : Array Value) (t : TypeId) (fr : Nat × Nat) (cap sz : Nat) (hfr : Thawed sz fr arr.size) (hcap : cap * sz ≤ arr.size) (l : List MV) (tc : T MV) (htc : ∀ i, cget tc i = l[i]?) (hl : ∃ vs : List Value, DenL β l vs ∧ ∀ (j : Nat) (v : Value), vs[j]? = some v → arr[j]? = some v) :
  ∃ β', Step β β' M (M.push (.cs false sz tc)) w (w.alloc (.cells arr t fr)) ∧ β' M.n = some ⟨w.heap.size, 0, cap⟩ := by
 obtain ⟨vs, hd, hv⟩ := hl
 refine Step.new hi _ _ cap hlo rfl fun β' hle => ⟨arr, t, fr, heap_alloc_new w _, hfr, by simpa using hcap, fun i x hx => ?_⟩
 rw [htc] at hx
 obtain ⟨v, h1, h2⟩ := hd.2 i x hx
 exact ⟨v, by simpa using hv i v h1, h2.mono hle⟩
theorem thawed0 (sz n : Nat) : Thawed sz (0, 0) n := .inl rfl

section
variable {ρ : Operand → Value} {β : BM} {M : MH} {w : World} {d : Option Tmp} {ty : TypeId} {pos : String} {af : Array Edge} {gd : Option (Nat × Bool)}
theorem does_move {x : Operand} {m : MV} (hi : Inv β M w) (hx : Den β m (ρ x)) : Does P ⟨d, .move x, ty, pos, af, gd⟩ ρ β M w m M := .pure hi (by simp [execOp]) hx
theorem does_assign {x : Operand} {m : MV} (hi : Inv β M w) (hx : Den β m (ρ x)) : Does P ⟨d, .assign x, ty, pos, af, gd⟩ ρ β M w m M := .pure hi (by simp [execOp]) hx
theorem does_pick {c x y : Operand} {t : Bool} {m n : MV} (hi : Inv β M w) (hc : Den β (.b t) (ρ c)) (hx : Den β m (ρ x)) (hy : Den β n (ρ y)) : Does P ⟨d, .pick c x y, ty, pos, af, gd⟩ ρ β M w (if t then m else n) M := by
 generalize hv : ρ c = v at hc
 cases hc
 refine .pure hi (v := if t then ρ x else ρ y) (by cases t <;> simp [execOp, hv, asBool]) ?_
 cases t
 ·exact hy
 ·exact hx
theorem does_alloc {e : TypeId} {i : TypeInfo} {z : Value} {l : List MV} (hi : Inv β M w) (hlo : M.lo ≤ M.n) (h1 : P.info? e = some i) (h2 : i.zero = some z) (hl : DenL β l z.cells.toList) :
  Does P ⟨d, .alloc e, ty, pos, af, gd⟩ ρ β M w (.p M.n 0) (M.push (.cs false l.length (ofL l 0))) := by
 obtain ⟨β', hs, hb⟩ := new_cells hi hlo z.cells e (0, 0) 1 l.length (thawed0 _ _) (by rw [hl.1]; simp) l ⟨_, hl, fun j v hv => by simpa using hv⟩
 exact .val (v := .pointer (some ⟨w.heap.size, 0, none⟩)) (by simp [execOp, Instr.alloc, zeroValue, typeInfo, h1, h2, newVar, newRow]) (.p _ _ _ hb) hs
theorem does_box {e : TypeId} {x : Operand} {m : MV} (hi : Inv β M w) (hlo : M.lo ≤ M.n) (hx : Den β m (ρ x)) (hu : m = .u → False) :
  Does P ⟨d, .box e x, ty, pos, af, gd⟩ ρ β M w (.p M.n 0) (M.push (.cs false m.cells.length (ofL m.cells 0))) := by
 have hl := hx.cells hu
 obtain ⟨β', hs, hb⟩ := new_cells hi hlo (ρ x).cells e (0, 0) 1 m.cells.length (thawed0 _ _) (by rw [hl.1]; simp) m.cells ⟨_, hl, fun j v hv => by simpa using hv⟩
 exact .val (v := .pointer (some ⟨w.heap.size, 0, none⟩)) (by simp [execOp, Instr.box, newVar, newRow]) (.p _ _ _ hb) hs
theorem does_load1 {t : TypeId} {x : Operand} {id off sz : Nat} {ro : Bool} {c : T MV} {m : MV} {k : TypeDesc} (hi : Inv β M w) (hk : P.underlying t = some k) (hk' : k.isRow = false) (hx : Den β (.p id off) (ρ x)) (ho : M.get id = some (.cs ro sz c)) (hc : cget c off = some m) :
  Does P ⟨d, .load t x, ty, pos, af, gd⟩ ρ β M w m M := by
 obtain ⟨B, hB, hr⟩ := read_cells hi ho
 obtain ⟨v, hv, hd⟩ := hr off m hc
 generalize hp : ρ x = u at hx
 cases hx with
 | p _ _ B' hB' =>
  rw [hB] at hB'
  injection hB' with hB'
  subst hB'
  refine .pure hi (v := v) ?_ hd
  have hagg : (isAgg t).run P w = .ok false w := by
   cases k <;> first | (simp [isAgg, run_underlying hk]; done) | cases hk'
  simp [execOp, hp, Instr.loadAt, Instr.sureAddr, loadVar, hagg, hv]
theorem does_loadN {t : TypeId} {x : Operand} {id off sz n : Nat} {ro : Bool} {c : T MV} {l : List MV} {k : TypeDesc} (hi : Inv β M w) (hk : P.underlying t = some k) (hk' : k.isRow = true) (hn : (P.info? t).map (·.size) = some n) (hx : Den β (.p id off) (ρ x)) (ho : M.get id = some (.cs ro sz c)) (hl : getN c n off = some l) :
  Does P ⟨d, .load t x, ty, pos, af, gd⟩ ρ β M w (.ag l) M := by
 obtain ⟨B, vs, hB, hd, hvl, hr⟩ := read_list hi ho hl
 generalize hp : ρ x = u at hx
 cases hx with
 | p _ _ B' hB' =>
  rw [hB] at hB'
  injection hB' with hB'
  subst hB'
  refine .pure hi (v := .agg vs.toArray) ?_ (DenL.agg (by simpa using hd))
  have := run_loadAt_mid (P := P) w B.blk (B.off + off) t vs k hr hk hk' (by rw [hn, hvl])
  simp [execOp, hp, this]
theorem run_storeVar_cells (w : World) (b o : Nat) (t : TypeId) (v : Value) (ht : w.there b o v.cells.size) (hi : (P.info? t).map (·.size) = some v.cells.size) (h1 : ∀ u ∈ v.cells.toList, u.oneCell' = true) :
  (storeVar t ⟨b, o, none⟩ v).run P w = .ok () (w.setCells b o v.cells.toList) := by
 have key := run_storeCells_cells (P := P) b o v.cells.toList 0 w (fun j hj => by simpa using (ht j (by simpa using hj)).1) (fun j hj => by simpa using (ht j (by simpa using hj)).2) h1
 cases hinfo : P.info? t with
 | none => rw [hinfo] at hi; cases hi
 | some i =>
  rw [hinfo] at hi
  simp only [Option.map_some, Option.some.injEq] at hi
  simp only [Nat.add_zero] at key
  simp [storeVar, sizeOf, typeInfo, hinfo, hi, key]
theorem does_store {t : TypeId} {x y : Operand} {id off sz : Nat} {c : T MV} {m : MV} (hi : Inv β M w) (hn : (P.info? t).map (·.size) = some m.cells.length) (hx : Den β (.p id off) (ρ x)) (hy : Den β m (ρ y)) (hu : ∀ q ∈ m.cells, q.one = true) (hm : m = .u → False)
  (ho : M.get id = some (.cs false sz c)) (hlo : M.lo ≤ id) (hc : hasN c m.cells.length off) : Does P ⟨d, .store t x y, ty, pos, af, gd⟩ ρ β M w .u (M.set id (some (.cs false sz (setN m.cells off c)))) := by
 have hl := hy.cells hm
 obtain ⟨B, hB, ht, hs⟩ := write_cells hi ho hlo hl hc
 generalize hp : ρ x = u at hx
 cases hx with
 | p _ _ B' hB' =>
  rw [hB] at hB'
  injection hB' with hB'
  subst hB'
  have h1 : ∀ u ∈ (ρ y).cells.toList, u.oneCell' = true := fun u hu' => by
   obtain ⟨j, hj, rfl⟩ := List.mem_iff_getElem.1 hu'
   have hj2 : j < m.cells.length := by rw [hl.1]; exact hj
   obtain ⟨v, hv, hd⟩ := hl.2 j m.cells[j] (List.getElem?_eq_getElem hj2)
   rw [List.getElem?_eq_getElem hj] at hv
   injection hv with hv
   rw [hv]
   exact hd.oneCell (hu _ (List.getElem_mem hj2))
  have := run_storeVar_cells (P := P) w B.blk (B.off + off) t (ρ y) (by simpa using ht) (by rw [hn, hl.1]; simp) h1
  exact .skip (by simp [execOp, hp, Instr.storeAt, Instr.sureAddr, this]) hs
theorem does_nilck {x : Operand} {id off : Nat} (hi : Inv β M w) (hx : Den β (.p id off) (ρ x)) : Does P ⟨d, .nilCheck x, ty, pos, af, gd⟩ ρ β M w (.p id off) M := by
 generalize hp : ρ x = u at hx
 cases hx with
 | p _ _ B' hB' => exact .pure hi (v := .pointer (some ⟨B'.blk, B'.off + off, none⟩)) (by simp [execOp, hp]) (.p _ _ _ hB')
theorem does_fieldAddr {s : TypeId} {x : Operand} {f id off o : Nat} {fs : Array Field} {fd : Field} (hi : Inv β M w) (hs : P.underlying s = some (.struct fs)) (hf : fs[f]? = some fd) (hx : Den β (.p id off) (ρ x))
  (hpl : ∀ (b k : Nat), (fieldPlace ⟨b, k, none⟩ fd).run P w = .ok ⟨b, k + o, none⟩ w) : Does P ⟨d, .fieldAddr s x f, ty, pos, af, gd⟩ ρ β M w (.p id (off + o)) M := by
 generalize hp : ρ x = u at hx
 cases hx with
 | p _ _ B hB =>
  refine .pure hi (v := .pointer (some ⟨B.blk, B.off + (off + o), none⟩)) ?_ (.p _ _ _ hB)
  simp [execOp, hp, Instr.fieldAt, run_underlying hs, hf, Instr.sureAddr, hpl, Nat.add_assoc]
theorem does_idxA {t : TypeId} {x i : Operand} {id off n e s : Nat} {k : IntKind} {j : Int} (hi : Inv β M w) (ht : P.underlying t = some (.array n e)) (hs : (P.info? e).map (·.size) = some s) (hx : Den β (.p id off) (ρ x)) (hj : Den β (.i k j) (ρ i)) (h0 : 0 ≤ j) (h1 : j < n) :
  Does P ⟨d, .indexAddr t x i, ty, pos, af, gd⟩ ρ β M w (.p id (off + j.toNat * s)) M := by
 generalize hp : ρ x = u at hx
 generalize hq : ρ i = u' at hj
 cases hj
 cases hx with
 | p _ _ B hB =>
  refine .pure hi (v := .pointer (some ⟨B.blk, B.off + (off + j.toNat * s), none⟩)) ?_ (.p _ _ _ hB)
  cases hin : P.info? e with
  | none => rw [hin] at hs; cases hs
  | some q =>
   rw [hin] at hs
   simp only [Option.map_some, Option.some.injEq] at hs
   simp [execOp, hp, hq, Instr.indexAt, run_underlying ht, asIntOf, Instr.sureAddr, h0, h1, sizeOf, typeInfo, hin, hs, Addr.add_lit, Nat.add_assoc]
theorem does_idxS {t : TypeId} {x i : Operand} {id off len ed e s : Nat} {k : IntKind} {j : Int} (hi : Inv β M w) (ht : P.underlying t = some (.slice e)) (hs : (P.info? e).map (·.size) = some s) (hx : Den β (.sl id off len ed) (ρ x)) (hj : Den β (.i k j) (ρ i)) (h0 : 0 ≤ j) (h1 : j < len) :
  Does P ⟨d, .indexAddr t x i, ty, pos, af, gd⟩ ρ β M w (.p id (off + j.toNat * s)) M := by
 generalize hp : ρ x = u at hx
 generalize hq : ρ i = u' at hj
 cases hj
 cases hx with
 | sl _ _ _ _ B a hB hc ha =>
  have ha' := ha (by omega)
  subst ha'
  refine .pure hi (v := .pointer (some ⟨B.blk, B.off + (off + j.toNat * s), none⟩)) ?_ (.p _ _ _ hB)
  cases hin : P.info? e with
  | none => rw [hin] at hs; cases hs
  | some q =>
   rw [hin] at hs
   simp only [Option.map_some, Option.some.injEq] at hs
   simp [execOp, hp, hq, Instr.indexAt, run_underlying ht, asIntOf, Instr.sureAddr, h0, h1, sizeOf, typeInfo, hin, hs, Addr.add_lit, Nat.add_assoc]
theorem does_extract {x : Operand} {l : List MV} {i : Nat} {m : MV} (hi : Inv β M w) (hx : Den β (.tp l) (ρ x)) (hm : l[i]? = some m) : Does P ⟨d, .extract x i, ty, pos, af, gd⟩ ρ β M w m M := by
 generalize hp : ρ x = u at hx
 obtain ⟨vs, rfl, hl⟩ := hx.tpInv
 obtain ⟨v, hv, hd⟩ := hl.2 i m hm
 refine .pure hi (v := v) ?_ hd
 have hv' : vs[i]? = some v := by simpa using hv
 simp [execOp, hp, Instr.extract, hv']
end
end Go.Proofs.YtpdcahaggacacaaDoor.Ev
namespace Go.Proofs.YtpdcahaggacacaaDoor.Ev
open Go
variable {P : Program}
def wrapF (k : IntKind) (n : Int) : Int :=
 match k with
 | .i64 => match n with
  | .ofNat m => bif Nat.blt m 9223372036854775808 then .ofNat m else
   bif Nat.blt (m % 18446744073709551616) 9223372036854775808 then .ofNat (m % 18446744073709551616) else Int.subNatNat (m % 18446744073709551616) 18446744073709551616
  | n => let m := (n % (18446744073709551616 : Int)).toNat
   bif Nat.blt m 9223372036854775808 then .ofNat m else Int.subNatNat m 18446744073709551616
 | .u64 => .ofNat (n % (18446744073709551616 : Int)).toNat
 | .u8 => .ofNat (n % (256 : Int)).toNat
 | k => k.wrap n
theorem wrapF_eq (k : IntKind) (n : Int) : wrapF k n = k.wrap n := by
 have e64 : (2 : Int) ^ 64 = 18446744073709551616 := by decide
 have e63 : (2 : Int) ^ 63 = 9223372036854775808 := by decide
 have e8 : (2 : Int) ^ 8 = 256 := by decide
 have blt : ∀ a b : Nat, Nat.blt a b = decide (a < b) := fun a b => by
  rw [Bool.eq_iff_iff]; simp [Nat.blt_eq]
 cases k with
 | i64 =>
  cases n with
  | ofNat m =>
   simp only [wrapF, IntKind.wrap, IntKind.bits, IntKind.signed, e64, e63, blt, Bool.true_and, show (64 : Nat) - 1 = 63 from rfl, Int.subNatNat_eq_coe, Int.ofNat_eq_natCast, cond_eq_ite, decide_eq_true_eq, ge_iff_le]
   split <;> split <;> (try split) <;> omega
  | negSucc m =>
   simp only [wrapF, IntKind.wrap, IntKind.bits, IntKind.signed, e64, e63, blt, Bool.true_and, show (64 : Nat) - 1 = 63 from rfl, Int.subNatNat_eq_coe, Int.ofNat_eq_natCast, cond_eq_ite, decide_eq_true_eq, ge_iff_le]
   split <;> split <;> omega
 | u64 =>
  simp only [wrapF, IntKind.wrap, IntKind.bits, IntKind.signed, e64, Bool.false_and, Int.ofNat_eq_natCast, Bool.false_eq_true, if_false]
  omega
 | u8 =>
  simp only [wrapF, IntKind.wrap, IntKind.bits, IntKind.signed, e8, Bool.false_and, Int.ofNat_eq_natCast, Bool.false_eq_true, if_false]
  omega
 | _ => rfl
def bitsF (op : BinOp) (k : IntKind) (x y : Int) : Int :=
 let a := BitVec.ofInt k.bits x
 let b := BitVec.ofInt k.bits y
 wrapF k (match op with
  | .and => a &&& b
  | .or => a ||| b
  | .xor => a ^^^ b
  | _ => a &&& ~~~b).toNat
def binI (op : BinOp) (k : IntKind) (x : Int) (k' : IntKind) (y : Int) : Option MV :=
 match op with
 | .shl => bif decide (y < 0) then none else some (.i k (wrapF k (x * ((2 ^ (min y.toNat k.bits) : Nat) : Int))))
 | .shr => bif decide (y < 0) then none else some (.i k (x.fdiv ((2 ^ (min y.toNat k.bits) : Nat) : Int)))
 | .add => bif k == k' then some (.i k (wrapF k (x + y))) else none
 | .sub => bif k == k' then some (.i k (wrapF k (x - y))) else none
 | .mul => bif k == k' then some (.i k (wrapF k (x * y))) else none
 | .quo => bif k == k' && !(y == 0) then some (.i k (wrapF k (x.tdiv y))) else none
 | .rem => bif k == k' && !(y == 0) then some (.i k (x.tmod y)) else none
 | .and => bif k == k' then some (.i k (bitsF .and k x y)) else none
 | .or => bif k == k' then some (.i k (bitsF .or k x y)) else none
 | .xor => bif k == k' then some (.i k (bitsF .xor k x y)) else none
 | .andNot => bif k == k' then some (.i k (bitsF .andNot k x y)) else none
 | .eql => bif k == k' then some (.b (x == y)) else none
 | .neq => bif k == k' then some (.b (x != y)) else none
 | .lss => bif k == k' then some (.b (decide (x < y))) else none
 | .leq => bif k == k' then some (.b (decide (x ≤ y))) else none
 | .gtr => bif k == k' then some (.b (decide (y < x))) else none
 | .geq => bif k == k' then some (.b (decide (y ≤ x))) else none
theorem binI_run {op : BinOp} {k k' : IntKind} {x y : Int} {m : MV} (h : binI op k x k' y = some m) (t : TypeId) (w : World) (β : BM) : ∃ v, (binOp op t (.int k x) (.int k' y)).run P w = .ok v w ∧ Den β m v := by
 have hk : ∀ {a b : Option MV}, (bif k == k' then a else b) = some m → b = none → k = k' ∧ a = some m := fun {a b} h hb => by
  cases hkk : (k == k') with
  | true => rw [hkk] at h; exact ⟨by simpa using hkk, h⟩
  | false => rw [hkk] at h; simp [hb] at h
 cases op with
 | shl =>
  simp only [binI] at h
  by_cases hy : y < 0
  ·simp [hy] at h
  ·simp only [hy, decide_false, cond_false, Option.some.injEq] at h
   subst h
   refine ⟨_, ?_, .i _ _⟩
   rw [wrapF_eq]
   simp [binOp, Op.shift, hy]
 | shr =>
  simp only [binI] at h
  by_cases hy : y < 0
  ·simp [hy] at h
  ·simp only [hy, decide_false, cond_false, Option.some.injEq] at h
   subst h
   refine ⟨_, ?_, .i _ _⟩
   simp [binOp, Op.shift, hy]
 | quo =>
  simp only [binI] at h
  cases hkk : (k == k' && !(y == 0)) with
  | false => simp [hkk] at h
  | true =>
   rw [hkk] at h
   simp only [cond_true, Option.some.injEq] at h
   subst h
   simp only [Bool.and_eq_true, beq_iff_eq, Bool.not_eq_eq_eq_not, Bool.not_true, beq_eq_false_iff_ne, ne_eq] at hkk
   obtain ⟨rfl, hy⟩ := hkk
   exact ⟨_, by rw [wrapF_eq]; simp [binOp, Op.intDiv, hy], .i _ _⟩
 | rem =>
  simp only [binI] at h
  cases hkk : (k == k' && !(y == 0)) with
  | false => simp [hkk] at h
  | true =>
   rw [hkk] at h
   simp only [cond_true, Option.some.injEq] at h
   subst h
   simp only [Bool.and_eq_true, beq_iff_eq, Bool.not_eq_eq_eq_not, Bool.not_true, beq_eq_false_iff_ne, ne_eq] at hkk
   obtain ⟨rfl, hy⟩ := hkk
   exact ⟨_, by simp [binOp, Op.intDiv, hy], .i _ _⟩
 | add | sub | mul =>
  obtain ⟨rfl, h'⟩ := hk h rfl
  clear h
  injection h' with h'
  subst h'
  exact ⟨_, by rw [wrapF_eq]; simp [binOp, Op.intArith], .i _ _⟩
 | and | or | xor | andNot =>
  obtain ⟨rfl, h'⟩ := hk h rfl
  clear h
  injection h' with h'
  subst h'
  exact ⟨_, by unfold bitsF; rw [wrapF_eq]; simp [binOp, Op.intBits], .i _ _⟩
 | _ =>
  obtain ⟨rfl, h'⟩ := hk h rfl
  clear h
  injection h' with h'
  subst h'
  exact ⟨_, by simp [binOp, Op.intCmp], .b _⟩
def eqM (op : BinOp) (r : Bool) : Option MV :=
 match op with
 | .eql => some (.b r)
 | .neq => some (.b (!r))
 | _ => none
section
variable {ρ : Operand → Value} {β : BM} {M : MH} {w : World} {d : Option Tmp} {ty : TypeId} {pos : String} {af : Array Edge} {gd : Option (Nat × Bool)}
theorem does_binI {op : BinOp} {t yt : TypeId} {x y : Operand} {k k' : IntKind} {a b : Int} {m : MV} (hi : Inv β M w) (hx : Den β (.i k a) (ρ x)) (hy : Den β (.i k' b) (ρ y)) (hm : binI op k a k' b = some m) : Does P ⟨d, .binOp op t x y yt, ty, pos, af, gd⟩ ρ β M w m M := by
 generalize hp : ρ x = u at hx
 generalize hq : ρ y = u' at hy
 cases hx
 cases hy
 obtain ⟨v, hv, hd⟩ := binI_run (P := P) hm t w β
 have hg : ∀ (t : TypeId) (x y : Operand) (v : Value), eqGuard op t x y (.int k a) v = Pure.pure () := fun t x y v => by cases op <;> rfl
 exact .pure hi (v := v) (by simp [execOp, hp, hq, hg, hv]) hd
theorem does_eq {op : BinOp} {t yt : TypeId} {x y : Operand} {u u' : Value} {r : Bool} {m : MV} (hi : Inv β M w) (hp : ρ x = u) (hq : ρ y = u') (h1 : ∀ op, eqGuard op t x y u u' = Pure.pure ()) (h2 : (Op.equal t u u').run P w = .ok r w)
  (h3 : ∀ t', binOp .eql t' u u' = (do Pure.pure (.bool (← Op.equal t' u u')))) (h4 : ∀ t', binOp .neq t' u u' = (do Pure.pure (.bool (!(← Op.equal t' u u'))))) (hm : eqM op r = some m) : Does P ⟨d, .binOp op t x y yt, ty, pos, af, gd⟩ ρ β M w m M := by
 cases op <;> simp only [eqM, Option.some.injEq, reduceCtorEq] at hm
 ·subst hm
  exact .pure hi (v := .bool r) (by simp [execOp, hp, hq, h1, h3, h2]) (.b _)
 ·subst hm
  exact .pure hi (v := .bool (!r)) (by simp [execOp, hp, hq, h1, h4, h2]) (.b _)
theorem equal_succ (t : TypeId) (u u' : Value) : Op.equal t u u' = Op.equalIn (9999 + 1) t u u' := rfl
theorem does_binB {op : BinOp} {t yt : TypeId} {x y : Operand} {a b : Bool} {m : MV} (hi : Inv β M w) (ht : P.underlying t = some .bool) (hx : Den β (.b a) (ρ x)) (hy : Den β (.b b) (ρ y)) (hm : eqM op (a == b) = some m) : Does P ⟨d, .binOp op t x y yt, ty, pos, af, gd⟩ ρ β M w m M := by
 generalize hp : ρ x = u at hx
 generalize hq : ρ y = u' at hy
 cases hx
 cases hy
 refine does_eq hi hp hq (fun op => by cases op <;> rfl) ?_ (fun _ => rfl) (fun _ => rfl) hm
 rw [equal_succ, Op.equalIn]
 simp [run_underlying ht]
inductive NilKind where
 | ptr | sl | mp | fn
def nilKind : TypeDesc → Option NilKind
 | .pointer _ => some .ptr
 | .slice _ => some .sl
 | .map _ _ => some .mp
 | .func _ _ _ => some .fn
 | _ => none
def nilR (n : NilKind) (x y : MV) : Option Bool :=
 match n, x, y with
 | .ptr, .nilp, .nilp => some true
 | .ptr, .nilp, .p _ _ => some false
 | .ptr, .p _ _, .nilp => some false
 | .sl, .nils, .nils => some true
 | .sl, .nils, .sl _ _ _ _ => some false
 | .sl, .sl _ _ _ _, .nils => some false
 | .mp, .nilm, .nilm => some true
 | .mp, .nilm, .m _ => some false
 | .mp, .m _, .nilm => some false
 | .fn, .nilf, .nilf => some true
 | .fn, .nilf, .fn _ _ _ => some false
 | .fn, .fn _ _ _, .nilf => some false
 | _, _, _ => none
theorem does_nil {op : BinOp} {t yt : TypeId} {x y : Operand} {k : TypeDesc} {n : NilKind} {a b m : MV} {r : Bool} (hi : Inv β M w) (ht : P.underlying t = some k) (hk : nilKind k = some n) (hx : Den β a (ρ x)) (hy : Den β b (ρ y)) (hr : nilR n a b = some r) (hm : eqM op r = some m) : Does P ⟨d, .binOp op t x y yt, ty, pos, af, gd⟩ ρ β M w m M := by
 generalize hp : ρ x = u at hx
 generalize hq : ρ y = u' at hy
 cases n <;> cases hx <;> cases hy <;> simp only [nilR, reduceCtorEq, Option.some.injEq] at hr <;> subst hr <;> (cases k <;> simp only [nilKind, reduceCtorEq, Option.some.injEq] at hk) <;>
  (refine does_eq hi hp hq (fun op => by cases op <;> rfl) ?_ (fun _ => rfl) (fun _ => rfl) hm; rw [equal_succ, Op.equalIn]; simp [run_underlying ht])
def unM (op : UnOp) (a : MV) : Option MV :=
 match op, a with
 | .not, .b r => some (.b (!r))
 | .neg, .i k n => some (.i k (wrapF k (0 - n)))
 | .xor, .i k n => some (.i k (bitsF .xor k (if k.signed then -1 else k.max) n))
 | _, _ => none
theorem does_un {op : UnOp} {t : TypeId} {x : Operand} {a m : MV} (hi : Inv β M w) (hx : Den β a (ρ x)) (hm : unM op a = some m) : Does P ⟨d, .unOp op t x, ty, pos, af, gd⟩ ρ β M w m M := by
 generalize hp : ρ x = u at hx
 cases op <;> cases hx <;> simp only [unM, Option.some.injEq, reduceCtorEq] at hm
 ·subst hm
  exact .pure hi (by rw [wrapF_eq]; simp [execOp, hp, Op.unary, Op.intArith]) (.i _ _)
 ·subst hm
  exact .pure hi (by unfold bitsF; rw [wrapF_eq]; simp [execOp, hp, Op.unary, Op.intBits]) (.i _ _)
 ·subst hm
  exact .pure hi (by simp [execOp, hp, Op.unary]) (.b _)
theorem does_convI {s t : TypeId} {x : Operand} {k k' : IntKind} {n : Int} {e : TypeDesc} (hi : Inv β M w) (hs : P.underlying s = some e) (ht : P.underlying t = some (.int k')) (hx : Den β (.i k n) (ρ x)) : Does P ⟨d, .convert s t x, ty, pos, af, gd⟩ ρ β M w (.i k' (wrapF k' n)) M := by
 generalize hp : ρ x = u at hx
 cases hx
 exact .pure hi (v := .int k' (k'.wrap n)) (by simp [execOp, hp, convert, run_underlying hs, run_underlying ht, Conv.intToInt]) (by rw [wrapF_eq]; exact .i _ _)
theorem does_field {s : TypeId} {x : Operand} {f o n : Nat} {fs : Array Field} {fd : Field} {l : List MV} {m : MV} {k : TypeDesc} (hi : Inv β M w) (hs : P.underlying s = some (.struct fs)) (hf : fs[f]? = some fd) (ho : fd.offset = o) (ht : P.underlying fd.type = some k) (hn : (P.info? fd.type).map (·.size) = some n)
  (hx : Den β (.ag l) (ρ x)) (hm : (bif k.isRow then some (.ag ((l.drop o).take n)) else l[o]?) = some m) : Does P ⟨d, .field s x f, ty, pos, af, gd⟩ ρ β M w m M := by
 generalize hp : ρ x = u at hx
 obtain ⟨vs, rfl, hl⟩ := hx.agInv
 subst ho
 cases hk : k.isRow with
 | false =>
  rw [hk] at hm
  simp only [cond_false] at hm
  obtain ⟨v, hv, hd⟩ := hl.2 _ _ hm
  have hv' : vs[fd.offset]? = some v := by simpa using hv
  have hagg : (isAgg fd.type).run P w = .ok false w := by
   cases k <;> first | (simp [isAgg, run_underlying ht]; done) | cases hk
  exact .pure hi (v := v) (by simp [execOp, hp, Instr.field, run_underlying hs, hf, asAgg, part, hagg, hv']) hd
 | true =>
  rw [hk] at hm
  simp only [cond_true, Option.some.injEq] at hm
  subst hm
  have hagg : (isAgg fd.type).run P w = .ok true w := by
   cases k <;> first | (simp [isAgg, run_underlying ht]; done) | cases hk
  cases hin : P.info? fd.type with
  | none => rw [hin] at hn; cases hn
  | some q =>
   rw [hin] at hn
   simp only [Option.map_some, Option.some.injEq] at hn
   refine .pure hi (v := .agg (vs.extract fd.offset (fd.offset + n))) (by simp [execOp, hp, Instr.field, run_underlying hs, hf, asAgg, part, hagg, sizeOf, typeInfo, hin, hn]) (DenL.agg ⟨?_, fun j y hj => ?_⟩)
   ·have h1 := hl.1
    simp only [Array.length_toList] at h1
    simp only [List.length_take, List.length_drop, Array.toList_extract, List.extract_eq_take_drop, h1, Array.length_toList, List.length_take, List.length_drop]
    omega
   ·rw [List.getElem?_take] at hj
    split at hj
    ·rename_i hlt
     rw [List.getElem?_drop] at hj
     obtain ⟨v, hv, hd⟩ := hl.2 _ _ hj
     refine ⟨v, ?_, hd⟩
     rw [Array.toList_extract, List.extract_eq_take_drop, List.getElem?_take, if_pos (by omega), List.getElem?_drop]
     exact hv
    ·cases hj
end
end Go.Proofs.YtpdcahaggacacaaDoor.Ev
namespace Go.Proofs.YtpdcahaggacacaaDoor.Ev
open Go
variable {P : Program}
def isU : MV → Bool
 | .u => true
 | _ => false
theorem isU_ne {m : MV} (h : isU m = false) : m = .u → False := fun e => by subst e; cases h
def splice (cells : List MV) (off : Nat) (l : List MV) : List MV := cells.take off ++ (l ++ cells.drop (off + l.length))
noncomputable def fillM (parts : List (Nat × Nat × MV)) : List MV → Option (List MV) :=
 List.rec (fun cells => some cells) (fun p _ ih cells =>
  bif p.2.2.cells.length == p.2.1 && Nat.ble (p.1 + p.2.2.cells.length) cells.length && !isU p.2.2 then ih (splice cells p.1 p.2.2.cells) else none) parts
theorem fillM_cons (o s : Nat) (m : MV) (r : List (Nat × Nat × MV)) (cells : List MV) : fillM ((o, s, m) :: r) cells = bif m.cells.length == s && Nat.ble (o + m.cells.length) cells.length && !isU m then fillM r (splice cells o m.cells) else none := rfl
def PartsOk (β : BM) (place : Nat → Option (Nat × Nat)) : List (Nat × Nat × MV) → List (Nat × Value) → Prop
 | [], [] => True
 | (o, s, m) :: r, (i, v) :: q => place i = some (o, s) ∧ Den β m v ∧ PartsOk β place r q
 | _, _ => False
theorem foldl_put : ∀ (l : List Value) (off k : Nat) (arr : Array Value), (l.zipIdx k).foldl (fun cs (x : Value × Nat) => cs.setIfInBounds (off + x.2) x.1) arr = putCells arr (off + k) l
 | [], off, k, arr => rfl
 | v :: r, off, k, arr => by
  rw [List.zipIdx_cons, List.foldl_cons, foldl_put r off (k + 1)]
  rfl
theorem splice_den {β : BM} {cells l : List MV} {arr : Array Value} {vs : List Value} {off : Nat} (h : DenL β cells arr.toList) (hl : DenL β l vs) (ho : off + l.length ≤ cells.length) : DenL β (splice cells off l) (putCells arr off vs).toList := by
 have hsz : arr.size = cells.length := by rw [h.1]; simp
 refine ⟨?_, fun j x hj => ?_⟩
 ·show (splice cells off l).length = (putCells arr off vs).size
  rw [putCells_size, hsz]
  simp only [splice, List.length_append, List.length_take, List.length_drop]
  omega
 ·rw [Array.getElem?_toList, putCells_get _ _ _ _ (by rw [← hl.1, hsz]; exact ho)]
  unfold splice at hj
  rw [← hl.1]
  by_cases h1 : j < off
  ·rw [List.getElem?_append_left (by simp; omega), List.getElem?_take, if_pos h1] at hj
   rw [if_neg (by omega)]
   obtain ⟨v, hv, hd⟩ := h.2 j x hj
   exact ⟨v, by simpa using hv, hd⟩
  ·rw [List.getElem?_append_right (by simp; omega)] at hj
   have e : j - (cells.take off).length = j - off := by simp; omega
   rw [e] at hj
   by_cases h2 : j < off + l.length
   ·rw [List.getElem?_append_left (by omega)] at hj
    rw [if_pos (by omega)]
    exact hl.2 _ _ hj
   ·rw [List.getElem?_append_right (by omega), List.getElem?_drop] at hj
    rw [if_neg (by omega)]
    rw [show off + l.length + (j - off - l.length) = j from by omega] at hj
    obtain ⟨v, hv, hd⟩ := h.2 j x hj
    exact ⟨v, by simpa using hv, hd⟩
theorem fill_sound {β : BM} {place : Nat → Option (Nat × Nat)} : ∀ {parts : List (Nat × Nat × MV)} {ps : List (Nat × Value)} {cells res : List MV} {arr : Array Value}, PartsOk β place parts ps → DenL β cells arr.toList → fillM parts cells = some res →
  ∃ arr', Instr.fill place arr ps = some arr' ∧ DenL β res arr'.toList
 | [], [], cells, res, arr, _, hd, h => by
  injection h with h
  subst h
  exact ⟨arr, rfl, hd⟩
 | [], _ :: _, _, _, _, h, _, _ => h.elim
 | _ :: _, [], _, _, _, h, _, _ => h.elim
 | (o, s, m) :: r, (i, v) :: q, cells, res, arr, ⟨hp, hm, hr⟩, hd, h => by
  rw [fillM_cons] at h
  cases hc : (m.cells.length == s && Nat.ble (o + m.cells.length) cells.length && !isU m) with
  | false => rw [hc] at h; cases h
  | true =>
   rw [hc] at h
   simp only [Bool.and_eq_true, beq_iff_eq, Nat.ble_eq, Bool.not_eq_eq_eq_not, Bool.not_true] at hc
   obtain ⟨⟨h1, h2⟩, h3⟩ := hc
   have hl := hm.cells (isU_ne h3)
   obtain ⟨arr', ha, hda⟩ := fill_sound hr (splice_den hd hl h2) h
   refine ⟨arr', ?_, hda⟩
   have hvs : v.cells.size = s := by rw [← h1, hl.1]; simp
   have harr : arr.size = cells.length := by rw [hd.1]; simp
   rw [Instr.fill]
   simp only [hp]
   have hfold : v.cells.zipIdx.foldl (fun cs (x : Value × Nat) => cs.setIfInBounds (o + x.2) x.1) arr = putCells arr o v.cells.toList := by
    rw [← Array.foldl_toList]
    have := foldl_put v.cells.toList o 0 arr
    simp only [Nat.add_zero] at this
    rw [← this, Array.toList_zipIdx]
   rw [if_neg (by simp [hvs, harr]; omega)]
   exact (congrArg (fun z => Instr.fill place z q) hfold).trans ha
noncomputable def zrow (zs : List MV) (n : Nat) : List MV := Nat.rec [] (fun _ ih => zs ++ ih) n
theorem zrow_zero (zs : List MV) : zrow zs 0 = [] := rfl
theorem zrow_succ (zs : List MV) (n : Nat) : zrow zs (n + 1) = zs ++ zrow zs n := rfl
theorem zrow_len (zs : List MV) : ∀ n, (zrow zs n).length = n * zs.length
 | 0 => by rw [zrow_zero]; simp
 | n + 1 => by rw [zrow_succ, List.length_append, zrow_len zs n, Nat.succ_mul, Nat.add_comm]
theorem zrow_get (zs : List MV) : ∀ (n j : Nat) (x : MV), (zrow zs n)[j]? = some x → j < n * zs.length ∧ zs[j % zs.length]? = some x
 | 0, j, x, h => by rw [zrow_zero] at h; simp at h
 | n + 1, j, x, h => by
  have hlt : j < (n + 1) * zs.length := by rw [← zrow_len zs (n + 1)]; exact (List.getElem?_eq_some_iff.1 h).1
  refine ⟨hlt, ?_⟩
  rw [zrow_succ] at h
  by_cases h1 : j < zs.length
  ·rw [List.getElem?_append_left h1] at h
   rw [Nat.mod_eq_of_lt h1]; exact h
  ·rw [List.getElem?_append_right (by omega)] at h
   have := (zrow_get zs n _ x h).2
   rw [← Nat.mod_eq_sub_mod (by omega)] at this
   exact this
theorem zrow_den {β : BM} {zs : List MV} {z : Array Value} (h : DenL β zs z.toList) (n : Nat) : DenL β (zrow zs n) (madeCells z (n * z.size)).toList := by
 have hz : zs.length = z.size := by rw [h.1]; simp
 refine ⟨by rw [zrow_len, hz, Array.length_toList, size_madeCells], fun j x hj => ?_⟩
 obtain ⟨h1, h2⟩ := zrow_get zs n j x hj
 obtain ⟨v, hv, hd⟩ := h.2 _ _ h2
 refine ⟨v, ?_, hd⟩
 rw [hz] at h1 hv
 have hv' : z[j % z.size]? = some v := by simpa using hv
 rw [Array.getElem?_toList]
 unfold madeCells
 rw [Array.getElem?_map, Array.getElem?_range, if_pos h1]
 simp [getElem!_def, hv']
section
variable {ρ : Operand → Value} {β : BM} {M : MH} {w : World} {d : Option Tmp} {ty : TypeId} {pos : String} {af : Array Edge} {gd : Option (Nat × Bool)}
theorem does_build {t : TypeId} {z : Value} {zs res : List MV} {ps : Array (Nat × Operand)} {parts : List (Nat × Nat × MV)} {place : Nat → Option (Nat × Nat)} (hi : Inv β M w)
  (hb : ∀ qs, P.built t qs = Instr.fill place z.cells qs) (hz : DenL β zs z.cells.toList) (hp : PartsOk β place parts (ps.toList.map fun x => (x.1, ρ x.2))) (hr : fillM parts zs = some res) :
  Does P ⟨d, .build t ps, ty, pos, af, gd⟩ ρ β M w (.ag res) M := by
 obtain ⟨arr', ha, hd⟩ := fill_sound hp hz hr
 refine .pure hi (v := .agg arr') ?_ (DenL.agg hd)
 have := run_build (P := P) w t (ps.map fun x => (x.1, ρ x.2)) arr' (by rw [hb]; simpa using ha)
 simp only [execOp, Sem.run_bind, this, Result.andThen_ok, Sem.run_pure]
theorem does_buildSlice {t e : TypeId} {i : TypeInfo} {z : Value} {zs res : List MV} {n : Nat} {ps : Array (Nat × Operand)} {parts : List (Nat × Nat × MV)} (hi : Inv β M w) (hlo : M.lo ≤ M.n)
  (ht : P.underlying t = some (.slice e)) (h1 : P.info? e = some i) (h2 : i.zero = some z) (h3 : i.size = z.cells.size) (h4 : n * i.size ≤ 16777216) (hz : DenL β zs z.cells.toList)
  (hp : PartsOk β (fun j => some (j * i.size, i.size)) parts (ps.toList.map fun x => (x.1, ρ x.2))) (hr : fillM parts (zrow zs n) = some res) :
  Does P ⟨d, .buildSlice t n ps, ty, pos, af, gd⟩ ρ β M w (.sl M.n 0 n 0) (M.push (.cs false i.size (ofL res 0))) := by
 have hzr : DenL β (zrow zs n) (madeCells z.cells (n * i.size)).toList := by rw [h3]; exact zrow_den hz n
 obtain ⟨arr', ha, hd⟩ := fill_sound hp hzr hr
 have hlen : ∀ {parts : List (Nat × Nat × MV)} {a b : List MV}, fillM parts a = some b → b.length = a.length := by
  intro parts
  induction parts with
  | nil => intro a b h; injection h with h; subst h; rfl
  | cons p r ih =>
   obtain ⟨o, s, m⟩ := p
   intro a b h
   rw [fillM_cons] at h
   cases hc : (m.cells.length == s && Nat.ble (o + m.cells.length) a.length && !isU m) with
   | false => rw [hc] at h; cases h
   | true =>
    rw [hc] at h
    simp only [Bool.and_eq_true, beq_iff_eq, Nat.ble_eq, Bool.not_eq_eq_eq_not, Bool.not_true] at hc
    rw [ih h]
    simp only [splice, List.length_append, List.length_take, List.length_drop]
    omega
 have hsz : arr'.size = n * i.size := by
  have h5 := hd.1
  rw [hlen hr, hzr.1, Array.length_toList, Array.length_toList, size_madeCells] at h5
  exact h5.symm
 obtain ⟨β', hs, hb⟩ := new_cells hi hlo arr' e (0, 0) n i.size (thawed0 _ _) (by rw [hsz]; exact Nat.le_refl _) res ⟨_, hd, fun j v hv => by simpa using hv⟩
 refine .val (v := .slice (some ⟨w.heap.size, 0, none⟩) n (n - 0)) ?_ (.sl _ _ _ _ _ _ hb (by simp) fun _ => rfl) hs
 have hne : ¬ n * i.size > 2 ^ 24 := by omega
 have ha' : Instr.fill (fun j => some (j * i.size, i.size)) (madeCells z.cells (n * i.size)) (ps.map fun x => (x.1, ρ x.2)).toList = some arr' := by simpa using ha
 unfold madeCells at ha' ha
 have hsem : (Instr.buildSlice t n (ps.map fun x => (x.1, ρ x.2))).run P w = .ok (.slice (some ⟨w.heap.size, 0, none⟩) n n) (w.alloc (.cells arr' e)) := by
  unfold Instr.buildSlice
  by_cases h0 : n * i.size = 0
  ·rw [h0] at ha
   have e0 : ∀ f : Nat → Value, Array.map f (Array.range 0) = #[] := fun f => by simp [Array.range_zero']
   rw [e0] at ha
   simp [run_underlying ht, sizeOf, typeInfo, h1, h0, e0, ha, newRow]
  ·simp [run_underlying ht, sizeOf, typeInfo, zeroValue, h1, h2, h0, hne, ha, newRow]
 simp only [execOp, Sem.run_bind, hsem, Result.andThen_ok, Sem.run_pure, Nat.sub_zero]
theorem does_makeSlice {t e : TypeId} {i : TypeInfo} {z : Value} {zs : List MV} {x y : Operand} {k k' : IntKind} {l c : Int} (hi : Inv β M w) (hlo : M.lo ≤ M.n)
  (ht : P.underlying t = some (.slice e)) (h1 : P.info? e = some i) (h2 : i.zero = some z) (h3 : i.size = z.cells.size) (hz : DenL β zs z.cells.toList) (hx : Den β (.i k l) (ρ x)) (hy : Den β (.i k' c) (ρ y)) (h0 : 0 ≤ l) (hlc : l ≤ c) (hby : (i.bytes : Int) * c ≤ 281474976710656) (h63 : c ≤ 9223372036854775807) :
  Does P ⟨d, .makeSlice t x y, ty, pos, af, gd⟩ ρ β M w (.sl M.n 0 l.toNat 0) (M.push (.cs false i.size (ofL (zrow zs c.toNat) 0))) := by
 generalize hp : ρ x = u at hx
 generalize hq : ρ y = u' at hy
 cases hx
 cases hy
 have hr := run_make (P := P) w t e i z ht h1 h2 k k' l c h0 hlc hby h63
 obtain ⟨β', hs, hb⟩ := new_cells hi hlo (madeCells z.cells (c.toNat * i.size)) e (0, 0) c.toNat i.size (thawed0 _ _) (by rw [size_madeCells]; exact Nat.le_refl _) (zrow zs c.toNat) ⟨(madeCells z.cells (c.toNat * i.size)).toList, by rw [h3]; exact zrow_den hz c.toNat, fun j v hv => by simpa using hv⟩
 exact .val (v := .slice (some ⟨w.heap.size, 0, none⟩) l.toNat (c.toNat - 0)) (by simp [execOp, hp, hq, hr]) (.sl _ _ _ _ _ _ hb (by show 0 + l.toNat ≤ c.toNat; omega) fun _ => rfl) hs
theorem does_makeMap {t : TypeId} (hi : Inv β M w) (hlo : M.lo ≤ M.n) : Does P ⟨d, .makeMap t none, ty, pos, af, gd⟩ ρ β M w (.m M.n) (M.push (.mp [] 0)) := by
 obtain ⟨β', hs, hb⟩ := Step.new hi (.map #[] 0) (.mp [] 0) 0 hlo rfl fun β' _ => ⟨#[], heap_alloc_new w _, rfl, fun j e h => by simp at h⟩
 exact .val (v := .map (some w.heap.size)) (by simp [execOp, Instr.makeMap]) (.m _ _ hb) hs
theorem bound_run {k : IntKind} {i : Int} {y : Nat} {c : BoundsCode} (h0 : 0 ≤ i) (h1 : i ≤ y) (w : World) : (Instr.sliceBound (.int k i) y c).run P w = .ok i.toNat w := by
 simp [Instr.sliceBound, asIntOf, h0, h1]
def Bd (d : Nat) (n : Nat) : Option Value → Prop
 | none => n = d
 | some v => ∃ k, v = .int k (n : Int)
theorem slice_run {t e : TypeId} {i : TypeInfo} (ht : P.underlying t = some (.slice e)) (h1 : P.info? e = some i) (A : Option Addr) (len cap L H : Nat) {lov hiv : Option Value} (hl : Bd 0 L lov) (hh : Bd len H hiv) (h2 : L ≤ H) (h3 : H ≤ cap) (w : World) :
  (Instr.sliceAt t (.slice A len cap) lov hiv none).run P w = .ok (.slice (if cap = L then A else A.map (·.add (L * i.size))) (H - L) (cap - L)) w := by
 have b1 : ∀ (k : IntKind) (c : BoundsCode) (w : World), (Instr.sliceBound (.int k (H : Int)) cap c).run P w = .ok H w := fun k c w => by rw [bound_run (by omega) (by omega)]; simp
 have b2 : ∀ (k : IntKind) (c : BoundsCode) (w : World), (Instr.sliceBound (.int k (L : Int)) H c).run P w = .ok L w := fun k c w => by rw [bound_run (by omega) (by omega)]; simp
 cases lov with
 | none =>
  have : L = 0 := hl
  subst this
  cases hiv with
  | none =>
   have : H = len := hh
   subst this
   simp [Instr.sliceAt, Instr.slice, Instr.sliceBounds, run_underlying ht, sizeOf, typeInfo, h1]
  | some v =>
   obtain ⟨k, rfl⟩ := hh
   simp [Instr.sliceAt, Instr.slice, Instr.sliceBounds, run_underlying ht, sizeOf, typeInfo, h1, b1]
 | some u =>
  obtain ⟨k', rfl⟩ := hl
  cases hiv with
  | none =>
   have : H = len := hh
   subst this
   simp [Instr.sliceAt, Instr.slice, Instr.sliceBounds, run_underlying ht, sizeOf, typeInfo, h1, b2]
  | some v =>
   obtain ⟨k, rfl⟩ := hh
   simp [Instr.sliceAt, Instr.slice, Instr.sliceBounds, run_underlying ht, sizeOf, typeInfo, h1, b1, b2]
def DenO (β : BM) : Option MV → Option Value → Prop
 | none, none => True
 | some x, some v => Den β x v
 | _, _ => False
def bdM (d : Nat) : Option MV → Option Nat
 | none => some d
 | some (.i _ (.ofNat n)) => some n
 | _ => none
theorem bd_of {β : BM} {d n : Nat} {x : Option MV} {v : Option Value} (h : DenO β x v) (hb : bdM d x = some n) : Bd d n v := by
 cases x with
 | none =>
  cases v with
  | none => injection hb with hb; exact hb.symm
  | some v => exact h.elim
 | some m =>
  cases v with
  | none => exact h.elim
  | some v =>
   have h' : Den β m v := h
   cases h' with
   | i k z =>
    cases z with
    | ofNat q => injection hb with hb; subst hb; exact ⟨k, rfl⟩
    | negSucc q => cases hb
   | _ => cases hb
def cutM (sz : Nat) (x : MV) (lo hi : Option MV) : Option MV :=
 match x with
 | .nils => match bdM 0 lo, bdM 0 hi with
  | some 0, some 0 => some .nils
  | _, _ => none
 | .sl id off len e => match bdM 0 lo, bdM len hi with
  | some l, some h => bif Nat.ble l h && Nat.ble h len then some (.sl id (off + l * sz) (h - l) (e + l)) else none
  | _, _ => none
 | _ => none
theorem does_slice {t e : TypeId} {i : TypeInfo} {x : Operand} {lo hi' : Option Operand} {l h : Option MV} {a m : MV} (hi : Inv β M w) (ht : P.underlying t = some (.slice e)) (h1 : P.info? e = some i) (hx : Den β a (ρ x)) (hl : DenO β l (lo.map ρ)) (hh : DenO β h (hi'.map ρ)) (hm : cutM i.size a l h = some m) :
  Does P ⟨d, .slice t x lo hi' none, ty, pos, af, gd⟩ ρ β M w m M := by
 generalize hp : ρ x = u at hx
 cases hx <;> simp only [cutM, reduceCtorEq] at hm
 case nils =>
  cases e1 : bdM 0 l with
  | none => rw [e1] at hm; cases hm
  | some L =>
   cases e2 : bdM 0 h with
   | none => rw [e1, e2] at hm; cases L <;> cases hm
   | some H =>
    rw [e1, e2] at hm
    have hL := bd_of hl e1
    have hH := bd_of hh e2
    cases L with
    | succ L => cases hm
    | zero =>
     cases H with
     | succ H => cases hm
     | zero =>
      injection hm with hm
      subst hm
      have := slice_run ht h1 none 0 0 0 0 hL hH (Nat.le_refl _) (Nat.le_refl _) w
      exact .pure hi (v := .slice none 0 0) (by simp [execOp, hp, this]) .nils
 case sl id off len ed B ad hB hc ha =>
  cases e1 : bdM 0 l with
  | none => rw [e1] at hm; cases hm
  | some L =>
   cases e2 : bdM len h with
   | none => rw [e1, e2] at hm; cases hm
   | some H =>
    rw [e1, e2] at hm
    simp only at hm
    cases e3 : (Nat.ble L H && Nat.ble H len) with
    | false => rw [e3] at hm; cases hm
    | true =>
     rw [e3] at hm
     simp only [cond_true, Option.some.injEq] at hm
     subst hm
     simp only [Bool.and_eq_true, Nat.ble_eq] at e3
     obtain ⟨h2, h3⟩ := e3
     have := slice_run ht h1 (some ad) len (B.cap - ed) L H (bd_of hl e1) (bd_of hh e2) h2 (by omega) w
     by_cases hcap : B.cap - ed = L
     ·rw [if_pos hcap] at this
      refine .pure hi (v := .slice (some ad) (H - L) (B.cap - (ed + L))) (by simp [execOp, hp, this]; omega) (.sl _ _ _ _ _ _ hB (by omega) fun h => by omega)
     ·rw [if_neg hcap] at this
      refine .pure hi (v := .slice (some (ad.add (L * i.size))) (H - L) (B.cap - (ed + L))) (by simp [execOp, hp, this]; omega) (.sl _ _ _ _ _ _ hB (by omega) fun h => ?_)
      rw [ha (by omega), Addr.add_lit, Nat.add_assoc]
end
end Go.Proofs.YtpdcahaggacacaaDoor.Ev
namespace Go.Proofs.YtpdcahaggacacaaDoor.Ev
open Go
variable {P : Program}
noncomputable def srcM (M : MH) (sz : Nat) (x : MV) : Option (Nat × List MV) :=
 match x with
 | .nils => some (0, [])
 | .sl id off n _ => match n with
  | 0 => some (0, [])
  | m + 1 => match M.get id with
   | some (.cs _ _ c) => match getN c ((m + 1) * sz) off with
    | some l => some (m + 1, l)
    | none => none
   | _ => none
 | _ => none
def allOne (l : List MV) : Bool := l.all (·.one)
noncomputable def appM (M : MH) (sz bytes : Nat) (dst x : MV) : Option (MV × MH) :=
 match srcM M sz x with
 | none => none
 | some (n, news) =>
  bif allOne news then
   match n with
   | 0 => match dst with
    | .nils => some (.nils, M)
    | .sl id off len e => some (.sl id off len e, M)
    | _ => none
   | k + 1 => match dst with
    | .nils => bif Nat.ble ((k + 1) * bytes) 140737488355328 && Nat.ble (k + 1) 9223372036854775807 && Nat.ble M.lo M.n then some (.sl M.n 0 (k + 1) 0, M.push (.cs false sz (ofL news 0))) else none
    | .sl id off len e => bif Nat.ble ((len + (k + 1)) * bytes) 140737488355328 && Nat.ble (len + (k + 1)) 9223372036854775807 && Nat.ble M.lo id && Nat.blt id M.n && off == e * sz then
      match M.get id with
      | some (.cs false s c) => bif s == sz then match getN c (len * sz) off with
       | some olds => some (.sl M.n 0 (len + (k + 1)) 0, (M.set id none).push (.cs false sz (appC c (len * sz) off olds news)))
       | none => none
       else none
      | _ => none
     else none
    | _ => none
  else none
theorem allOne_den {β : BM} {l : List MV} {vs : List Value} (h : DenL β l vs) (ho : allOne l = true) : ∀ u ∈ vs, u.oneCell' = true := by
 intro u hu
 obtain ⟨j, hj, rfl⟩ := List.mem_iff_getElem.1 hu
 have hj2 : j < l.length := by rw [h.1]; exact hj
 obtain ⟨v, hv, hd⟩ := h.2 j l[j] (List.getElem?_eq_getElem hj2)
 rw [List.getElem?_eq_getElem hj] at hv
 injection hv with hv
 rw [hv]
 exact hd.oneCell (List.all_eq_true.1 ho _ (List.getElem_mem hj2))
theorem src_of {β : BM} {M : MH} {w : World} (hi : Inv β M w) {sz : Nat} {x : MV} {v : Value} {n : Nat} {l : List MV} {tx e : TypeId} (hk : P.underlying tx = some (.slice e)) (hx : Den β x v) (hs : srcM M sz x = some (n, l)) (ho : allOne l = true) : ∃ news, DenL β l news ∧ Src P sz tx v n news w := by
 cases hx <;> simp only [srcM, reduceCtorEq] at hs
 case nils =>
  injection hs with hs
  injection hs with h1 h2
  subst h1 h2
  exact ⟨[], .nil β, Src.ofNil w hk 0⟩
 case sl id off m ed B a hB hc ha =>
  cases m with
  | zero =>
   injection hs with hs
   injection hs with h1 h2
   subst h1 h2
   exact ⟨[], .nil β, Src.ofSlice w hk a 0 _ [] (by simp) (fun j u h => by simp at h) (fun u h => by cases h)⟩
  | succ m =>
   simp only at hs
   cases hg : M.get id with
   | none => rw [hg] at hs; cases hs
   | some o =>
    cases o with
    | mp es ck => rw [hg] at hs; cases hs
    | cs ro s c =>
     rw [hg] at hs
     simp only at hs
     cases hl : getN c ((m + 1) * sz) off with
     | none => rw [hl] at hs; cases hs
     | some r =>
      rw [hl] at hs
      injection hs with hs
      injection hs with h1 h2
      subst h1 h2
      obtain ⟨B', vs, hB', hd, hlen, hr⟩ := read_list hi hg hl
      rw [hB] at hB'
      injection hB' with hB'
      subst hB'
      have ha' := ha (by omega)
      subst ha'
      refine ⟨vs, hd, Src.ofSlice w hk _ (m + 1) _ vs hlen (fun j u hj => ?_) (allOne_den hd ho)⟩
      rw [Addr.add_lit]
      exact hr j u hj
section
variable {ρ : Operand → Value} {β : BM} {M M' : MH} {w : World} {d : Option Tmp} {ty : TypeId} {pos : String} {af : Array Edge} {gd : Option (Nat × Bool)}
theorem does_append {t tx e e' : TypeId} {i : TypeInfo} {z : Value} {x y : Operand} {a b m : MV} (hi : Inv β M w) (ht : P.underlying t = some (.slice e)) (h1 : P.info? e = some i) (h2 : i.zero = some z) (h3 : i.size = z.cells.size) (hk : P.underlying tx = some (.slice e'))
  (hx : Den β a (ρ x)) (hy : Den β b (ρ y)) (hm : appM M i.size i.bytes a b = some (m, M')) :
  Does P ⟨d, .call { callee := .builtin .append, args := #[x, y], argTypes := #[t, tx] }, ty, pos, af, gd⟩ ρ β M w m M' := by
 have hexec : ∀ (w w' : World) (v : Value), (Builtin.append_ #[t, tx] ty #[ρ x, ρ y]).run P w = .ok v w' → (execOp ρ ⟨d, .call { callee := .builtin .append, args := #[x, y], argTypes := #[t, tx] }, ty, pos, af, gd⟩).run P w = .ok (.value v) w' := by
  intro w w' v h
  simp [execOp, resolve, invoke, builtin, h]
 unfold appM at hm
 cases hsrc : srcM M i.size b with
 | none => rw [hsrc] at hm; cases hm
 | some nl =>
  obtain ⟨n, news⟩ := nl
  rw [hsrc] at hm
  simp only at hm
  cases hone : allOne news with
  | false => rw [hone] at hm; cases hm
  | true =>
   rw [hone] at hm
   simp only [cond_true] at hm
   obtain ⟨nv, hdn, hS⟩ := src_of hi hk hy hsrc hone
   cases n with
   | zero =>
    have hn0 : nv = [] := List.length_eq_zero_iff.1 (by rw [hS.newsLen]; simp)
    subst hn0
    generalize hp : ρ x = u at hx
    cases hx <;> simp only [reduceCtorEq, Option.some.injEq, Prod.mk.injEq] at hm
    case nils =>
     obtain ⟨rfl, rfl⟩ := hm
     have := run_append_nothing (P := P) w t tx ty e i ht h1 none 0 0 (Nat.le_refl _) (ρ y) hS
     exact .pure hi (hexec _ _ _ (by rw [hp]; exact this)) .nils
    case sl id off len ed B ad hB hc ha =>
     obtain ⟨rfl, rfl⟩ := hm
     have := run_append_nothing (P := P) w t tx ty e i ht h1 (some ad) len (B.cap - ed) (by omega) (ρ y) hS
     exact .pure hi (hexec _ _ _ (by rw [hp]; exact this)) (.sl _ _ _ _ _ _ hB hc ha)
   | succ k =>
    simp only at hm
    generalize hp : ρ x = u at hx
    cases hx <;> simp only [reduceCtorEq] at hm
    case nils =>
     cases hb : (Nat.ble ((k + 1) * i.bytes) 140737488355328 && Nat.ble (k + 1) 9223372036854775807 && Nat.ble M.lo M.n) with
     | false => rw [hb] at hm; cases hm
     | true =>
      rw [hb] at hm
      simp only [cond_true, Option.some.injEq, Prod.mk.injEq] at hm
      obtain ⟨rfl, rfl⟩ := hm
      simp only [Bool.and_eq_true, Nat.ble_eq] at hb
      obtain ⟨⟨hb1, hb2⟩, hb3⟩ := hb
      have hr := run_append_grow_src (P := P) w t tx ty e i z ht h1 h2 none 0 0 [] (by simpa using run_firstCells_none (P := P) w.drew i.size 0 0 0) (ρ y) (k + 1) nv hS (by omega) (by omega) (growslice_fits (by omega) (by simpa using hb1))
      simp only [Nat.zero_add, List.nil_append] at hr
      have hge := grownCap_ge w (k + 1) 0 e
      obtain ⟨β', hs, hb⟩ := new_cells (Step.drew hi).inv (by exact hb3) (nv.toArray ++ Builtin.zeroCells z.cells (grownCap w (k + 1) 0 e - (k + 1))) e (0, 0) (grownCap w (k + 1) 0 e) i.size (thawed0 _ _) (by
       simp only [Array.size_append, List.size_toArray, size_zeroCells, hS.newsLen, ← h3, ← Nat.add_mul]
       exact Nat.mul_le_mul_right _ (by omega)) news ⟨nv, hdn, fun j v hj => by
       have hlt := (List.getElem?_eq_some_iff.1 hj).1
       rw [Array.getElem?_append_left (by simpa using hlt)]
       simpa using hj⟩
      exact .val (hexec _ _ _ (by rw [hp]; exact hr)) (.sl _ _ _ _ _ _ hb (by simpa using hge) fun _ => rfl) ((Step.drew hi).trans hs)
    case sl id off len ed B ad hB hc ha =>
     cases hb : (Nat.ble ((len + (k + 1)) * i.bytes) 140737488355328 && Nat.ble (len + (k + 1)) 9223372036854775807 && Nat.ble M.lo id && Nat.blt id M.n && off == ed * i.size) with
     | false => rw [hb] at hm; cases hm
     | true =>
      rw [hb] at hm
      simp only [cond_true] at hm
      simp only [Bool.and_eq_true, Nat.ble_eq, Nat.blt_eq, beq_iff_eq] at hb
      obtain ⟨⟨⟨⟨hb1, hb2⟩, hb3⟩, hb4⟩, hoff⟩ := hb
      cases hg : M.get id with
      | none => rw [hg] at hm; cases hm
      | some o =>
       cases o with
       | mp es ck => rw [hg] at hm; cases hm
       | cs ro s c =>
        cases ro with
        | true => rw [hg] at hm; cases hm
        | false =>
         rw [hg] at hm
         simp only at hm
         cases hsz : (s == i.size) with
         | false => rw [hsz] at hm; cases hm
         | true =>
          rw [hsz] at hm
          simp only [cond_true] at hm
          have hsz' : s = i.size := by simpa using hsz
          subst hsz'
          cases hl : getN c (len * i.size) off with
          | none => rw [hl] at hm; cases hm
          | some olds =>
           rw [hl] at hm
           simp only [Option.some.injEq, Prod.mk.injEq] at hm
           obtain ⟨rfl, rfl⟩ := hm
           obtain ⟨B', ov, hB', hdo, holen, hor⟩ := read_list hi hg hl
           rw [hB] at hB'
           injection hB' with hB'
           subst hB'
           have hdon := hdo.append hdn
           by_cases hroom : len + (k + 1) ≤ B.cap - ed
           ·-- in place
            have ha' := ha (by omega)
            subst ha'
            obtain ⟨B', hB', hO⟩ := hi.obj id _ hg
            rw [hB] at hB'
            injection hB' with hB'
            subst hB'
            obtain ⟨arr, tt, fr, o1, o2, o3, o4⟩ := hO
            have hspace : B.off + off + len * i.size + nv.length ≤ arr.size := by
             rw [hS.newsLen, hoff]
             have h5 : (ed + len + (k + 1)) * i.size ≤ B.cap * i.size := Nat.mul_le_mul_right _ (by omega)
             rw [Nat.add_mul, Nat.add_mul] at h5
             omega
            have hcell : ∀ (j : Nat) (hj : j < nv.length), w.cell? ⟨B.blk, B.off + off + len * i.size + j, none⟩ = some (arr[B.off + off + len * i.size + j]'(by omega)) := fun j hj => by
             simp only [World.cell?, o1]
             simp [show B.off + off + len * i.size + j < arr.size by omega]
            have hr := run_append_room_src (P := P) w t tx ty e i ht h1 B.blk (B.off + off) len (B.cap - ed) (ρ y) (k + 1) nv hS hroom (fun j hj => by rw [hcell j hj]; rfl) (fun j hj => thawed o1 o2 (by omega))
            rw [setCells_blk nv o1] at hr
            have hbl : B.blk < w.heap.size := (Array.getElem?_eq_some_iff.1 o1).1
            obtain ⟨β', hs, hb⟩ := Step.moved hi id (.cs false i.size c) (.cs false i.size (appC c (len * i.size) off olds news)) B ⟨B.blk, B.off + off, B.cap - ed⟩ hg rfl rfl hB hb3 hb4 rfl (.cells (putCells arr (B.off + off + len * i.size) nv) tt fr) (fun β' hle => by
             refine ⟨putCells arr (B.off + off + len * i.size) nv, tt, fr, by simp [hbl], by rw [putCells_size]; exact o2, ?_, fun j x hx => ?_⟩
             ·rw [putCells_size]
              show B.off + off + (B.cap - ed) * i.size ≤ arr.size
              have h5 : ed * i.size + (B.cap - ed) * i.size ≤ B.cap * i.size := by
               rw [← Nat.add_mul]
               exact Nat.mul_le_mul_right _ (by omega)
              omega
             ·rw [appC_get hl] at hx
              obtain ⟨v, hv, hd⟩ := hdon.2 j x hx
              refine ⟨v, ?_, hd.mono hle⟩
              show (putCells arr (B.off + off + len * i.size) nv)[B.off + off + j]? = some v
              rw [putCells_get _ _ _ _ hspace]
              by_cases hj : j < ov.length
              ·rw [List.getElem?_append_left hj] at hv
               rw [if_neg (by omega)]
               have h6 := hor j v hv
               simp only [World.cell?, o1] at h6
               simpa using h6
              ·rw [List.getElem?_append_right (by omega)] at hv
               have h7 := (List.getElem?_eq_some_iff.1 hv).1
               rw [if_pos (by omega)]
               rw [show B.off + off + j - (B.off + off + len * i.size) = j - ov.length from by omega]
               exact hv)
            refine .val (hexec _ _ _ (by rw [hp]; exact hr)) ?_ hs
            have := Den.sl (β := β') M.n 0 (len + (k + 1)) 0 ⟨B.blk, B.off + off, B.cap - ed⟩ ⟨B.blk, B.off + off, none⟩ hb (by show 0 + (len + (k + 1)) ≤ B.cap - ed; omega) (fun _ => rfl)
            exact this
           ·have holdrun : (Builtin.firstCells i.size len (.slice (some ad) len (B.cap - ed))).run P w.drew = .ok ov.toArray w.drew := by
             refine run_firstCells_some (P := P) w.drew i.size len ad len _ ov holen fun j v hj => ?_
             have hlt := (List.getElem?_eq_some_iff.1 hj).1
             have hlen0 : 0 < len := by
              rcases Nat.eq_zero_or_pos len with h0 | h0
              ·subst h0; simp at holen; subst holen; simp at hlt
              ·exact h0
             rw [ha (by omega), Addr.add_lit]
             exact hor j v hj
            have hr := run_append_grow_src (P := P) w t tx ty e i z ht h1 h2 (some ad) len (B.cap - ed) ov holdrun (ρ y) (k + 1) nv hS (by omega) (by omega) (growslice_fits (by omega) hb1)
            have hge := grownCap_ge w (len + (k + 1)) (B.cap - ed) e
            have hkill : Step β β M (M.set id none) w w.drew := by
             have h8 := Step.drew hi
             refine ⟨h8.inv.kill id hg rfl, .refl β, Nat.le_refl _, rfl, rfl, rfl, fun _ _ _ => rfl, fun b ⟨j, o', C, hj, hr2, hC, hb⟩ => .inl ?_, Nat.le_refl _, rfl, fun j hj => ?_, fun j hj hn => ?_, fun _ _ => rfl, fun j o' hj _ => ?_⟩
             ·rw [MH.get_set] at hj
              split at hj
              ·cases hj
              ·exact ⟨j, o', C, hj, hr2, hC, hb⟩
             ·rw [MH.get_set, if_neg (by omega)]
             ·rw [MH.get_set]
              split
              ·rfl
              ·exact hn
             ·rw [MH.get_set] at hj
              split at hj
              ·cases hj
              ·exact hj
            obtain ⟨β', hs, hb⟩ := new_cells2 hkill.inv (by show M.lo ≤ M.n; omega) ((ov ++ nv).toArray ++ Builtin.zeroCells z.cells (grownCap w (len + (k + 1)) (B.cap - ed) e - (len + (k + 1)))) e (0, 0) (grownCap w (len + (k + 1)) (B.cap - ed) e) i.size (thawed0 _ _) (by
             simp only [Array.size_append, List.size_toArray, List.length_append, size_zeroCells, hS.newsLen, holen, ← h3, ← Nat.add_mul]
             exact Nat.mul_le_mul_right _ (by omega)) (olds ++ news) (appC c (len * i.size) off olds news) (appC_get hl) ⟨ov ++ nv, hdon, fun j v hj => by
             have hlt := (List.getElem?_eq_some_iff.1 hj).1
             rw [Array.getElem?_append_left (by simpa using hlt)]
             simpa using hj⟩
            refine .val (hexec _ _ _ (by rw [hp]; exact hr)) ?_ (hkill.trans hs)
            have := Den.sl (β := β') M.n 0 (len + (k + 1)) 0 ⟨w.heap.size, 0, grownCap w (len + (k + 1)) (B.cap - ed) e⟩ ⟨w.heap.size, 0, none⟩ hb (by show 0 + (len + (k + 1)) ≤ grownCap w (len + (k + 1)) (B.cap - ed) e; omega) (fun _ => rfl)
            exact this
theorem freeze_blk {w : World} {b n m : Nat} {arr : Array Value} {t : TypeId} {fr : Nat × Nat} (h : w.heap[b]? = some (.cells arr t fr)) (hm : m ≠ 0) : w.freeze ⟨b, n, none⟩ m = { w with heap := w.heap.setIfInBounds b (.cells arr t (if fr.1 == fr.2 then (n, n + m) else (min fr.1 n, max fr.2 (n + m)))) } := by
 unfold World.freeze
 rw [if_neg hm]
 congr 1
 apply Array.ext_getElem?
 intro i
 have hb : b < w.heap.size := (Array.getElem?_eq_some_iff.1 h).1
 rw [Array.getElem?_modify]
 by_cases e : b = i
 ·subst e
  rw [Array.getElem?_setIfInBounds_self_of_lt hb]
  simp [h]
 ·rw [Array.getElem?_setIfInBounds_ne e]
  simp [e]
theorem does_cvS {s e : TypeId} {x : Operand} {id off n ed sz : Nat} {c : T MV} (hi : Inv β M w) (hs : P.underlying s = some (.slice e)) (he : P.underlying e = some (.int .u8)) (hx : Den β (.sl id off (n + 1) ed) (ρ x)) (hg : M.get id = some (.cs false sz c)) (hsz : sz = 1) (hlo : M.lo ≤ id) :
  Does P ⟨d, .convert s s x, ty, pos, af, gd⟩ ρ β M w (.sl id off (n + 1) ed) (M.set id (some (.cs false sz c))) := by
 generalize hp : ρ x = u at hx
 cases hx with
 | sl _ _ _ _ B a hB hc ha =>
  have ha' := ha (by omega)
  subst ha'
  obtain ⟨B', hB', hO⟩ := hi.obj id _ hg
  rw [hB] at hB'
  injection hB' with hB'
  subst hB'
  obtain ⟨arr, t, fr, o1, o2, o3, o4⟩ := hO
  have hb : B.blk < w.heap.size := (Array.getElem?_eq_some_iff.1 o1).1
  have hsh : w.shape? B.blk = some (t, arr.size) := by simp [World.shape?, o1]
  have hst := Step.turn hi id (.cs false sz c) (.cs false sz c) B hg rfl rfl hB hlo (.cells arr t (if fr.1 == fr.2 then (arr.size, arr.size + 1) else (min fr.1 arr.size, max fr.2 (arr.size + 1)))) ⟨arr, t, _, by simp [hb]; rfl, by
   split
   ·exact .inr ⟨hsz, Nat.le_refl _⟩
   ·rename_i hne
    rcases o2 with o2 | ⟨-, o2⟩
    ·exact (hne (by simp [o2])).elim
    ·right
     refine ⟨hsz, ?_⟩
     show arr.size ≤ min fr.1 arr.size
     omega, o3, o4⟩
  rw [← freeze_blk (n := arr.size) (m := 1) o1 (by omega)] at hst
  exact .val (v := .slice (some ⟨B.blk, B.off + off, none⟩) (n + 1) (B.cap - ed)) (by simp [execOp, hp, convert, run_underlying hs, run_underlying he, markStringish, hsh]) (.sl _ _ _ _ _ _ hB hc fun _ => rfl) hst
theorem does_mkf {f : Fn} {xs ys : Array Operand} {a c : List MV} (hi : Inv β M w) (hx : DenL β a (xs.toList.map ρ)) (hy : DenL β c (ys.toList.map ρ)) : Does P ⟨d, .makeFunc f xs ys, ty, pos, af, gd⟩ ρ β M w (.fn f a c) M := by
 refine .pure hi (v := .func f (xs.map ρ) (ys.map ρ)) (by simp [execOp, Instr.makeFunc]) (.fn f a c _ _ (by have := hx.1; simpa using this) (by have := hy.1; simpa using this) (fun j x hj => ?_) (fun j x hj => ?_))
 ·obtain ⟨v, hv, hd⟩ := hx.2 j x hj
  rw [getD_of (v := v) (by rw [Array.toList_map]; exact hv)]
  exact hd
 ·obtain ⟨v, hv, hd⟩ := hy.2 j x hj
  rw [getD_of (v := v) (by rw [Array.toList_map]; exact hv)]
  exact hd
end
end Go.Proofs.YtpdcahaggacacaaDoor.Ev
namespace Go.Proofs.YtpdcahaggacacaaDoor.Ev
open Go
variable {P : Program}
abbrev Fr := T MV
inductive X where
 | t (p : Ky)
 | c (m : MV)
noncomputable def X.ev (f : Fr) (x : X) : MV :=
 match x with
 | .t p => match f.get p with
  | some v => v
  | none => .u
 | .c m => m
def mvOf : Value → Option MV
 | .bool b => some (.b b)
 | .int k n => some (.i k n)
 | .string s => some (.s s)
 | .pointer none => some .nilp
 | .slice none 0 0 => some .nils
 | .map none => some .nilm
 | .nilFunc => some .nilf
 | _ => none
theorem mvOf_den {v : Value} {m : MV} (h : mvOf v = some m) (β : BM) : Den β m v := by
 unfold mvOf at h
 split at h <;> first | (injection h with h; subst h; constructor; done) | cases h
def mvsOf : List Value → Option (List MV)
 | [] => some []
 | v :: r => match mvOf v, mvsOf r with
  | some m, some l => some (m :: l)
  | _, _ => none
theorem mvsOf_den : ∀ {vs : List Value} {l : List MV}, mvsOf vs = some l → ∀ β, DenL β l vs
 | [], l, h, β => by injection h with h; subst h; exact .nil β
 | v :: r, l, h, β => by
  rw [mvsOf] at h
  cases hv : mvOf v with
  | none => rw [hv] at h; cases h
  | some m =>
   cases hr : mvsOf r with
   | none => rw [hv, hr] at h; cases h
   | some q =>
    rw [hv, hr] at h
    injection h with h
    subst h
    exact .cons (mvOf_den hv β) (mvsOf_den hr β)
noncomputable def opX : Operand → Option X
 | .tmp t => some (.t (path t))
 | .const v => match mvOf v with
  | some m => some (.c m)
  | none => none
 | .func f => some (.c (.fn (.func f) [] []))
 | .global g => match gtab g with
  | some (id, _) => some (.c (.p id 0))
  | none => none
def FrOk (β : BM) (f : Fr) (ρ : Operand → Value) : Prop := (∀ (t : Nat) (m : MV), f.get (path t) = some m → Den β m (ρ (.tmp t))) ∧ GlobOk β
structure Plain (ρ : Operand → Value) : Prop where
 const : ∀ v, ρ (.const v) = v
 func : ∀ f, ρ (.func f) = .func (.func f) #[] #[]
 glob : ∀ g, ρ (.global g) = .pointer (some ⟨g, 0, none⟩)
theorem opX_den {x : Operand} {x' : X} (h : opX x = some x') {β : BM} {f : Fr} {ρ : Operand → Value} (hf : FrOk β f ρ) (hρ : Plain ρ) : Den β (x'.ev f) (ρ x) := by
 cases x with
 | tmp t =>
  injection h with h
  subst h
  unfold X.ev
  simp only
  cases hg : f.get (path t) with
  | none => exact .u _
  | some v => exact hf.1 t v hg
 | const v =>
  rw [opX] at h
  cases hm : mvOf v with
  | none => rw [hm] at h; cases h
  | some m =>
   rw [hm] at h
   injection h with h
   subst h
   rw [hρ.const]
   exact mvOf_den hm β
 | global g =>
  rw [opX] at h
  cases hg : gtab g with
  | none => rw [hg] at h; cases h
  | some x =>
   obtain ⟨id, cap⟩ := x
   rw [hg] at h
   injection h with h
   subst h
   rw [hρ.glob]
   exact .p id 0 ⟨g, 0, cap⟩ (hf.2 g id cap hg)
 | func g =>
  injection h with h
  subst h
  rw [hρ.func]
  exact .fn _ _ _ _ _ rfl rfl (fun j x h => by simp at h) (fun j x h => by simp at h)
noncomputable def opXs : List Operand → Option (List X)
 | [] => some []
 | x :: r => match opX x, opXs r with
  | some a, some l => some (a :: l)
  | _, _ => none
theorem opXs_den {β : BM} {f : Fr} {ρ : Operand → Value} (hf : FrOk β f ρ) (hρ : Plain ρ) : ∀ {xs : List Operand} {l : List X}, opXs xs = some l → DenL β (l.map (X.ev f)) (xs.map ρ)
 | [], l, h => by injection h with h; subst h; exact .nil β
 | x :: r, l, h => by
  rw [opXs] at h
  cases hv : opX x with
  | none => rw [hv] at h; cases h
  | some m =>
   cases hr : opXs r with
   | none => rw [hv, hr] at h; cases h
   | some q =>
    rw [hv, hr] at h
    injection h with h
    subst h
    exact .cons (opX_den hv hf hρ) (opXs_den hf hρ hr)
noncomputable def opXo : Option Operand → Option (Option X)
 | none => some none
 | some x => match opX x with
  | some a => some (some a)
  | none => none
theorem opXo_den {β : BM} {f : Fr} {ρ : Operand → Value} (hf : FrOk β f ρ) (hρ : Plain ρ) {x : Option Operand} {x' : Option X} (h : opXo x = some x') : DenO β (x'.map (X.ev f)) (x.map ρ) := by
 cases x with
 | none => injection h with h; subst h; trivial
 | some x =>
  rw [opXo] at h
  cases hv : opX x with
  | none => rw [hv] at h; cases h
  | some m =>
   rw [hv] at h
   injection h with h
   subst h
   exact opX_den hv hf hρ
noncomputable def resParts (place : Nat → Option (Nat × Nat)) : List (Nat × Operand) → Option (List (Nat × Nat × X))
 | [] => some []
 | (i, x) :: r => match place i, opX x, resParts place r with
  | some (o, s), some a, some l => some ((o, s, a) :: l)
  | _, _, _ => none
theorem resParts_ok {β : BM} {f : Fr} {ρ : Operand → Value} (hf : FrOk β f ρ) (hρ : Plain ρ) {place : Nat → Option (Nat × Nat)} : ∀ {ps : List (Nat × Operand)} {l : List (Nat × Nat × X)}, resParts place ps = some l →
  PartsOk β place (l.map fun x => (x.1, x.2.1, x.2.2.ev f)) (ps.map fun x => (x.1, ρ x.2))
 | [], l, h => by injection h with h; subst h; trivial
 | (i, x) :: r, l, h => by
  rw [resParts] at h
  cases hp : place i with
  | none => rw [hp] at h; cases h
  | some os =>
   obtain ⟨o, s⟩ := os
   cases hv : opX x with
   | none => rw [hp, hv] at h; cases h
   | some m =>
    cases hr : resParts place r with
    | none => rw [hp, hv, hr] at h; cases h
    | some q =>
     rw [hp, hv, hr] at h
     injection h with h
     subst h
     exact ⟨hp, opX_den hv hf hρ, resParts_ok hf hρ hr⟩
noncomputable def hasB (c : T MV) (n : Nat) : Nat → Bool :=
 Nat.rec (fun _ => true) (fun _ ih off => match cget c off with
  | some _ => ih (off + 1)
  | none => false) n
theorem hasB_ok {c : T MV} : ∀ {n off : Nat}, hasB c n off = true → hasN c n off
 | 0, off, _ => fun j hj => by omega
 | n + 1, off, h => fun j hj => by
  have h' : (match cget c off with
   | some _ => hasB c n (off + 1)
   | none => false) = true := h
  cases hc : cget c off with
  | none => rw [hc] at h'; cases h'
  | some v =>
   rw [hc] at h'
   cases j with
   | zero => simp [hc]
   | succ j => rw [show off + (j + 1) = off + 1 + j from by omega]; exact hasB_ok h' j (by omega)
inductive PG where
 | ixT
 | ixL (n : Nat)
 | eqA (n : Nat) (neg : Bool)
 | ixB
inductive RG where
 | cvT
 | lkp (kd : Option IntKind) (ok : Bool) (z : MV)
 | lkpP (ok : Bool) (z : MV)
 | lkpA (n : Nat) (ok : Bool) (z : MV)
inductive WG where
 | mup (kd : Option IntKind)
 | mupP
 | mupA (n : Nat)
 | cpy
noncomputable def eqNL (a : List Nat) : List Nat → Bool := List.rec (motive := fun _ => List Nat → Bool) (fun b => List.rec (motive := fun _ => Bool) true (fun _ _ _ => false) b) (fun x _ ih b => List.rec (motive := fun _ => Bool) false (fun y r _ => Bool.rec (motive := fun _ => Bool) false (ih r) (Nat.beq x y)) b) a
theorem eqNL_iff : ∀ (a b : List Nat), eqNL a b = true ↔ a = b
 | [], [] => by simp [eqNL]
 | [], _ :: _ => by simp [eqNL]
 | _ :: _, [] => by simp [eqNL]
 | x :: a, y :: b => by
  show Bool.rec (motive := fun _ => Bool) false (eqNL a b) (Nat.beq x y) = true ↔ _
  cases h : Nat.beq x y with
  | true =>
   have h := Nat.eq_of_beq_eq_true h
   subst h
   show eqNL a b = true ↔ _
   rw [eqNL_iff a b]
   simp
  | false =>
   have h := Nat.ne_of_beq_eq_false h
   simp [h]
noncomputable def bytesL (s : ByteArray) : List Nat := List.rec (motive := fun _ => List Nat) [] (fun c _ ih => c.toNat :: ih) s.data.toList
theorem bytesL_eq (s : ByteArray) : bytesL s = s.data.toList.map UInt8.toNat := by
 unfold bytesL
 generalize s.data.toList = l
 induction l with
 | nil => rfl
 | cons x l ih => rw [List.map_cons, ← ih]
theorem bytesL_inj (a b : ByteArray) : bytesL a = bytesL b ↔ a = b := by
 rw [bytesL_eq, bytesL_eq]
 constructor
 ·intro h
  have h1 : a.data.toList = b.data.toList := (List.map_inj_right (fun x y e => UInt8.toNat_inj.1 e)).1 h
  obtain ⟨⟨x⟩⟩ := a
  obtain ⟨⟨y⟩⟩ := b
  simp only at h1
  rw [h1]
 ·rintro rfl; rfl
noncomputable def keyEq (a b : MV) : Option Bool :=
 match a, b with
 | .s a, .s b => some (eqNL (bytesL a) (bytesL b))
 | .i k a, .i k' b => bif k == k' then some (a == b) else none
 | _, _ => none
def keyOk (kd : Option IntKind) (key : MV) : Bool :=
 match kd, key with
 | none, .s _ => true
 | some q, .i k _ => k == q
 | _, _ => false
def keyDesc : Option IntKind → TypeDesc
 | none => .string
 | some q => .int q
theorem keyOk_is {kd : Option IntKind} {key : MV} (h : keyOk kd key = true) {β : BM} {v : Value} (hd : Den β key v) : MapKept.IsKey (keyDesc kd) v := by
 cases kd <;> cases hd <;> simp_all [keyOk, keyDesc, MapKept.IsKey]
theorem keyEq_ok {kd : Option IntKind} {a b : MV} {r : Bool} (ha : keyOk kd a = true) (h : keyEq a b = some r) {β : BM} {v u : Value} (hv : Den β a v) (hu : Den β b u) : MapKept.IsKey (keyDesc kd) u ∧ Instr.sameNow (keyDesc kd) v u = some r ∧ (r = true ↔ v = u) := by
 have hb : keyOk kd b = true := by
  cases a <;> cases b <;> simp only [keyEq, reduceCtorEq] at h <;> cases kd <;> simp only [keyOk, Bool.false_eq_true] at ha ⊢
  rename_i k n k' n' q
  cases hk : (k == k') with
  | false => rw [hk] at h; cases h
  | true =>
   have hk : k = k' := by simpa using hk
   subst hk
   exact ha
 have h1 := keyOk_is ha hv
 have h2 := keyOk_is hb hu
 obtain ⟨r', hr, hiff⟩ := MapKept.sameNow_of_keys h1 h2
 have : r = r' := by
  rw [Bool.eq_iff_iff, hiff]
  cases hv <;> simp only [keyEq, reduceCtorEq] at h <;> cases hu <;> simp only [keyEq, reduceCtorEq] at h
  ·rename_i k n k' n'
   cases hk : (k == k') with
   | false => rw [hk] at h; cases h
   | true =>
    rw [hk] at h
    injection h with h
    have hk : k = k' := by simpa using hk
    subst hk h
    simp
  ·injection h with h
   subst h
   rw [eqNL_iff, bytesL_inj]
   simp
 subst this
 exact ⟨h2, hr, hiff⟩
noncomputable def findM (key : MV) (es : List (MV × MV × Nat)) : Nat → Option (Option (Nat × MV)) :=
 List.rec (motive := fun _ => Nat → Option (Option (Nat × MV))) (fun _ => some none) (fun e _ ih i => match keyEq key e.1 with
  | some true => some (some (i, e.2.1))
  | some false => ih (Nat.succ i)
  | none => none) es
theorem findM_cons (key : MV) (e : MV × MV × Nat) (es : List (MV × MV × Nat)) (i : Nat) : findM key (e :: es) i = match keyEq key e.1 with
  | some true => some (some (i, e.2.1))
  | some false => findM key es (i + 1)
  | none => none := rfl
def EntOk (β : BM) (es : List (MV × MV × Nat)) (xs : List MapEntry) : Prop := es.length = xs.length ∧ ∀ (j : Nat) (e : MV × MV × Nat), es[j]? = some e → ∃ x, xs[j]? = some x ∧ MapEntryOk β e x
theorem EntOk.inv {β : BM} {e : MV × MV × Nat} {es : List (MV × MV × Nat)} {xs : List MapEntry} (h : EntOk β (e :: es) xs) : ∃ x r, xs = x :: r ∧ MapEntryOk β e x ∧ EntOk β es r := by
 cases xs with
 | nil => cases h.1
 | cons x r =>
  obtain ⟨y, hy, ho⟩ := h.2 0 e rfl
  injection hy with hy
  subst hy
  exact ⟨_, _, rfl, ho, by simpa using h.1, fun j e' he => by simpa using h.2 (j + 1) e' (by simpa using he)⟩
theorem find_ok {kd : Option IntKind} {key : MV} {β : BM} {v : Value} (hk : keyOk kd key = true) (hv : Den β key v) : ∀ (es : List (MV × MV × Nat)) (xs : List MapEntry) (i : Nat) (r : Option (Nat × MV)), EntOk β es xs → findM key es i = some r →
  match r with
  | none => Instr.findNow (keyDesc kd) v xs i = some none
  | some (q, m) => ∃ j x u, q = i + j ∧ Instr.findNow (keyDesc kd) v xs i = some (some (i + j, u)) ∧ Den β m u ∧ xs[j]? = some x ∧ x.key = v
 | [], xs, i, r, h, hf => by
  injection hf with hf
  subst hf
  have : xs = [] := List.length_eq_zero_iff.1 h.1.symm
  subst this
  rfl
 | e :: es, xs, i, r, h, hf => by
  obtain ⟨x, rest, rfl, ho, hr⟩ := h.inv
  rw [findM_cons] at hf
  cases hq : keyEq key e.1 with
  | none => rw [hq] at hf; cases hf
  | some t =>
   rw [hq] at hf
   obtain ⟨-, hs, hiff⟩ := keyEq_ok hk hq hv ho.key
   cases t with
   | true =>
    injection hf with hf
    subst hf
    exact ⟨0, x, x.val, rfl, by rw [Instr.findNow, hs]; rfl, ho.val, rfl, (hiff.1 rfl).symm⟩
   | false =>
    have ih := find_ok hk hv es rest (i + 1) r hr hf
    cases r with
    | none =>
     show Instr.findNow (keyDesc kd) v (x :: rest) i = some none
     rw [Instr.findNow, hs]
     exact ih
    | some qm =>
     obtain ⟨q, m⟩ := qm
     obtain ⟨j, y, u, h1, h2, h3, h4, h5⟩ := ih
     refine ⟨j + 1, y, u, by omega, ?_, h3, by simpa using h4, h5⟩
     rw [Instr.findNow, hs]
     simp only
     rw [h2, show i + (j + 1) = i + 1 + j from by omega]
noncomputable def eqAg (a : List MV) : List MV → Option Bool := List.rec (motive := fun _ => List MV → Option Bool) (fun b => match b with
  | [] => some true
  | _ => none) (fun x _ ih b => match x, b with
  | .i k n, .i k' n' :: r => bif k == k' then match ih r with
    | some t => some (bif n == n' then t else false)
    | none => none
   else none
  | _, _ => none) a
noncomputable def ixbL (c : Nat) (l : List UInt8) : Nat → Int := List.rec (motive := fun _ => Nat → Int) (fun _ => -1) (fun x _ ih i => bif Nat.beq x.toNat c then .ofNat i else ih (Nat.succ i)) l
noncomputable def puM (g : PG) (x y : MV) : Option MV :=
 match g with
 | .ixB => match x, y with
  | .s s, .i .u8 (.ofNat c) => bif Nat.blt c 256 then some (.i .i64 (ixbL c s.data.toList 0)) else none
  | _, _ => none
 | .ixT => match x, y with
  | .s s, .i _ (.ofNat j) => match s.data.toList[j]? with
   | some c => some (.i .u8 (.ofNat c.toNat))
   | none => none
  | _, _ => none
 | .ixL n => match x, y with
  | .ag l, .i _ (.ofNat j) => bif Nat.blt j n then l[j]? else none
  | _, _ => none
 | .eqA n neg => match x, y with
  | .ag a, .ag b => bif a.length == n then match eqAg a b with
   | some r => some (.b (bif neg then !r else r))
   | none => none
   else none
  | _, _ => none
noncomputable def bytesM (l : List MV) : Option (List UInt8) := List.rec (motive := fun _ => Option (List UInt8)) (some []) (fun x _ ih => match x with
  | .i .u8 (.ofNat n) => bif Nat.blt n 256 then match ih with
    | some r => some (UInt8.ofNat n :: r)
    | none => none
   else none
  | _ => none) l
noncomputable def rwcs (M : MH) (id : Nat) : Bool := match M.get id with
 | some (.cs false sz _) => !(Nat.beq sz 1)
 | _ => false
noncomputable def findP (M : MH) (id off : Nat) (es : List (MV × MV × Nat)) : Nat → Option (Option (Nat × MV)) :=
 List.rec (motive := fun _ => Nat → Option (Option (Nat × MV))) (fun _ => some none) (fun e _ ih i => match e.1 with
  | .p id' off' => bif Nat.beq id id' then (bif Nat.beq off off' then some (some (i, e.2.1)) else ih (Nat.succ i)) else bif rwcs M id && rwcs M id' then ih (Nat.succ i) else none
  | _ => none) es
theorem findP_cons (M : MH) (id off : Nat) (e : MV × MV × Nat) (es : List (MV × MV × Nat)) (i : Nat) : findP M id off (e :: es) i = match e.1 with
  | .p id' off' => bif Nat.beq id id' then (bif Nat.beq off off' then some (some (i, e.2.1)) else findP M id off es (i + 1)) else bif rwcs M id && rwcs M id' then findP M id off es (i + 1) else none
  | _ => none := rfl
theorem findP_any {M M2 : MH} (hM : ∀ id o, M.get id = some o → M2.get id = some o) (id off : Nat) : ∀ (es : List (MV × MV × Nat)) (i : Nat) (r : Option (Nat × MV)), findP M id off es i = some r → findP M2 id off es i = some r
 | [], _, _, h => h
 | e :: es, i, r, h => by
  have hrw : ∀ id, rwcs M id = true → rwcs M2 id = true := fun id h => by
   unfold rwcs at *
   cases hg : M.get id with
   | none => rw [hg] at h; cases h
   | some o => rw [hg] at h; rw [hM id o hg]; exact h
  rw [findP_cons] at h ⊢
  generalize e.1 = k at h ⊢
  cases k <;> (try simp only [reduceCtorEq] at h)
  rename_i id' off'
  simp only at h ⊢
  cases h1 : Nat.beq id id' with
  | true =>
   rw [h1] at h
   simp only [cond_true] at h ⊢
   cases h2 : Nat.beq off off' with
   | true => rw [h2] at h; exact h
   | false => rw [h2] at h; exact findP_any hM id off es (i + 1) r h
  | false =>
   rw [h1] at h
   simp only [cond_false] at h ⊢
   cases h2 : (rwcs M id && rwcs M id') with
   | false => rw [h2] at h; cases h
   | true =>
    rw [h2] at h
    rw [Bool.and_eq_true] at h2
    rw [hrw _ h2.1, hrw _ h2.2]
    exact findP_any hM id off es (i + 1) r h
noncomputable def findA (key : List MV) (es : List (MV × MV × Nat)) : Nat → Option (Option (Nat × MV)) :=
 List.rec (motive := fun _ => Nat → Option (Option (Nat × MV))) (fun _ => some none) (fun e _ ih i => match e.1 with
  | .ag l => match eqAg key l with
   | some true => some (some (i, e.2.1))
   | some false => ih (Nat.succ i)
   | none => none
  | _ => none) es
theorem findA_cons (key : List MV) (e : MV × MV × Nat) (es : List (MV × MV × Nat)) (i : Nat) : findA key (e :: es) i = match e.1 with
  | .ag l => match eqAg key l with
   | some true => some (some (i, e.2.1))
   | some false => findA key es (i + 1)
   | none => none
  | _ => none := rfl
noncomputable def rdF (g : RG) (M : MH) (x y : MV) : Option MV :=
 match g with
 | .lkpA n ok z => match x, y with
  | .m id, .ag l => bif l.length == n then match M.get id with
   | some (.mp es _) => match findA l es 0 with
    | some (some (_, v)) => some (bif ok then .tp [v, .b true] else v)
    | some none => some (bif ok then .tp [z, .b false] else z)
    | none => none
   | _ => none
   else none
  | _, _ => none
 | .lkpP ok z => match x, y with
  | .m id, .p kid koff => match M.get id with
   | some (.mp es _) => match findP M kid koff es 0 with
    | some (some (_, v)) => some (bif ok then .tp [v, .b true] else v)
    | some none => some (bif ok then .tp [z, .b false] else z)
    | none => none
   | _ => none
  | _, _ => none
 | .cvT => match x with
  | .nils => some (.s ⟨⟨[]⟩⟩)
  | .sl id off (n + 1) _ => match M.get id with
   | some (.cs _ _ c) => match getN c (n + 1) off with
    | some l => match bytesM l with
     | some b => some (.s ⟨⟨b⟩⟩)
     | none => none
    | none => none
   | _ => none
  | _ => none
 | .lkp kd ok z => match x with
  | .m id => bif keyOk kd y then match M.get id with
   | some (.mp es _) => match findM y es 0 with
    | some (some (_, v)) => some (bif ok then .tp [v, .b true] else v)
    | some none => some (bif ok then .tp [z, .b false] else z)
    | none => none
   | _ => none
   else none
  | _ => none
noncomputable def wrF (g : WG) (M : MH) (x y z : MV) : Option (MV × MH) :=
 match g with
 | .mupA n => match x, y with
  | .m id, .ag l => bif l.length == n && Nat.ble M.lo id then match M.get id with
   | some (.mp es ck) => match findA l es 0 with
    | some none => some (.u, M.set id (some (.mp (es ++ [(y, z, ck)]) (ck + 1))))
    | _ => none
   | _ => none
   else none
  | _, _ => none
 | .mupP => match x, y with
  | .m id, .p kid koff => bif Nat.ble M.lo id then match M.get id with
   | some (.mp es ck) => match findP M kid koff es 0 with
    | some none => some (.u, M.set id (some (.mp (es ++ [(y, z, ck)]) (ck + 1))))
    | _ => none
   | _ => none
   else none
  | _, _ => none
 | .mup kd => match x with
  | .m id => bif keyOk kd y && Nat.ble M.lo id then match M.get id with
   | some (.mp es ck) => match findM y es 0 with
    | some (some (i, _)) => match es[i]? with
     | some e => some (.u, M.set id (some (.mp (es.set i (y, z, e.2.2)) ck)))
     | none => none
    | some none => some (.u, M.set id (some (.mp (es ++ [(y, z, ck)]) (ck + 1))))
    | none => none
   | _ => none
   else none
  | _ => none
 | .cpy => match x, srcM M 1 y with
  | .sl id off n _, some (m, l) => bif Nat.ble (min m n) l.length && allOne (l.take (min m n)) then match min m n with
   | 0 => some (.i .i64 0, M)
   | q + 1 => match M.get id with
    | some (.cs false sz c) => bif Nat.ble M.lo id && hasB c (q + 1) off then some (.i .i64 (q + 1), M.set id (some (.cs false sz (setN (l.take (q + 1)) off c)))) else none
    | _ => none
   else none
  | _, _ => none
section
variable {ρ : Operand → Value} {β : BM} {M M' : MH} {w : World} {d : Option Tmp} {ty : TypeId} {pos : String} {af : Array Edge} {gd : Option (Nat × Bool)}
theorem does_ixT {t : TypeId} {x y : Operand} {a b m : MV} (hi : Inv β M w) (ht : P.underlying t = some .string) (hx : Den β a (ρ x)) (hy : Den β b (ρ y)) (h : puM .ixT a b = some m) : Does P ⟨d, .index t x y, ty, pos, af, gd⟩ ρ β M w m M := by
 generalize hp : ρ x = u at hx
 generalize hq : ρ y = u' at hy
 cases hx <;> simp only [puM, reduceCtorEq] at h
 cases hy <;> (try simp only [reduceCtorEq] at h)
 rename_i s k n
 cases n with
 | negSucc j => cases h
 | ofNat j =>
  try simp only at h
  cases hc : s.data.toList[j]? with
  | none => rw [hc] at h; cases h
  | some c =>
   rw [hc] at h
   injection h with h
   subst h
   have hlt : j < s.size := by
    have := (List.getElem?_eq_some_iff.1 hc).1
    rw [Array.length_toList] at this
    exact this
   have hg : s[j] = c := by
    have := (List.getElem?_eq_some_iff.1 hc).2
    rw [← this]
    rfl
   refine .pure hi (v := .int .u8 c.toNat) ?_ (.i _ _)
   have := run_index_string (P := P) (w := w) t s k (Int.ofNat j) ht
   rw [dif_pos ⟨Int.natCast_nonneg j, Int.ofNat_lt.2 hlt⟩] at this
   have this3 : (Instr.index t (.string s) (.int k (j : Int))).run P w = .ok (.int .u8 c.toNat) w := by
    refine Eq.trans this ?_
    show Result.ok (Value.int .u8 ((s[j]).toNat : Int)) w = _
    rw [hg]
   simp [execOp, hp, hq, this3]
theorem does_ixL {t e : TypeId} {n : Nat} {q : TypeInfo} {x y : Operand} {a b m : MV} (hi : Inv β M w) (ht : P.underlying t = some (.array n e)) (he : P.plainKey e = true) (hinf : P.info? e = some q) (hsz : P.cellsOf e = 1) (hx : Den β a (ρ x)) (hy : Den β b (ρ y)) (h : puM (.ixL n) a b = some m) : Does P ⟨d, .index t x y, ty, pos, af, gd⟩ ρ β M w m M := by
 generalize hp : ρ x = u at hx
 generalize hq : ρ y = u' at hy
 cases hx <;> simp only [puM, reduceCtorEq] at h
 cases hy <;> (try simp only [reduceCtorEq] at h)
 rename_i l vs hl hd k j
 cases j with
 | negSucc j => cases h
 | ofNat j =>
  have h : (bif Nat.blt j n then l[j]? else none) = some m := h
  cases hb : Nat.blt j n with
  | false => rw [hb] at h; cases h
  | true =>
   rw [hb] at h
   have h : l[j]? = some m := h
   have hlt : j < n := by simpa [Nat.blt_eq] using hb
   obtain ⟨v, hv, hdv⟩ := (denL_of hl hd).2 j m h
   have hs := run_sizeOf (P := P) w hinf
   have hpt : (part e vs (j * 1)).run P w = .ok v w := run_part_plain w he (by simpa using hv)
   rw [hsz] at hs
   have key : (Instr.index t (.agg vs) (.int k (j : Int))).run P w = .ok v w := by
    simp [Instr.index, asIntOf, run_underlying ht, hlt, hs, Result.andThen]
    simpa using hpt
   exact .pure hi (v := v) (by simp [execOp, hp, hq, key]) hdv
theorem eqItems_ag {e : TypeId} {q : IntKind} (he : P.underlying e = some (.int q)) (X Y : Array Value) (dd : Nat) : ∀ (a b : List MV) (xs ys : List Value) (o : Nat) (r : Bool), eqAg a b = some r → DenL β a xs → DenL β b ys → (∀ (j : Nat) (v : Value), xs[j]? = some v → X[o + j]? = some v) → (∀ (j : Nat) (v : Value), ys[j]? = some v → Y[o + j]? = some v) →
  (Op.eqItems (dd + 1) e 1 X Y (List.range' o a.length)).run P w = .ok r w
 | [], b, xs, ys, o, r, h, ha, hb, hX, hY => by
  cases b with
  | nil => injection h with h; subst h; simp [Op.eqItems]
  | cons y b => cases h
 | x :: a, b, xs, ys, o, r, h, ha, hb, hX, hY => by
  cases x <;> (try (cases h; done))
  rename_i k n
  cases b with
  | nil => cases h
  | cons y b =>
   cases y <;> (try (cases h; done))
   rename_i k' n'
   have h' : (bif k == k' then match eqAg a b with
    | some t => some (bif n == n' then t else false)
    | none => none
    else none) = some r := h
   cases hk : (k == k') with
   | false => rw [hk] at h'; cases h'
   | true =>
    rw [hk] at h'
    have hk : k = k' := by simpa using hk
    subst hk
    simp only [cond_true] at h'
    cases hq : eqAg a b with
    | none => rw [hq] at h'; cases h'
    | some t =>
     rw [hq] at h'
     injection h' with h'
     obtain ⟨v, vs, rfl, h1, h2⟩ := ha.inv
     obtain ⟨u, us, rfl, h3, h4⟩ := hb.inv
     cases h1
     cases h3
     have ih := eqItems_ag he X Y dd a b vs us (o + 1) t hq h2 h4 (fun j v hv => by rw [show o + 1 + j = o + (j + 1) from by omega]; exact hX (j + 1) v (by simpa using hv)) (fun j v hv => by rw [show o + 1 + j = o + (j + 1) from by omega]; exact hY (j + 1) v (by simpa using hv))
     have p1 : (part e X (o * 1)).run P w = .ok (.int k n) w := run_part_plain w (by simp [Program.plainKey, he]) (by simpa using hX 0 _ rfl)
     have p2 : (part e Y (o * 1)).run P w = .ok (.int k n') w := run_part_plain w (by simp [Program.plainKey, he]) (by simpa using hY 0 _ rfl)
     have p3 := run_equalIn_int w dd e k q n n' he
     rw [List.length_cons, List.range'_succ]
     simp only [Op.eqItems, Sem.run_bind, p1, p2, p3, Result.andThen_ok]
     subst h'
     cases hn : (n == n') with
     | false => simp
     | true => simpa using ih
theorem eqFields_ag (X Y : Array Value) (dd : Nat) : ∀ (fs : List Field) (a b : List MV) (xs ys : List Value) (o : Nat) (r : Bool), fs.length = a.length → (∀ (j : Nat) (fd : Field), fs[j]? = some fd → fd.offset = o + j ∧ fd.name ≠ "_" ∧ ∃ q, P.underlying fd.type = some (.int q)) → eqAg a b = some r → DenL β a xs → DenL β b ys → (∀ (j : Nat) (v : Value), xs[j]? = some v → X[o + j]? = some v) → (∀ (j : Nat) (v : Value), ys[j]? = some v → Y[o + j]? = some v) →
  (Op.eqFields (dd + 1) X Y fs).run P w = .ok r w
 | [], [], b, xs, ys, o, r, hl, hf, h, ha, hb, hX, hY => by
  cases b with
  | nil => injection h with h; subst h; simp [Op.eqFields]
  | cons y b => cases h
 | [], x :: a, b, xs, ys, o, r, hl, hf, h, ha, hb, hX, hY => by simp at hl
 | f :: fs, [], b, xs, ys, o, r, hl, hf, h, ha, hb, hX, hY => by simp at hl
 | f :: fs, x :: a, b, xs, ys, o, r, hl, hf, h, ha, hb, hX, hY => by
  cases x <;> (try (cases h; done))
  rename_i k n
  cases b with
  | nil => cases h
  | cons y b =>
   cases y <;> (try (cases h; done))
   rename_i k' n'
   have h' : (bif k == k' then match eqAg a b with
    | some t => some (bif n == n' then t else false)
    | none => none
    else none) = some r := h
   cases hk : (k == k') with
   | false => rw [hk] at h'; cases h'
   | true =>
    rw [hk] at h'
    have hk : k = k' := by simpa using hk
    subst hk
    simp only [cond_true] at h'
    cases hq : eqAg a b with
    | none => rw [hq] at h'; cases h'
    | some t =>
     rw [hq] at h'
     injection h' with h'
     obtain ⟨v, vs, rfl, h1, h2⟩ := ha.inv
     obtain ⟨u, us, rfl, h3, h4⟩ := hb.inv
     cases h1
     cases h3
     have ih := eqFields_ag X Y dd fs a b vs us (o + 1) t (by simpa using hl) (fun j fd hj => by rw [show o + 1 + j = o + (j + 1) from by omega]; exact hf (j + 1) fd (by simpa using hj)) hq h2 h4 (fun j v hv => by rw [show o + 1 + j = o + (j + 1) from by omega]; exact hX (j + 1) v (by simpa using hv)) (fun j v hv => by rw [show o + 1 + j = o + (j + 1) from by omega]; exact hY (j + 1) v (by simpa using hv))
     obtain ⟨ho, hne, q, he⟩ := hf 0 f rfl
     rw [Nat.add_zero] at ho
     have p1 : (part f.type X f.offset).run P w = .ok (.int k n) w := run_part_plain w (by simp [Program.plainKey, he]) (by rw [ho]; simpa using hX 0 _ rfl)
     have p2 : (part f.type Y f.offset).run P w = .ok (.int k n') w := run_part_plain w (by simp [Program.plainKey, he]) (by rw [ho]; simpa using hY 0 _ rfl)
     have p3 := run_equalIn_int w dd f.type k q n n' he
     simp only [Op.eqFields, hne, ne_eq, not_false_eq_true, if_true, Sem.run_bind, p1, p2, p3, Result.andThen_ok]
     subst h'
     cases hn : (n == n') with
     | false => simp
     | true => simpa using ih
def fieldsB (P : Program) : List Field → Nat → Bool
 | [], _ => true
 | f :: r, o => (Nat.beq f.offset o && !(f.name == "_")) && ((match P.underlying f.type with
  | some (.int _) => true
  | _ => false) && fieldsB P r (o + 1))
theorem fieldsB_ok : ∀ (fs : List Field) (o : Nat), fieldsB P fs o = true → ∀ (j : Nat) (fd : Field), fs[j]? = some fd → fd.offset = o + j ∧ fd.name ≠ "_" ∧ ∃ q, P.underlying fd.type = some (.int q)
 | [], o, _, j, fd, h => by simp at h
 | f :: r, o, hb, j, fd, h => by
  simp only [fieldsB, Bool.and_eq_true] at hb
  obtain ⟨⟨h1, h2⟩, h3, h4⟩ := hb
  cases j with
  | zero =>
   simp only [List.getElem?_cons_zero, Option.some.injEq] at h
   subst h
   refine ⟨by rw [Nat.add_zero]; exact Nat.eq_of_beq_eq_true h1, by simpa using h2, ?_⟩
   split at h3
   ·rename_i q he; exact ⟨q, he⟩
   ·cases h3
  | succ j =>
   have := fieldsB_ok r (o + 1) h4 j fd (by simpa using h)
   exact ⟨by rw [this.1]; omega, this.2⟩
theorem does_eqS {t : TypeId} {fs : Array Field} {x y : Operand} {op : BinOp} {neg : Bool} {yt : TypeId} {a b m : MV} (hi : Inv β M w) (ho : op = bif neg then .neq else .eql) (ht : P.underlying t = some (.struct fs)) (hfs : fieldsB P fs.toList 0 = true) (hst : P.stoodInHeld t = false) (hgt : P.eqGuardType P.depth t = false)
  (hx : Den β a (ρ x)) (hy : Den β b (ρ y)) (h : puM (.eqA fs.size neg) a b = some m) : Does P ⟨d, .binOp op t x y yt, ty, pos, af, gd⟩ ρ β M w m M := by
 generalize hp : ρ x = u at hx
 generalize hq : ρ y = u' at hy
 cases hx <;> simp only [puM, reduceCtorEq] at h
 cases hy <;> simp only [reduceCtorEq] at h
 rename_i l vs hl hd l' vs' hl' hd'
 cases hn : (l.length == fs.size) with
 | false => rw [hn] at h; cases h
 | true =>
  rw [hn] at h
  have hn : l.length = fs.size := by simpa using hn
  simp only [cond_true] at h
  cases hr : eqAg l l' with
  | none => rw [hr] at h; cases h
  | some r =>
   rw [hr] at h
   injection h with h
   subst h
   have hfo : P.fieldsOf t = fs := by simp [Program.fieldsOf, ht]
   have key := eqFields_ag (P := P) (w := w) vs vs' 9998 fs.toList l l' vs.toList vs'.toList 0 r (by rw [hn, Array.length_toList]) (fieldsB_ok fs.toList 0 hfs) hr (denL_of hl hd) (denL_of hl' hd') (fun j v hv => by simpa using hv) (fun j v hv => by simpa using hv)
   have hstr := run_equalIn_struct (P := P) w 9999 t vs vs' (by rw [hfo]; exact ht) hst
   rw [hfo, key] at hstr
   have heq : (Op.equal t (.agg vs) (.agg vs')).run P w = .ok r w := hstr
   refine .pure hi (v := .bool (bif neg then !r else r)) ?_ (.b _)
   cases neg <;> subst ho <;> simp [execOp, hp, hq, binOp, heq, Result.andThen, run_eqGuard_agg, hgt]
theorem does_eqA {t e : TypeId} {n : Nat} {q : IntKind} {i : TypeInfo} {x y : Operand} {op : BinOp} {neg : Bool} {yt : TypeId} {a b m : MV} (hi : Inv β M w) (ho : op = bif neg then .neq else .eql) (ht : P.underlying t = some (.array n e)) (he : P.underlying e = some (.int q)) (hinf : P.info? e = some i) (hsz : P.cellsOf e = 1) (hgt : P.eqGuardType P.depth t = false)
  (hx : Den β a (ρ x)) (hy : Den β b (ρ y)) (h : puM (.eqA n neg) a b = some m) : Does P ⟨d, .binOp op t x y yt, ty, pos, af, gd⟩ ρ β M w m M := by
 generalize hp : ρ x = u at hx
 generalize hq : ρ y = u' at hy
 cases hx <;> simp only [puM, reduceCtorEq] at h
 cases hy <;> simp only [reduceCtorEq] at h
 rename_i l vs hl hd l' vs' hl' hd'
 cases hn : (l.length == n) with
 | false => rw [hn] at h; cases h
 | true =>
  rw [hn] at h
  have hn : l.length = n := by simpa using hn
  simp only [cond_true] at h
  cases hr : eqAg l l' with
  | none => rw [hr] at h; cases h
  | some r =>
   rw [hr] at h
   injection h with h
   subst h
   have key := eqItems_ag (P := P) (w := w) he vs vs' 9998 l l' vs.toList vs'.toList 0 r hr (denL_of hl hd) (denL_of hl' hd') (fun j v hv => by simpa using hv) (fun j v hv => by simpa using hv)
   have harr := run_equalIn_array (P := P) w 9999 vs vs' ht hinf
   rw [hsz, List.range_eq_range', ← hn, key] at harr
   have heq : (Op.equal t (.agg vs) (.agg vs')).run P w = .ok r w := harr
   refine .pure hi (v := .bool (bif neg then !r else r)) ?_ (.b _)
   cases neg <;> subst ho <;> simp [execOp, hp, hq, binOp, heq, Result.andThen, run_eqGuard_agg, hgt]
theorem bytesM_ok : ∀ (l : List MV) (b : List UInt8) (vs : List Value), bytesM l = some b → DenL β l vs → b.length = vs.length ∧ ∀ (j : Nat) (hj : j < b.length), vs[j]? = some (.int .u8 (b[j].toNat : Int))
 | [], b, vs, h, hd => by
  injection h with h
  subst h
  rw [hd.inv0]
  exact ⟨rfl, fun j hj => by cases hj⟩
 | x :: l, b, vs, h, hd => by
  cases x <;> (try (cases h; done))
  rename_i k n
  cases k <;> (try (cases h; done))
  cases n with
  | negSucc n => cases h
  | ofNat n =>
   have h' : (bif Nat.blt n 256 then match bytesM l with
    | some r => some (UInt8.ofNat n :: r)
    | none => none
    else none) = some b := h
   cases hn : Nat.blt n 256 with
   | false => rw [hn] at h'; cases h'
   | true =>
    rw [hn] at h'
    have hlt : n < 256 := by simpa [Nat.blt_eq] using hn
    simp only [cond_true] at h'
    cases hr : bytesM l with
    | none => rw [hr] at h'; cases h'
    | some r =>
     rw [hr] at h'
     injection h' with h'
     subst h'
     obtain ⟨v, ws, rfl, h1, h2⟩ := hd.inv
     cases h1
     obtain ⟨h3, h4⟩ := bytesM_ok l r ws hr h2
     refine ⟨by simp [h3], fun j hj => ?_⟩
     cases j with
     | zero =>
      simp only [List.getElem?_cons_zero, List.getElem_cons_zero, UInt8.toNat_ofNat', Option.some.injEq, Value.int.injEq, true_and, Int.ofNat_eq_natCast]
      omega
     | succ j => simpa using h4 j (by simpa using hj)
theorem does_cvT {s e t : TypeId} {x : Operand} {a b m : MV} (hi : Inv β M w) (hs : P.underlying s = some (.slice e)) (he : P.underlying e = some (.int .u8)) (ht : P.underlying t = some .string) (hx : Den β a (ρ x)) (h : rdF .cvT M a b = some m) : Does P ⟨d, .convert s t x, ty, pos, af, gd⟩ ρ β M w m M := by
 generalize hp : ρ x = u at hx
 cases hx <;> simp only [rdF, reduceCtorEq] at h
 case nils =>
  injection h with h
  subst h
  refine .pure hi (v := .string ⟨⟨[]⟩⟩) ?_ (.s _)
  have := run_convert_bytes_string (P := P) w s t e none 0 0 hs he ht
  simp [Conv.bytesToString] at this
  simp [execOp, hp, this]
  rfl
 case sl id off n ed B ad hB hcap ha =>
  cases n with
  | zero => cases h
  | succ n =>
   simp only at h
   cases hg : M.get id with
   | none => rw [hg] at h; cases h
   | some o =>
    cases o with
    | mp es ck => rw [hg] at h; cases h
    | cs ro sz c =>
     rw [hg] at h
     simp only at h
     cases hl : getN c (n + 1) off with
     | none => rw [hl] at h; cases h
     | some l =>
      rw [hl] at h
      simp only at h
      cases hb : bytesM l with
      | none => rw [hb] at h; cases h
      | some bs =>
       rw [hb] at h
       injection h with h
       subst h
       obtain ⟨B', vs, hB', hd, hlen, hr⟩ := read_list hi hg hl
       rw [hB] at hB'
       injection hB' with hB'
       subst hB'
       have ha' := ha (by omega)
       subst ha'
       obtain ⟨h1, h2⟩ := bytesM_ok l bs vs hb hd
       refine .pure hi (v := .string ⟨bs.toArray⟩) ?_ (.s _)
       have := run_convert_bytes_back (P := P) w s t e ⟨B.blk, B.off + off, none⟩ (B.cap - ed) bs hs he ht (fun j hj => by rw [Addr.add_lit]; exact hr j _ (h2 j hj))
       rw [h1, hlen] at this
       simp [execOp, hp, this]
theorem rwcs_of {β : BM} {M : MH} {w : World} (hi : Inv β M w) {id : Nat} (h : rwcs M id = true) : ∃ o B arr t fr, M.get id = some o ∧ o.rw = true ∧ β id = some B ∧ w.heap[B.blk]? = some (.cells arr t fr) ∧ fr.1 = fr.2 := by
 unfold rwcs at h
 cases hg : M.get id with
 | none => rw [hg] at h; cases h
 | some o =>
  rw [hg] at h
  cases o with
  | mp es ck => cases h
  | cs ro sz c =>
   cases ro with
   | true => cases h
   | false =>
    obtain ⟨B, hB, hO⟩ := hi.obj id _ hg
    obtain ⟨arr, t, fr, h1, h2, -⟩ := hO
    refine ⟨_, B, arr, t, fr, rfl, rfl, hB, h1, ?_⟩
    rcases h2 with h2 | ⟨h2, -⟩
    ·exact h2
    ·subst h2; cases h
theorem sameAddr_other {w : World} {a b : Addr} {ca cb : Array Value} {ta tb : TypeId} {fa fb : Nat × Nat} (hne : a.block ≠ b.block) (ha : w.heap[a.block]? = some (.cells ca ta fa)) (hb : w.heap[b.block]? = some (.cells cb tb fb)) (h1 : fa.1 = fa.2) (h2 : fb.1 = fb.2) :
  (sameAddr a b).run P w = .ok false w := by
 obtain ⟨x, y⟩ := fa
 obtain ⟨x', y'⟩ := fb
 simp only at h1 h2
 subst h1 h2
 have f1 : ∀ o : Nat, ¬ (x ≤ o ∧ o < x) := fun o => by omega
 have f2 : ∀ o : Nat, ¬ (x' ≤ o ∧ o < x') := fun o => by omega
 have g1 : ∀ o : Nat, w.frozen? ⟨a.block, o, none⟩ = false := fun o => by simp only [World.frozen?, ha]; simp
 simp [sameAddr, hne, World.frozen?, ha, hb, noView, viewAt, World.shape?, mayBeOne, stringish, f1, f2, Result.andThen]
def AskOk (P : Program) (β : BM) (w : World) (kt : TypeId) (v : Value) (xs : List MapEntry) (i : Nat) (r : Option (Nat × MV)) : Prop :=
 match r with
 | none => (Instr.findAsking kt v xs i).run P w = .ok none w
 | some (k, m) => ∃ u, (Instr.findAsking kt v xs i).run P w = .ok (some (k, u)) w ∧ Den β m u
theorem findP_ok {β : BM} {M : MH} {w : World} (hi : Inv β M w) {kt el : TypeId} {q : TypeInfo} (hk : P.underlying kt = some (.pointer el)) (hinf : P.info? el = some q) (hsz : P.cellsOf el ≠ 0) {id off : Nat} {B : Bl} (hB : β id = some B) : ∀ (es : List (MV × MV × Nat)) (xs : List MapEntry) (i : Nat) (r : Option (Nat × MV)), EntOk β es xs → findP M id off es i = some r → AskOk P β w kt (.pointer (some ⟨B.blk, B.off + off, none⟩)) xs i r
 | [], xs, i, r, h, hf => by
  injection hf with hf
  subst hf
  have : xs = [] := List.length_eq_zero_iff.1 h.1.symm
  subst this
  rfl
 | e :: es, xs, i, r, h, hf => by
  obtain ⟨x, rest, rfl, ho, hr⟩ := h.inv
  rw [findP_cons] at hf
  have hkey := ho.key
  generalize e.1 = k at hf hkey
  cases k <;> (try simp only [reduceCtorEq] at hf)
  rename_i id' off'
  generalize hxk : x.key = kv at hkey
  cases hkey with
  | p _ _ B' hB' =>
  have hstep : ∀ t : Bool, (sameAddr ⟨B.blk, B.off + off, none⟩ ⟨B'.blk, B'.off + off', none⟩).run P w = .ok t w → (Op.equal kt (.pointer (some ⟨B.blk, B.off + off, none⟩)) x.key).run P w = .ok t w := fun t ht => by
   rw [hxk]
   have hso := run_sizeOf (P := P) w hinf
   show (Op.equalIn (9999 + 1) kt _ _).run P w = _
   rw [Op.equalIn]
   simp [run_underlying hk, hso, hsz, ht, Result.andThen]
  have hnext : (Op.equal kt (.pointer (some ⟨B.blk, B.off + off, none⟩)) x.key).run P w = .ok false w → findP M id off es (i + 1) = some r → AskOk P β w kt (.pointer (some ⟨B.blk, B.off + off, none⟩)) (x :: rest) i r := fun hq hf => by
   have ih := findP_ok hi hk hinf hsz hB es rest (i + 1) r hr hf
   have he : (Instr.findAsking kt (.pointer (some ⟨B.blk, B.off + off, none⟩)) (x :: rest) i).run P w = (Instr.findAsking kt (.pointer (some ⟨B.blk, B.off + off, none⟩)) rest (i + 1)).run P w := by
    rw [Instr.findAsking, Sem.run_bind, hq, Result.andThen_ok]
    rfl
   unfold AskOk at ih ⊢
   rw [he]
   exact ih
  cases h1 : Nat.beq id id' with
  | true =>
   rw [h1] at hf
   simp only [cond_true] at hf
   have := Nat.eq_of_beq_eq_true h1
   subst this
   rw [hB] at hB'
   injection hB' with hB'
   subst hB'
   cases h2 : Nat.beq off off' with
   | true =>
    rw [h2] at hf
    have := Nat.eq_of_beq_eq_true h2
    subst this
    injection hf with hf
    subst hf
    refine ⟨x.val, ?_, ho.val⟩
    rw [Instr.findAsking, Sem.run_bind, hstep true (by simp [sameAddr]), Result.andThen_ok]
    rfl
   | false =>
    rw [h2] at hf
    have hne : ¬ off = off' := fun h => by subst h; rw [Nat.beq_refl] at h2; cases h2
    exact hnext (hstep false (by simp [sameAddr, hne])) hf
  | false =>
   rw [h1] at hf
   simp only [cond_false] at hf
   have hne : id ≠ id' := fun h => by subst h; rw [Nat.beq_refl] at h1; cases h1
   cases h2 : (rwcs M id && rwcs M id') with
   | false => rw [h2] at hf; cases hf
   | true =>
    rw [h2] at hf
    rw [Bool.and_eq_true] at h2
    obtain ⟨o, B1, arr, t, fr, g1, g2, g3, g4, g5⟩ := rwcs_of hi h2.1
    obtain ⟨o', B2, arr', t', fr', g1', g2', g3', g4', g5'⟩ := rwcs_of hi h2.2
    rw [hB] at g3; injection g3 with g3; subst g3
    rw [hB'] at g3'; injection g3' with g3'; subst g3'
    exact hnext (hstep false (sameAddr_other (hi.inj id id' o o' _ _ g1 g1' g2 hB hB' hne (thin_rw g2')) g4 g4' g5 g5')) hf
theorem run_findKeyP {w : World} {kt el : TypeId} (hk : P.underlying kt = some (.pointer el)) (v : Value) (xs : List MapEntry) : (Instr.findKey kt v xs).run P w = (Instr.findAsking kt v xs 0).run P w := by
 cases xs with
 | nil => simp [Instr.findKey, run_underlying hk, Result.andThen, Instr.findNow, Instr.findAsking]
 | cons x xs => simp [Instr.findKey, run_underlying hk, Result.andThen, Instr.findNow, Instr.sameNow]
theorem run_checkKeyP {w : World} {kt el : TypeId} (hk : P.underlying kt = some (.pointer el)) (v : Option Addr) (e : Bool) (n : Nat) : (Instr.checkKey e (n + 1) kt (.pointer v)).run P w = .ok () w := by
 unfold Instr.checkKey
 simp only [Sem.run_bind, run_underlying hk, Result.andThen]
 rfl
theorem findA_ok {β : BM} {w : World} {kt e : TypeId} {n : Nat} {q : IntKind} {i' : TypeInfo} (hk : P.underlying kt = some (.array n e)) (he : P.underlying e = some (.int q)) (hinf : P.info? e = some i') (hsz : P.cellsOf e = 1) {l : List MV} {vs : Array Value} (hn : l.length = n) (hl : l.length = vs.size) (hd : ∀ (j : Nat) (x : MV), l[j]? = some x → Den β x (vs.getD j undef)) : ∀ (es : List (MV × MV × Nat)) (xs : List MapEntry) (i : Nat) (r : Option (Nat × MV)), EntOk β es xs → findA l es i = some r → AskOk P β w kt (.agg vs) xs i r
 | [], xs, i, r, h, hf => by
  injection hf with hf
  subst hf
  have : xs = [] := List.length_eq_zero_iff.1 h.1.symm
  subst this
  rfl
 | e' :: es, xs, i, r, h, hf => by
  obtain ⟨x, rest, rfl, ho, hr⟩ := h.inv
  rw [findA_cons] at hf
  have hkey := ho.key
  generalize e'.1 = k at hf hkey
  cases k <;> (try simp only [reduceCtorEq] at hf)
  rename_i l'
  generalize hxk : x.key = kv at hkey
  cases hkey with
  | ag _ vs' hl' hd' =>
  cases hq : eqAg l l' with
  | none => rw [hq] at hf; cases hf
  | some t =>
   rw [hq] at hf
   have key := eqItems_ag (P := P) (w := w) he vs vs' 9998 l l' vs.toList vs'.toList 0 t hq (denL_of hl hd) (denL_of hl' hd') (fun j v hv => by simpa using hv) (fun j v hv => by simpa using hv)
   have harr := run_equalIn_array (P := P) w 9999 vs vs' hk hinf
   rw [hsz, List.range_eq_range', ← hn, key] at harr
   have heq : (Op.equal kt (.agg vs) x.key).run P w = .ok t w := by rw [hxk]; exact harr
   cases t with
   | true =>
    injection hf with hf
    subst hf
    refine ⟨x.val, ?_, ho.val⟩
    rw [Instr.findAsking, Sem.run_bind, heq, Result.andThen_ok]
    rfl
   | false =>
    have ih := findA_ok (w := w) hk he hinf hsz hn hl hd es rest (i + 1) r hr hf
    have hee : (Instr.findAsking kt (.agg vs) (x :: rest) i).run P w = (Instr.findAsking kt (.agg vs) rest (i + 1)).run P w := by
     rw [Instr.findAsking, Sem.run_bind, heq, Result.andThen_ok]
     rfl
    unfold AskOk at ih ⊢
    rw [hee]
    exact ih
theorem run_checkKeyA {w : World} {kt e : TypeId} {n : Nat} {q : IntKind} {i : TypeInfo} (hk : P.underlying kt = some (.array n e)) (he : P.underlying e = some (.int q)) (hinf : P.info? e = some i) (hsz : P.cellsOf e = 1) {vs : Array Value} (hn : vs.size = n) (em : Bool) (m : Nat) : (Instr.checkKey em (m + 2) kt (.agg vs)).run P w = .ok () w := by
 rw [Instr.checkKey]
 simp only [Sem.run_bind, run_underlying hk, Result.andThen_ok]
 simp only [Std.Legacy.Range.forIn_eq_forIn_range', Std.Legacy.Range.size, Nat.sub_zero, Nat.add_one_sub_one, Nat.div_one]
 have each : ∀ j ∈ List.range' 0 n, j < n := fun j hj => by rw [List.mem_range'_1] at hj; omega
 generalize List.range' 0 n = is at each
 induction is with
 | nil => simp
 | cons j is ih =>
  have hj := each j (by simp)
  have p1 : (part e vs (j * 1)).run P w = .ok vs[j] w := run_part_plain w (by simp [Program.plainKey, he]) (by simp)
  have p2 : (Instr.checkKey em (m + 1) e vs[j]).run P w = .ok () w := by
   rw [Instr.checkKey]
   simp only [Sem.run_bind, run_underlying he, Result.andThen_ok]
   rfl
  simp only [List.forIn_cons, Sem.run_bind, run_sizeOf w hinf, hsz, Result.andThen_ok, p1, p2, Sem.run_pure]
  exact ih (fun y hy => each y (by simp [hy]))
theorem does_lkpA {t kt et e : TypeId} {n : Nat} {x y : Operand} {ok : Bool} {q : IntKind} {i i' : TypeInfo} {zv : Value} {a b z m : MV} (hi : Inv β M w) (ht : P.underlying t = some (.map kt et)) (hk : P.underlying kt = some (.array n e)) (he : P.underlying e = some (.int q)) (hie : P.info? e = some i') (hsz : P.cellsOf e = 1) (hinf : P.info? et = some i) (hz : i.zero = some zv) (hzd : ∀ β, Den β z zv)
  (hx : Den β a (ρ x)) (hy : Den β b (ρ y)) (h : rdF (.lkpA n ok z) M a b = some m) : Does P ⟨d, .lookup t x y ok, ty, pos, af, gd⟩ ρ β M w m M := by
 generalize hp : ρ x = u at hx
 generalize hp' : ρ y = u' at hy
 cases hx <;> simp only [rdF, reduceCtorEq] at h
 rename_i id B hB
 cases hy <;> (try simp only [reduceCtorEq] at h)
 rename_i l vs hl hd
 cases hn : (l.length == n) with
 | false => rw [hn] at h; cases h
 | true =>
 rw [hn] at h
 have hn : l.length = n := by simpa using hn
 simp only [cond_true] at h
 cases hg : M.get id with
 | none => rw [hg] at h; cases h
 | some o =>
  cases o with
  | cs ro sz c => rw [hg] at h; cases h
  | mp es ck =>
   rw [hg] at h
   simp only at h
   obtain ⟨B', hB', hO⟩ := hi.obj id _ hg
   rw [hB] at hB'
   injection hB' with hB'
   subst hB'
   obtain ⟨xs, h1, h2, h3⟩ := hO
   have hE : EntOk β es xs.toList := ⟨by simpa using h2, fun j e he => by obtain ⟨q, hq, ho⟩ := h3 j e he; exact ⟨q, by simpa using hq, ho⟩⟩
   have hck := run_checkKeyA (P := P) (w := w) (vs := vs) hk he hie hsz (hl.symm.trans hn) xs.isEmpty 9998
   have hzr : (zeroValue et).run P w = .ok zv w := by simp [zeroValue, typeInfo, hinf, hz]
   have hfe := run_findKey_eq (P := P) w (k := kt) (by rw [hk]) (.agg vs) xs.toList
   cases hf : findA l es 0 with
   | none => rw [hf] at h; cases h
   | some r =>
    rw [hf] at h
    have hfo := findA_ok (w := w) hk he hie hsz hn hl hd es xs.toList 0 r hE hf
    cases r with
    | none =>
     injection h with h
     subst h
     have hfk := hfe.trans hfo
     cases ok with
     | false => exact .pure hi (v := zv) (by simp [execOp, hp, hp', Instr.lookup, run_underlying ht, MapKept.run_getObj_map h1, hck, hfk, hzr, Result.andThen]) (hzd β)
     | true => exact .pure hi (v := .tuple #[zv, .bool false]) (by simp [execOp, hp, hp', Instr.lookup, run_underlying ht, MapKept.run_getObj_map h1, hck, hfk, hzr, Result.andThen]) (DenL.tuple (by simpa using DenL.cons (hzd β) (.cons (.b false) (.nil β))))
    | some qm =>
     obtain ⟨q, mv⟩ := qm
     injection h with h
     subst h
     obtain ⟨u, hfn, hdu⟩ := hfo
     have hfk := hfe.trans hfn
     cases ok with
     | false => exact .pure hi (v := u) (by simp [execOp, hp, hp', Instr.lookup, run_underlying ht, MapKept.run_getObj_map h1, hck, hfk, Result.andThen]) hdu
     | true => exact .pure hi (v := .tuple #[u, .bool true]) (by simp [execOp, hp, hp', Instr.lookup, run_underlying ht, MapKept.run_getObj_map h1, hck, hfk, Result.andThen]) (DenL.tuple (by simpa using DenL.cons hdu (.cons (.b true) (.nil β))))
theorem does_mupA {t kt et e : TypeId} {n : Nat} {x y z : Operand} {q : IntKind} {i' : TypeInfo} {a b c m : MV} (hi : Inv β M w) (ht : P.underlying t = some (.map kt et)) (hk : P.underlying kt = some (.array n e)) (he : P.underlying e = some (.int q)) (hie : P.info? e = some i') (hsz : P.cellsOf e = 1) (hx : Den β a (ρ x)) (hy : Den β b (ρ y)) (hc : Den β c (ρ z)) (h : wrF (.mupA n) M a b c = some (m, M')) : Does P ⟨d, .mapUpdate t x y z, ty, pos, af, gd⟩ ρ β M w m M' := by
 generalize hp : ρ x = u at hx
 cases hx <;> simp only [wrF, reduceCtorEq] at h
 rename_i id B hB
 have hy0 := hy
 generalize hp' : ρ y = u' at hy
 cases hy <;> (try simp only [reduceCtorEq] at h)
 rename_i l vs hl hd
 cases hlo : (l.length == n && Nat.ble M.lo id) with
 | false => rw [hlo] at h; cases h
 | true =>
  rw [hlo] at h
  rw [Bool.and_eq_true] at hlo
  obtain ⟨hn, hlo⟩ := hlo
  have hn : l.length = n := by simpa using hn
  have hlo := Nat.le_of_ble_eq_true hlo
  simp only [cond_true] at h
  cases hg : M.get id with
  | none => rw [hg] at h; cases h
  | some o =>
   cases o with
   | cs ro sz c => rw [hg] at h; cases h
   | mp es ck =>
    rw [hg] at h
    simp only at h
    obtain ⟨B', hB', hO⟩ := hi.obj id _ hg
    rw [hB] at hB'
    injection hB' with hB'
    subst hB'
    obtain ⟨xs, h1, h2, h3⟩ := hO
    have hE : EntOk β es xs.toList := ⟨by simpa using h2, fun j e he => by obtain ⟨q, hq, ho⟩ := h3 j e he; exact ⟨q, by simpa using hq, ho⟩⟩
    have hck := run_checkKeyA (P := P) (w := w) (vs := vs) hk he hie hsz (hl.symm.trans hn) false 9998
    have hlt : B.blk < w.heap.size := hi.lt hg (thin_rw rfl) hB
    have hfe := run_findKey_eq (P := P) w (k := kt) (by rw [hk]) (.agg vs) xs.toList
    cases hf : findA l es 0 with
    | none => rw [hf] at h; cases h
    | some r =>
     rw [hf] at h
     have hfo := findA_ok (w := w) hk he hie hsz hn hl hd es xs.toList 0 r hE hf
     cases r with
     | some qm => cases h
     | none =>
      injection h with h
      injection h with h4 h5
      subst h4 h5
      have hfk := hfe.trans hfo
      refine .skip (w' := { w with heap := w.heap.setIfInBounds B.blk (.map (xs.push { key := ρ y, val := ρ z, born := ck }) (ck + 1)) }) ?_ (Step.turn hi id _ _ B hg rfl rfl hB hlo _ ?_)
      ·simp [execOp, hp, hp', Instr.mapUpdate, run_underlying ht, MapKept.run_getObj_map h1, hck, hfk, MapKept.run_setObj_map _ h1, Result.andThen]
      ·refine ⟨xs.push { key := ρ y, val := ρ z, born := ck }, by simp [hlt], by simp [h2], fun j e he => ?_⟩
       rcases Nat.lt_or_ge j es.length with hj | hj
       ·rw [List.getElem?_append_left hj] at he
        obtain ⟨q, hq, ho⟩ := h3 j e he
        exact ⟨q, by rw [Array.getElem?_push_lt (by omega)]; rw [Array.getElem?_eq_getElem (by omega)] at hq; exact hq, ho⟩
       ·rw [List.getElem?_append_right hj] at he
        have hj0 : j - es.length = 0 := by
         have := (List.getElem?_eq_some_iff.1 he).1
         simp at this
         omega
        rw [hj0] at he
        simp only [List.getElem?_cons_zero, Option.some.injEq] at he
        subst he
        have : j = xs.size := by omega
        subst this
        exact ⟨_, Array.getElem?_push_size, hy0, hc, rfl⟩
theorem does_lkpP {t kt et el : TypeId} {x y : Operand} {ok : Bool} {i q : TypeInfo} {zv : Value} {a b z m : MV} (hi : Inv β M w) (ht : P.underlying t = some (.map kt et)) (hk : P.underlying kt = some (.pointer el)) (hel : P.info? el = some q) (hsz : P.cellsOf el ≠ 0) (hinf : P.info? et = some i) (hz : i.zero = some zv) (hzd : ∀ β, Den β z zv)
  (hx : Den β a (ρ x)) (hy : Den β b (ρ y)) (h : rdF (.lkpP ok z) M a b = some m) : Does P ⟨d, .lookup t x y ok, ty, pos, af, gd⟩ ρ β M w m M := by
 generalize hp : ρ x = u at hx
 generalize hp' : ρ y = u' at hy
 cases hx <;> simp only [rdF, reduceCtorEq] at h
 rename_i id B hB
 cases hy <;> (try simp only [reduceCtorEq] at h)
 rename_i kid koff KB hKB
 cases hg : M.get id with
 | none => rw [hg] at h; cases h
 | some o =>
  cases o with
  | cs ro sz c => rw [hg] at h; cases h
  | mp es ck =>
   rw [hg] at h
   simp only at h
   obtain ⟨B', hB', hO⟩ := hi.obj id _ hg
   rw [hB] at hB'
   injection hB' with hB'
   subst hB'
   obtain ⟨xs, h1, h2, h3⟩ := hO
   have hE : EntOk β es xs.toList := ⟨by simpa using h2, fun j e he => by obtain ⟨q, hq, ho⟩ := h3 j e he; exact ⟨q, by simpa using hq, ho⟩⟩
   have hck := run_checkKeyP (P := P) (w := w) hk (some ⟨KB.blk, KB.off + koff, none⟩) xs.isEmpty 9999
   have hzr : (zeroValue et).run P w = .ok zv w := by simp [zeroValue, typeInfo, hinf, hz]
   cases hf : findP M kid koff es 0 with
   | none => rw [hf] at h; cases h
   | some r =>
    rw [hf] at h
    have hfo := findP_ok hi hk hel hsz hKB es xs.toList 0 r hE hf
    cases r with
    | none =>
     injection h with h
     subst h
     have hfk := (run_findKeyP (P := P) (w := w) hk _ xs.toList).trans hfo
     cases ok with
     | false => exact .pure hi (v := zv) (by simp [execOp, hp, hp', Instr.lookup, run_underlying ht, MapKept.run_getObj_map h1, hck, hfk, hzr, Result.andThen]) (hzd β)
     | true => exact .pure hi (v := .tuple #[zv, .bool false]) (by simp [execOp, hp, hp', Instr.lookup, run_underlying ht, MapKept.run_getObj_map h1, hck, hfk, hzr, Result.andThen]) (DenL.tuple (by simpa using DenL.cons (hzd β) (.cons (.b false) (.nil β))))
    | some qm =>
     obtain ⟨q, mv⟩ := qm
     injection h with h
     subst h
     obtain ⟨u, hfn, hdu⟩ := hfo
     have hfk := (run_findKeyP (P := P) (w := w) hk _ xs.toList).trans hfn
     cases ok with
     | false => exact .pure hi (v := u) (by simp [execOp, hp, hp', Instr.lookup, run_underlying ht, MapKept.run_getObj_map h1, hck, hfk, Result.andThen]) hdu
     | true => exact .pure hi (v := .tuple #[u, .bool true]) (by simp [execOp, hp, hp', Instr.lookup, run_underlying ht, MapKept.run_getObj_map h1, hck, hfk, Result.andThen]) (DenL.tuple (by simpa using DenL.cons hdu (.cons (.b true) (.nil β))))
theorem does_mupP {t kt et el : TypeId} {x y z : Operand} {q : TypeInfo} {a b c m : MV} (hi : Inv β M w) (ht : P.underlying t = some (.map kt et)) (hk : P.underlying kt = some (.pointer el)) (hel : P.info? el = some q) (hsz : P.cellsOf el ≠ 0) (hx : Den β a (ρ x)) (hy : Den β b (ρ y)) (hc : Den β c (ρ z)) (h : wrF .mupP M a b c = some (m, M')) : Does P ⟨d, .mapUpdate t x y z, ty, pos, af, gd⟩ ρ β M w m M' := by
 generalize hp : ρ x = u at hx
 cases hx <;> simp only [wrF, reduceCtorEq] at h
 rename_i id B hB
 have hy0 := hy
 generalize hp' : ρ y = u' at hy
 cases hy <;> (try simp only [reduceCtorEq] at h)
 rename_i kid koff KB hKB
 cases hlo : Nat.ble M.lo id with
 | false => rw [hlo] at h; cases h
 | true =>
  rw [hlo] at h
  have hlo := Nat.le_of_ble_eq_true hlo
  simp only [cond_true] at h
  cases hg : M.get id with
  | none => rw [hg] at h; cases h
  | some o =>
   cases o with
   | cs ro sz c => rw [hg] at h; cases h
   | mp es ck =>
    rw [hg] at h
    simp only at h
    obtain ⟨B', hB', hO⟩ := hi.obj id _ hg
    rw [hB] at hB'
    injection hB' with hB'
    subst hB'
    obtain ⟨xs, h1, h2, h3⟩ := hO
    have hE : EntOk β es xs.toList := ⟨by simpa using h2, fun j e he => by obtain ⟨q, hq, ho⟩ := h3 j e he; exact ⟨q, by simpa using hq, ho⟩⟩
    have hck := run_checkKeyP (P := P) (w := w) hk (some ⟨KB.blk, KB.off + koff, none⟩) false 9999
    have hlt : B.blk < w.heap.size := hi.lt hg (thin_rw rfl) hB
    cases hf : findP M kid koff es 0 with
    | none => rw [hf] at h; cases h
    | some r =>
     rw [hf] at h
     have hfo := findP_ok hi hk hel hsz hKB es xs.toList 0 r hE hf
     cases r with
     | some qm => cases h
     | none =>
      injection h with h
      injection h with h4 h5
      subst h4 h5
      have hfk := (run_findKeyP (P := P) (w := w) hk _ xs.toList).trans hfo
      refine .skip (w' := { w with heap := w.heap.setIfInBounds B.blk (.map (xs.push { key := ρ y, val := ρ z, born := ck }) (ck + 1)) }) ?_ (Step.turn hi id _ _ B hg rfl rfl hB hlo _ ?_)
      ·simp [execOp, hp, hp', Instr.mapUpdate, run_underlying ht, MapKept.run_getObj_map h1, hck, hfk, MapKept.run_setObj_map _ h1, Result.andThen]
      ·refine ⟨xs.push { key := ρ y, val := ρ z, born := ck }, by simp [hlt], by simp [h2], fun j e he => ?_⟩
       rcases Nat.lt_or_ge j es.length with hj | hj
       ·rw [List.getElem?_append_left hj] at he
        obtain ⟨q, hq, ho⟩ := h3 j e he
        exact ⟨q, by rw [Array.getElem?_push_lt (by omega)]; rw [Array.getElem?_eq_getElem (by omega)] at hq; exact hq, ho⟩
       ·rw [List.getElem?_append_right hj] at he
        have hj0 : j - es.length = 0 := by
         have := (List.getElem?_eq_some_iff.1 he).1
         simp at this
         omega
        rw [hj0] at he
        simp only [List.getElem?_cons_zero, Option.some.injEq] at he
        subst he
        have : j = xs.size := by omega
        subst this
        exact ⟨_, Array.getElem?_push_size, hy0, hc, rfl⟩
theorem does_lkp {t kt et : TypeId} {x y : Operand} {ok : Bool} {kd : Option IntKind} {i : TypeInfo} {zv : Value} {a b z m : MV} (hi : Inv β M w) (ht : P.underlying t = some (.map kt et)) (hk : P.underlying kt = some (keyDesc kd)) (hinf : P.info? et = some i) (hz : i.zero = some zv) (hzd : ∀ β, Den β z zv)
  (hx : Den β a (ρ x)) (hy : Den β b (ρ y)) (h : rdF (.lkp kd ok z) M a b = some m) : Does P ⟨d, .lookup t x y ok, ty, pos, af, gd⟩ ρ β M w m M := by
 generalize hp : ρ x = u at hx
 cases hx <;> simp only [rdF, reduceCtorEq] at h
 rename_i id B hB
 cases hko : keyOk kd b with
 | false => rw [hko] at h; cases h
 | true =>
  rw [hko] at h
  simp only [cond_true] at h
  cases hg : M.get id with
  | none => rw [hg] at h; cases h
  | some o =>
   cases o with
   | cs ro sz c => rw [hg] at h; cases h
   | mp es ck =>
    rw [hg] at h
    simp only at h
    obtain ⟨B', hB', hO⟩ := hi.obj id _ hg
    rw [hB] at hB'
    injection hB' with hB'
    subst hB'
    obtain ⟨xs, h1, h2, h3⟩ := hO
    have hE : EntOk β es xs.toList := ⟨by simpa using h2, fun j e he => by obtain ⟨q, hq, ho⟩ := h3 j e he; exact ⟨q, by simpa using hq, ho⟩⟩
    have hkey := keyOk_is hko hy
    have hck := MapKept.run_checkKey (P := P) (w := w) hk hkey xs.isEmpty 9999
    have hzr : (zeroValue et).run P w = .ok zv w := by simp [zeroValue, typeInfo, hinf, hz]
    cases hf : findM b es 0 with
    | none => rw [hf] at h; cases h
    | some r =>
     rw [hf] at h
     have hfo := find_ok hko hy es xs.toList 0 r hE hf
     cases r with
     | none =>
      injection h with h
      subst h
      have hfk := MapKept.run_findKey (P := P) (w := w) hk hfo
      cases ok with
      | false => exact .pure hi (v := zv) (by simp [execOp, hp, Instr.lookup, run_underlying ht, MapKept.run_getObj_map h1, hck, hfk, hzr, Result.andThen]) (hzd β)
      | true => exact .pure hi (v := .tuple #[zv, .bool false]) (by simp [execOp, hp, Instr.lookup, run_underlying ht, MapKept.run_getObj_map h1, hck, hfk, hzr, Result.andThen]) (DenL.tuple (by simpa using DenL.cons (hzd β) (.cons (.b false) (.nil β))))
     | some qm =>
      obtain ⟨q, mv⟩ := qm
      injection h with h
      subst h
      obtain ⟨j, ex, u, -, hfn, hdu, -, -⟩ := hfo
      have hfk := MapKept.run_findKey (P := P) (w := w) hk hfn
      cases ok with
      | false => exact .pure hi (v := u) (by simp [execOp, hp, Instr.lookup, run_underlying ht, MapKept.run_getObj_map h1, hck, hfk, Result.andThen]) hdu
      | true => exact .pure hi (v := .tuple #[u, .bool true]) (by simp [execOp, hp, Instr.lookup, run_underlying ht, MapKept.run_getObj_map h1, hck, hfk, Result.andThen]) (DenL.tuple (by simpa using DenL.cons hdu (.cons (.b true) (.nil β))))
theorem does_mup {t kt et : TypeId} {x y z : Operand} {kd : Option IntKind} {a b c m : MV} (hi : Inv β M w) (ht : P.underlying t = some (.map kt et)) (hk : P.underlying kt = some (keyDesc kd)) (hx : Den β a (ρ x)) (hy : Den β b (ρ y)) (hc : Den β c (ρ z)) (h : wrF (.mup kd) M a b c = some (m, M')) : Does P ⟨d, .mapUpdate t x y z, ty, pos, af, gd⟩ ρ β M w m M' := by
 generalize hp : ρ x = u at hx
 cases hx <;> simp only [wrF, reduceCtorEq] at h
 rename_i id B hB
 cases hko : (keyOk kd b && Nat.ble M.lo id) with
 | false => rw [hko] at h; cases h
 | true =>
  rw [hko] at h
  simp only [Bool.and_eq_true] at hko
  obtain ⟨hko, hlo⟩ := hko
  have hlo := Nat.le_of_ble_eq_true hlo
  simp only [cond_true] at h
  cases hg : M.get id with
  | none => rw [hg] at h; cases h
  | some o =>
   cases o with
   | cs ro sz c => rw [hg] at h; cases h
   | mp es ck =>
    rw [hg] at h
    simp only at h
    obtain ⟨B', hB', hO⟩ := hi.obj id _ hg
    rw [hB] at hB'
    injection hB' with hB'
    subst hB'
    obtain ⟨xs, h1, h2, h3⟩ := hO
    have hE : EntOk β es xs.toList := ⟨by simpa using h2, fun j e he => by obtain ⟨q, hq, ho⟩ := h3 j e he; exact ⟨q, by simpa using hq, ho⟩⟩
    have hkey := keyOk_is hko hy
    have hck := MapKept.run_checkKey (P := P) (w := w) hk hkey false 9999
    have hlt : B.blk < w.heap.size := hi.lt hg (thin_rw rfl) hB
    cases hf : findM b es 0 with
    | none => rw [hf] at h; cases h
    | some r =>
     rw [hf] at h
     have hfo := find_ok hko hy es xs.toList 0 r hE hf
     cases r with
     | none =>
      injection h with h
      injection h with h4 h5
      subst h4 h5
      have hfk := MapKept.run_findKey (P := P) (w := w) hk hfo
      refine .skip (w' := { w with heap := w.heap.setIfInBounds B.blk (.map (xs.push { key := ρ y, val := ρ z, born := ck }) (ck + 1)) }) ?_ (Step.turn hi id _ _ B hg rfl rfl hB hlo _ ?_)
      ·simp [execOp, hp, Instr.mapUpdate, run_underlying ht, MapKept.run_getObj_map h1, hck, hfk, MapKept.run_setObj_map _ h1, Result.andThen]
      ·refine ⟨xs.push { key := ρ y, val := ρ z, born := ck }, by simp [hlt], by simp [h2], fun j e he => ?_⟩
       rcases Nat.lt_or_ge j es.length with hj | hj
       ·rw [List.getElem?_append_left hj] at he
        obtain ⟨q, hq, ho⟩ := h3 j e he
        exact ⟨q, by rw [Array.getElem?_push_lt (by omega)]; rw [Array.getElem?_eq_getElem (by omega)] at hq; exact hq, ho⟩
       ·rw [List.getElem?_append_right hj] at he
        have hj0 : j - es.length = 0 := by
         have := (List.getElem?_eq_some_iff.1 he).1
         simp at this
         omega
        rw [hj0] at he
        simp only [List.getElem?_cons_zero, Option.some.injEq] at he
        subst he
        have : j = xs.size := by omega
        subst this
        exact ⟨_, Array.getElem?_push_size, hy, hc, rfl⟩
     | some qm =>
      obtain ⟨q, mv⟩ := qm
      simp only at h
      obtain ⟨j, ex, u, hqj, hfn, hdu, hxj, hkj⟩ := hfo
      have hqj : q = j := by omega
      subst hqj
      rw [Nat.zero_add] at hfn
      cases he : es[q]? with
      | none => rw [he] at h; cases h
      | some e =>
       rw [he] at h
       injection h with h
       injection h with h4 h5
       subst h4 h5
       have hfk := MapKept.run_findKey (P := P) (w := w) hk hfn
       have hxj' : xs[q]? = some ex := by simpa using hxj
       have hks := MapKept.run_keyThatStays (P := P) (w := w) hkey
       refine .skip (w' := { w with heap := w.heap.setIfInBounds B.blk (.map (xs.modify q fun e => { key := ρ y, val := ρ z, born := e.born }) ck) }) ?_ (Step.turn hi id _ _ B hg rfl rfl hB hlo _ ?_)
       ·simp [execOp, hp, Instr.mapUpdate, run_underlying ht, MapKept.run_getObj_map h1, hck, hfk, hxj', hkj, hks, MapKept.run_setObj_map _ h1, Result.andThen]
       ·refine ⟨xs.modify q fun e => { key := ρ y, val := ρ z, born := e.born }, by simp [hlt], by simp [h2], fun j' e' he' => ?_⟩
        rw [List.getElem?_set] at he'
        by_cases hj : q = j'
        ·subst hj
         rw [if_pos rfl] at he'
         split at he'
         ·injection he' with he'
          subst he'
          obtain ⟨q2, hq2, ho⟩ := h3 q e he
          rw [hxj'] at hq2
          injection hq2 with hq2
          subst hq2
          exact ⟨{ key := ρ y, val := ρ z, born := ex.born }, by rw [Array.getElem?_modify, if_pos rfl, hxj']; rfl, hy, hc, ho.born⟩
         ·cases he'
        ·rw [if_neg hj] at he'
         obtain ⟨q2, hq2, ho⟩ := h3 j' e' he'
         exact ⟨q2, by rw [Array.getElem?_modify, if_neg hj]; exact hq2, ho⟩
theorem copy_go {t1 t2 e : TypeId} {x y : Operand} {id off n ed sz q : Nat} {c : T MV} {l : List MV} {vs : List Value} {a : Addr} {sl sc : Nat} (hi : Inv β M w) (h1 : P.underlying t1 = some (.slice e)) (hs : (P.info? e).map (·.size) = some 1) (hx : Den β (.sl id off n ed) (ρ x)) (hy : ρ y = .slice (some a) sl sc)
  (hl : DenL β l vs) (ho : ∀ u ∈ vs, u.oneCell' = true) (hr : ∀ (j : Nat) (v : Value), vs[j]? = some v → w.cell? (a.add j) = some v) (hlen : l.length = Nat.min sl n) (hq : l.length = q + 1) (hg : M.get id = some (.cs false sz c)) (hlo : M.lo ≤ id) (hc : hasN c l.length off) :
  Does P ⟨d, .call { callee := .builtin .copy, args := #[x, y], argTypes := #[t1, t2] }, ty, pos, af, gd⟩ ρ β M w (.i .i64 (q + 1 : Nat)) (M.set id (some (.cs false sz (setN l off c)))) := by
 obtain ⟨B, hB, ht, hst⟩ := write_cells hi hg hlo hl hc
 generalize hp : ρ x = u at hx
 cases hx with
 | sl _ _ _ _ B' ad hB' hcap ha =>
  rw [hB] at hB'
  injection hB' with hB'
  subst hB'
  have hn : 0 < n := by
   have : Nat.min sl n ≤ n := Nat.min_le_right _ _
   omega
  have ha' := ha (by omega)
  subst ha'
  have hvl : vs.length = Nat.min sl n := by rw [← hl.1]; exact hlen
  have := run_copy_cells (P := P) w t1 t2 ty e B.blk (B.off + off) n (B.cap - ed) a sl sc vs h1 hs hvl hr (fun j hj => (ht j hj).1) (fun j hj => (ht j hj).2) ho
  have hvq : vs.length = q + 1 := by rw [← hl.1]; exact hq
  rw [hvq] at this
  exact .val (v := goInt (q + 1 : Nat)) (by simp [execOp, resolve, invoke, builtin, hp, hy, this]) (.i _ _) hst
theorem does_cpy {t1 t2 e e2 : TypeId} {x y z : Operand} {a b c' m : MV} (hi : Inv β M w) (h1 : P.underlying t1 = some (.slice e)) (hs : (P.info? e).map (·.size) = some 1) (hx : Den β a (ρ x)) (hy : Den β b (ρ y)) (h : wrF .cpy M a b c' = some (m, M')) :
  Does P ⟨d, .call { callee := .builtin .copy, args := #[x, y], argTypes := #[t1, t2] }, ty, pos, af, gd⟩ ρ β M w m M' := by
 cases a <;> simp only [wrF, reduceCtorEq] at h
 rename_i id off n ed
 cases hsrc : srcM M 1 b with
 | none => rw [hsrc] at h; cases h
 | some ml =>
  obtain ⟨k, l⟩ := ml
  rw [hsrc] at h
  simp only at h
  cases hck : (Nat.ble (min k n) l.length && allOne (l.take (min k n))) with
  | false => rw [hck] at h; cases h
  | true =>
   rw [hck] at h
   simp only [Bool.and_eq_true] at hck
   obtain ⟨hle, hone⟩ := hck
   have hle := Nat.le_of_ble_eq_true hle
   simp only [cond_true] at h
   have hsl : ∃ (a : Option Addr) (sc : Nat), ρ y = .slice a k sc ∧ (0 < k → ∃ (a' : Addr) (vs : List Value), a = some a' ∧ DenL β l vs ∧ ∀ (j : Nat) (v : Value), vs[j]? = some v → w.cell? (a'.add j) = some v) := by
    generalize hp : ρ y = u at hy
    cases hy <;> simp only [srcM, reduceCtorEq] at hsrc
    case nils =>
     injection hsrc with hsrc
     injection hsrc with h2 h3
     subst h2 h3
     exact ⟨none, 0, rfl, fun h => by cases h⟩
    case sl id2 off2 m2 ed2 B2 ad2 hB2 hcap2 ha2 =>
     cases m2 with
     | zero =>
      injection hsrc with hsrc
      injection hsrc with h2 h3
      subst h2 h3
      exact ⟨_, _, rfl, fun h => by cases h⟩
     | succ m2 =>
      simp only at hsrc
      cases hg : M.get id2 with
      | none => rw [hg] at hsrc; cases hsrc
      | some o =>
       cases o with
       | mp es ck => rw [hg] at hsrc; cases hsrc
       | cs ro s c =>
        rw [hg] at hsrc
        simp only at hsrc
        cases hl : getN c ((m2 + 1) * 1) off2 with
        | none => rw [hl] at hsrc; cases hsrc
        | some r =>
         rw [hl] at hsrc
         injection hsrc with hsrc
         injection hsrc with h2 h3
         subst h2 h3
         obtain ⟨B', vs, hB', hd, hlen, hr⟩ := read_list hi hg hl
         rw [hB2] at hB'
         injection hB' with hB'
         subst hB'
         have ha' := ha2 (by omega)
         subst ha'
         exact ⟨_, _, rfl, fun _ => ⟨_, vs, rfl, hd, fun j v hj => by rw [Addr.add_lit]; exact hr j v hj⟩⟩
   obtain ⟨sa, sc, hyv, hsa⟩ := hsl
   cases hmin : min k n with
   | zero =>
    rw [hmin] at h
    injection h with h
    injection h with h2 h3
    subst h2 h3
    generalize hp : ρ x = u at hx
    cases hx with
    | sl _ _ _ _ B ad hB hcap ha =>
     have := run_copy_none (P := P) w t1 t2 ty e (some ad) sa n (B.cap - ed) k sc h1 hs hmin
     exact .pure hi (v := goInt 0) (by simp [execOp, resolve, invoke, builtin, hp, hyv, this]) (.i _ _)
   | succ q =>
    rw [hmin] at h hle hone
    simp only at h
    have hk : 0 < k := by
     have : min k n ≤ k := Nat.min_le_left _ _
     omega
    obtain ⟨a', vs, rfl, hd, hr⟩ := hsa hk
    cases hg : M.get id with
    | none => rw [hg] at h; cases h
    | some o =>
     cases o with
     | mp es ck => rw [hg] at h; cases h
     | cs ro s c =>
      rw [hg] at h
      cases ro with
      | true => cases h
      | false =>
       simp only at h
       cases hb : (Nat.ble M.lo id && hasB c (q + 1) off) with
       | false => rw [hb] at h; cases h
       | true =>
        rw [hb] at h
        simp only [Bool.and_eq_true] at hb
        injection h with h
        injection h with h2 h3
        subst h2 h3
        have hdt : DenL β (l.take (q + 1)) (vs.take (q + 1)) := by
         refine ⟨by rw [List.length_take, List.length_take, hd.1], fun j m hj => ?_⟩
         rw [List.getElem?_take] at hj ⊢
         split at hj
         ·rename_i hlt
          rw [if_pos hlt]
          exact hd.2 j m hj
         ·cases hj
        have hlt : (l.take (q + 1)).length = q + 1 := by rw [List.length_take]; omega
        exact copy_go (q := q) hi h1 hs hx hyv hdt (allOne_den hdt hone) (fun j v hj => hr j v (by rw [List.getElem?_take] at hj; split at hj; exact hj; cases hj)) (by rw [hlt]; exact hmin.symm) hlt hg (Nat.le_of_ble_eq_true hb.1) (by rw [hlt]; exact hasB_ok hb.2)
end
inductive Iop where
 | mov (x : X)
 | pick (c a b : X)
 | new (l : List MV)
 | box (x : X)
 | build (zs : List MV) (parts : List (Nat × Nat × X))
 | bsl (sz n : Nat) (zs : List MV) (parts : List (Nat × Nat × X))
 | ld1 (x : X)
 | ldN (n : Nat) (x : X)
 | st (n : Nat) (x y : X)
 | nck (x : X)
 | binI (op : BinOp) (x y : X)
 | binB (op : BinOp) (x y : X)
 | binN (n : NilKind) (op : BinOp) (x y : X)
 | un (op : UnOp) (x : X)
 | cvI (k : IntKind) (x : X)
 | fld1 (o : Nat) (x : X)
 | fldN (o n : Nat) (x : X)
 | fa (o : Nat) (x : X)
 | ixA (n s : Nat) (x i : X)
 | ixS (s : Nat) (x i : X)
 | ext (x : X) (i : Nat)
 | mks (sz bytes : Nat) (zs : List MV) (x y : X)
 | mkm
 | cut (sz : Nat) (x : X) (lo hi : Option X)
 | app (sz bytes : Nat) (x y : X)
 | len (x : X)
 | lenT (x : X)
 | mn (x y : X)
 | mx (x y : X)
 | call (f : Nat) (l : List X)
 | bad
 | mkf (f : Fn) (a c : List X)
 | callv (x : X) (l : List X)
 | cvS (x : X)
 | pu2 (g : PG) (x y : X)
 | rdm (g : RG) (x y : X)
 | wrm (g : WG) (x y z : X)
 | nat (F : List MV → MH → Option (MV × MH)) (l : List X)
inductive Fits (P : Program) : Op → Iop → Prop where
 | mov {x : Operand} {a : X} (h : opX x = some a) : Fits P (.move x) (.mov a)
 | asg {x : Operand} {a : X} (h : opX x = some a) : Fits P (.assign x) (.mov a)
 | pick {x y z : Operand} {a b c : X} (h : opX x = some a) (h' : opX y = some b) (h'' : opX z = some c) : Fits P (.pick x y z) (.pick a b c)
 | new {e : TypeId} {i : TypeInfo} {z : Value} {l : List MV} (h1 : P.info? e = some i) (h2 : i.zero = some z) (h3 : mvsOf z.cells.toList = some l) : Fits P (.alloc e) (.new l)
 | box {e : TypeId} {x : Operand} {a : X} (h : opX x = some a) : Fits P (.box e x) (.box a)
 | build {t : TypeId} {z : Value} {zs : List MV} {place : Nat → Option (Nat × Nat)} {ps : Array (Nat × Operand)} {parts : List (Nat × Nat × X)} (hb : ∀ qs, P.built t qs = Instr.fill place z.cells qs) (hz : mvsOf z.cells.toList = some zs) (hp : resParts place ps.toList = some parts) : Fits P (.build t ps) (.build zs parts)
 | bsl {t e : TypeId} {i : TypeInfo} {z : Value} {zs : List MV} {n : Nat} {ps : Array (Nat × Operand)} {parts : List (Nat × Nat × X)} (ht : P.underlying t = some (.slice e)) (h1 : P.info? e = some i) (h2 : i.zero = some z) (h3 : i.size = z.cells.size) (h4 : n * i.size ≤ 16777216) (hz : mvsOf z.cells.toList = some zs)
   (hp : resParts (fun j => some (j * i.size, i.size)) ps.toList = some parts) : Fits P (.buildSlice t n ps) (.bsl i.size n zs parts)
 | ld1 {t : TypeId} {x : Operand} {a : X} {k : TypeDesc} (hk : P.underlying t = some k) (hk' : k.isRow = false) (h : opX x = some a) : Fits P (.load t x) (.ld1 a)
 | ldN {t : TypeId} {x : Operand} {a : X} {k : TypeDesc} {n : Nat} (hk : P.underlying t = some k) (hk' : k.isRow = true) (hn : (P.info? t).map (·.size) = some n) (h : opX x = some a) : Fits P (.load t x) (.ldN n a)
 | st {t : TypeId} {x y : Operand} {a b : X} {n : Nat} (hn : (P.info? t).map (·.size) = some n) (h : opX x = some a) (h' : opX y = some b) : Fits P (.store t x y) (.st n a b)
 | nck {x : Operand} {a : X} (h : opX x = some a) : Fits P (.nilCheck x) (.nck a)
 | binI {op : BinOp} {t yt : TypeId} {x y : Operand} {a b : X} (h : opX x = some a) (h' : opX y = some b) : Fits P (.binOp op t x y yt) (.binI op a b)
 | binB {op : BinOp} {t yt : TypeId} {x y : Operand} {a b : X} (ht : P.underlying t = some .bool) (h : opX x = some a) (h' : opX y = some b) : Fits P (.binOp op t x y yt) (.binB op a b)
 | binN {op : BinOp} {t yt : TypeId} {x y : Operand} {a b : X} {k : TypeDesc} {n : NilKind} (ht : P.underlying t = some k) (hk : nilKind k = some n) (h : opX x = some a) (h' : opX y = some b) : Fits P (.binOp op t x y yt) (.binN n op a b)
 | un {op : UnOp} {t : TypeId} {x : Operand} {a : X} (h : opX x = some a) : Fits P (.unOp op t x) (.un op a)
 | cvI {s t : TypeId} {x : Operand} {a : X} {k : IntKind} {e : TypeDesc} (hs : P.underlying s = some e) (ht : P.underlying t = some (.int k)) (h : opX x = some a) : Fits P (.convert s t x) (.cvI k a)
 | fld1 {s : TypeId} {x : Operand} {a : X} {f n : Nat} {fs : Array Field} {fd : Field} {k : TypeDesc} (hs : P.underlying s = some (.struct fs)) (hf : fs[f]? = some fd) (ht : P.underlying fd.type = some k) (hk : k.isRow = false) (hn : (P.info? fd.type).map (·.size) = some n) (h : opX x = some a) : Fits P (.field s x f) (.fld1 fd.offset a)
 | fldN {s : TypeId} {x : Operand} {a : X} {f n : Nat} {fs : Array Field} {fd : Field} {k : TypeDesc} (hs : P.underlying s = some (.struct fs)) (hf : fs[f]? = some fd) (ht : P.underlying fd.type = some k) (hk : k.isRow = true) (hn : (P.info? fd.type).map (·.size) = some n) (h : opX x = some a) : Fits P (.field s x f) (.fldN fd.offset n a)
 | fa {s : TypeId} {x : Operand} {a : X} {f n : Nat} {fs : Array Field} {fd : Field} (hs : P.underlying s = some (.struct fs)) (hf : fs[f]? = some fd) (hn : (P.info? fd.type).map (·.size) = some (n + 1)) (h : opX x = some a) : Fits P (.fieldAddr s x f) (.fa fd.offset a)
 | ixA {t e : TypeId} {x y : Operand} {a b : X} {n s : Nat} (ht : P.underlying t = some (.array n e)) (hs : (P.info? e).map (·.size) = some s) (h : opX x = some a) (h' : opX y = some b) : Fits P (.indexAddr t x y) (.ixA n s a b)
 | ixS {t e : TypeId} {x y : Operand} {a b : X} {s : Nat} (ht : P.underlying t = some (.slice e)) (hs : (P.info? e).map (·.size) = some s) (h : opX x = some a) (h' : opX y = some b) : Fits P (.indexAddr t x y) (.ixS s a b)
 | ext {x : Operand} {a : X} {i : Nat} (h : opX x = some a) : Fits P (.extract x i) (.ext a i)
 | mks {t e : TypeId} {i : TypeInfo} {z : Value} {zs : List MV} {x y : Operand} {a b : X} (ht : P.underlying t = some (.slice e)) (h1 : P.info? e = some i) (h2 : i.zero = some z) (h3 : i.size = z.cells.size) (hz : mvsOf z.cells.toList = some zs) (h : opX x = some a) (h' : opX y = some b) : Fits P (.makeSlice t x y) (.mks i.size i.bytes zs a b)
 | mkm {t : TypeId} : Fits P (.makeMap t none) .mkm
 | cut {t e : TypeId} {i : TypeInfo} {x : Operand} {lo hi : Option Operand} {a : X} {l h : Option X} (ht : P.underlying t = some (.slice e)) (h1 : P.info? e = some i) (h0 : opX x = some a) (hl : opXo lo = some l) (hh : opXo hi = some h) : Fits P (.slice t x lo hi none) (.cut i.size a l h)
 | app {t tx e e' : TypeId} {i : TypeInfo} {z : Value} {x y : Operand} {a b : X} (ht : P.underlying t = some (.slice e)) (h1 : P.info? e = some i) (h2 : i.zero = some z) (h3 : i.size = z.cells.size) (hk : P.underlying tx = some (.slice e')) (h : opX x = some a) (h' : opX y = some b) :
   Fits P (.call { callee := .builtin .append, args := #[x, y], argTypes := #[t, tx] }) (.app i.size i.bytes a b)
 | lenS {t e : TypeId} {x : Operand} {a : X} (ht : P.underlying t = some (.slice e)) (h : opX x = some a) : Fits P (.call { callee := .builtin .len, args := #[x], argTypes := #[t] }) (.len a)
 | lenT {t : TypeId} {x : Operand} {a : X} (ht : P.underlying t = some .string) (h : opX x = some a) : Fits P (.call { callee := .builtin .len, args := #[x], argTypes := #[t] }) (.lenT a)
 | mn {x y : Operand} {a b : X} {ts : Array TypeId} (h : opX x = some a) (h' : opX y = some b) : Fits P (.call { callee := .builtin .min, args := #[x, y], argTypes := ts }) (.mn a b)
 | mx {x y : Operand} {a b : X} {ts : Array TypeId} (h : opX x = some a) (h' : opX y = some b) : Fits P (.call { callee := .builtin .max, args := #[x, y], argTypes := ts }) (.mx a b)
 | call {f : Nat} {fn : Func} {c : Code} {xs : Array Operand} {l : List X} {ts : Array TypeId} (hf : P.funcs[f]? = some fn) (hn : (fn.name == "runtime.NumGoroutine") = false) (hb : fn.body = some c) (h : opXs xs.toList = some l) : Fits P (.call { callee := .value (.func f), args := xs, argTypes := ts }) (.call f l)
 | bad {op : Op} : Fits P op .bad
 | mkf {f : Fn} {xs ys : Array Operand} {a c : List X} (h : opXs xs.toList = some a) (h' : opXs ys.toList = some c) : Fits P (.makeFunc f xs ys) (.mkf f a c)
 | callv {x : Operand} {a : X} {xs : Array Operand} {l : List X} {ts : Array TypeId} (h : opX x = some a) (h' : opXs xs.toList = some l) : Fits P (.call { callee := .value x, args := xs, argTypes := ts }) (.callv a l)
 | cvS {s e : TypeId} {x : Operand} {a : X} (hs : P.underlying s = some (.slice e)) (he : P.underlying e = some (.int .u8)) (h : opX x = some a) : Fits P (.convert s s x) (.cvS a)
 | ixT {t : TypeId} {x y : Operand} {a b : X} (ht : P.underlying t = some .string) (h : opX x = some a) (h' : opX y = some b) : Fits P (.index t x y) (.pu2 .ixT a b)
 | ixL {t e : TypeId} {n : Nat} {q : TypeInfo} {x y : Operand} {a b : X} (ht : P.underlying t = some (.array n e)) (he : P.plainKey e = true) (hinf : P.info? e = some q) (hsz : P.cellsOf e = 1) (h : opX x = some a) (h' : opX y = some b) : Fits P (.index t x y) (.pu2 (.ixL n) a b)
 | eqA {t e yt : TypeId} {n : Nat} {q : IntKind} {i : TypeInfo} {x y : Operand} {op : BinOp} {neg : Bool} {a b : X} (ho : op = bif neg then .neq else .eql) (ht : P.underlying t = some (.array n e)) (he : P.underlying e = some (.int q)) (hinf : P.info? e = some i) (hsz : P.cellsOf e = 1) (hgt : P.eqGuardType P.depth t = false) (h : opX x = some a) (h' : opX y = some b) : Fits P (.binOp op t x y yt) (.pu2 (.eqA n neg) a b)
 | eqS {t yt : TypeId} {fs : Array Field} {x y : Operand} {op : BinOp} {neg : Bool} {a b : X} (ho : op = bif neg then .neq else .eql) (ht : P.underlying t = some (.struct fs)) (hfs : fieldsB P fs.toList 0 = true) (hst : P.stoodInHeld t = false) (hgt : P.eqGuardType P.depth t = false) (h : opX x = some a) (h' : opX y = some b) : Fits P (.binOp op t x y yt) (.pu2 (.eqA fs.size neg) a b)
 | cvT {s e t : TypeId} {x : Operand} {a : X} (hs : P.underlying s = some (.slice e)) (he : P.underlying e = some (.int .u8)) (ht : P.underlying t = some .string) (h : opX x = some a) : Fits P (.convert s t x) (.rdm .cvT a a)
 | lkp {t kt et : TypeId} {x y : Operand} {ok : Bool} {kd : Option IntKind} {i : TypeInfo} {zv : Value} {z : MV} {a b : X} (ht : P.underlying t = some (.map kt et)) (hk : P.underlying kt = some (keyDesc kd)) (hinf : P.info? et = some i) (hz : i.zero = some zv) (hzd : ∀ β, Den β z zv) (h : opX x = some a) (h' : opX y = some b) : Fits P (.lookup t x y ok) (.rdm (.lkp kd ok z) a b)
 | lkpP {t kt et el : TypeId} {x y : Operand} {ok : Bool} {i q : TypeInfo} {zv : Value} {z : MV} {a b : X} (ht : P.underlying t = some (.map kt et)) (hk : P.underlying kt = some (.pointer el)) (hel : P.info? el = some q) (hsz : P.cellsOf el ≠ 0) (hinf : P.info? et = some i) (hz : i.zero = some zv) (hzd : ∀ β, Den β z zv) (h : opX x = some a) (h' : opX y = some b) : Fits P (.lookup t x y ok) (.rdm (.lkpP ok z) a b)
 | lkpA {t kt et e : TypeId} {n : Nat} {x y : Operand} {ok : Bool} {q : IntKind} {i i' : TypeInfo} {zv : Value} {z : MV} {a b : X} (ht : P.underlying t = some (.map kt et)) (hk : P.underlying kt = some (.array n e)) (he : P.underlying e = some (.int q)) (hie : P.info? e = some i') (hsz : P.cellsOf e = 1) (hinf : P.info? et = some i) (hz : i.zero = some zv) (hzd : ∀ β, Den β z zv) (h : opX x = some a) (h' : opX y = some b) : Fits P (.lookup t x y ok) (.rdm (.lkpA n ok z) a b)
 | mupA {t kt et e : TypeId} {n : Nat} {x y z : Operand} {q : IntKind} {i' : TypeInfo} {a b c : X} (ht : P.underlying t = some (.map kt et)) (hk : P.underlying kt = some (.array n e)) (he : P.underlying e = some (.int q)) (hie : P.info? e = some i') (hsz : P.cellsOf e = 1) (h : opX x = some a) (h' : opX y = some b) (h'' : opX z = some c) : Fits P (.mapUpdate t x y z) (.wrm (.mupA n) a b c)
 | mupP {t kt et el : TypeId} {x y z : Operand} {q : TypeInfo} {a b c : X} (ht : P.underlying t = some (.map kt et)) (hk : P.underlying kt = some (.pointer el)) (hel : P.info? el = some q) (hsz : P.cellsOf el ≠ 0) (h : opX x = some a) (h' : opX y = some b) (h'' : opX z = some c) : Fits P (.mapUpdate t x y z) (.wrm .mupP a b c)
 | mup {t kt et : TypeId} {x y z : Operand} {kd : Option IntKind} {a b c : X} (ht : P.underlying t = some (.map kt et)) (hk : P.underlying kt = some (keyDesc kd)) (h : opX x = some a) (h' : opX y = some b) (h'' : opX z = some c) : Fits P (.mapUpdate t x y z) (.wrm (.mup kd) a b c)
 | cpy {t1 t2 e : TypeId} {x y : Operand} {a b : X} (ht : P.underlying t1 = some (.slice e)) (hs : (P.info? e).map (·.size) = some 1) (h : opX x = some a) (h' : opX y = some b) : Fits P (.call { callee := .builtin .copy, args := #[x, y], argTypes := #[t1, t2] }) (.wrm .cpy a b b)
abbrev CallM := Nat → List MV → MH → Option (MV × MH)
noncomputable def Iop.ev (call : CallM) (f : Fr) (M : MH) (o : Iop) : Option (MV × MH) :=
 match o with
 | .mov x => some (x.ev f, M)
 | .pick c a b => match c.ev f with
  | .b true => some (a.ev f, M)
  | .b false => some (b.ev f, M)
  | _ => none
 | .new l => bif Nat.ble M.lo M.n then some (.p M.n 0, M.push (.cs false l.length (ofL l 0))) else none
 | .box x => bif Nat.ble M.lo M.n && !isU (x.ev f) then some (.p M.n 0, M.push (.cs false (x.ev f).cells.length (ofL (x.ev f).cells 0))) else none
 | .build zs parts => match fillM (parts.map fun x => (x.1, x.2.1, x.2.2.ev f)) zs with
  | some l => some (.ag l, M)
  | none => none
 | .bsl sz n zs parts => bif Nat.ble M.lo M.n then match fillM (parts.map fun x => (x.1, x.2.1, x.2.2.ev f)) (zrow zs n) with
   | some l => some (.sl M.n 0 n 0, M.push (.cs false sz (ofL l 0)))
   | none => none
  else none
 | .ld1 x => match x.ev f with
  | .p id off => match M.get id with
   | some (.cs _ _ c) => match cget c off with
    | some v => some (v, M)
    | none => none
   | _ => none
  | _ => none
 | .ldN n x => match x.ev f with
  | .p id off => match M.get id with
   | some (.cs _ _ c) => match getN c n off with
    | some l => some (.ag l, M)
    | none => none
   | _ => none
  | _ => none
 | .st n x y => match x.ev f with
  | .p id off => match M.get id with
   | some (.cs false sz c) => bif (y.ev f).cells.length == n && !isU (y.ev f) && allOne (y.ev f).cells && Nat.ble M.lo id && hasB c n off then some (.u, M.set id (some (.cs false sz (setN (y.ev f).cells off c)))) else none
   | _ => none
  | _ => none
 | .nck x => match x.ev f with
  | .p id off => some (.p id off, M)
  | _ => none
 | .binI op x y => match x.ev f, y.ev f with
  | .i k a, .i k' b => match Ev.binI op k a k' b with
   | some m => some (m, M)
   | none => none
  | _, _ => none
 | .binB op x y => match x.ev f, y.ev f with
  | .b a, .b b => match eqM op (a == b) with
   | some m => some (m, M)
   | none => none
  | _, _ => none
 | .binN n op x y => match nilR n (x.ev f) (y.ev f) with
  | some r => match eqM op r with
   | some m => some (m, M)
   | none => none
  | none => none
 | .un op x => match unM op (x.ev f) with
  | some m => some (m, M)
  | none => none
 | .cvI k x => match x.ev f with
  | .i _ n => some (.i k (wrapF k n), M)
  | _ => none
 | .fld1 o x => match x.ev f with
  | .ag l => match l[o]? with
   | some m => some (m, M)
   | none => none
  | _ => none
 | .fldN o n x => match x.ev f with
  | .ag l => some (.ag ((l.drop o).take n), M)
  | _ => none
 | .fa o x => match x.ev f with
  | .p id off => some (.p id (off + o), M)
  | _ => none
 | .ixA n s x i => match x.ev f, i.ev f with
  | .p id off, .i _ (.ofNat j) => bif Nat.blt j n then some (.p id (off + j * s), M) else none
  | _, _ => none
 | .ixS s x i => match x.ev f, i.ev f with
  | .sl id off ln _, .i _ (.ofNat j) => bif Nat.blt j ln then some (.p id (off + j * s), M) else none
  | _, _ => none
 | .ext x i => match x.ev f with
  | .tp l => match l[i]? with
   | some m => some (m, M)
   | none => none
  | _ => none
 | .mks sz bytes zs x y => match x.ev f, y.ev f with
  | .i _ (.ofNat l), .i _ (.ofNat c) => bif Nat.ble l c && Nat.ble (bytes * c) 281474976710656 && Nat.ble c 9223372036854775807 && Nat.ble M.lo M.n then some (.sl M.n 0 l 0, M.push (.cs false sz (ofL (zrow zs c) 0))) else none
  | _, _ => none
 | .mkm => bif Nat.ble M.lo M.n then some (.m M.n, M.push (.mp [] 0)) else none
 | .cut sz x lo hi => match cutM sz (x.ev f) (lo.map (X.ev f)) (hi.map (X.ev f)) with
  | some m => some (m, M)
  | none => none
 | .app sz bytes x y => appM M sz bytes (x.ev f) (y.ev f)
 | .len x => match x.ev f with
  | .nils => some (.i .i64 0, M)
  | .sl _ _ n _ => some (.i .i64 n, M)
  | _ => none
 | .lenT x => match x.ev f with
  | .s s => some (.i .i64 s.size, M)
  | _ => none
 | .mn x y => match x.ev f, y.ev f with
  | .i k a, .i _ b => some (.i k (bif decide (b < a) then b else a), M)
  | _, _ => none
 | .mx x y => match x.ev f, y.ev f with
  | .i k a, .i _ b => some (.i k (bif decide (a < b) then b else a), M)
  | _, _ => none
 | .call g l => call g (l.map (X.ev f)) M
 | .bad => none
 | .mkf g a c => some (.fn g (a.map (X.ev f)) (c.map (X.ev f)), M)
 | .callv x l => match x.ev f with
  | .fn (.func g) a c => call g (a ++ (l.map (X.ev f) ++ c)) M
  | _ => none
 | .cvS x => match x.ev f with
  | .sl id off (n + 1) e => match M.get id with
   | some (.cs false sz c) => bif Nat.beq sz 1 && Nat.ble M.lo id then some (.sl id off (n + 1) e, M.set id (some (.cs false sz c))) else none
   | _ => none
  | _ => none
 | .pu2 g x y => match puM g (x.ev f) (y.ev f) with
  | some m => some (m, M)
  | none => none
 | .rdm g x y => match rdF g M (x.ev f) (y.ev f) with
  | some m => some (m, M)
  | none => none
 | .wrm g x y z => wrF g M (x.ev f) (y.ev f) (z.ev f)
 | .nat F l => F (l.map (X.ev f)) M
def CallOk (P : Program) (call : CallM) : Prop := ∀ (g : Nat) (args : List MV) (M M' : MH) (m : MV), call g args M = some (m, M') → (∃ fn c, P.funcs[g]? = some fn ∧ (fn.name == "runtime.NumGoroutine") = false ∧ fn.body = some c) ∧ ∀ (β : BM) (w : World) (vs : List Value), GlobOk β → Inv β M w → DenL β args vs →
 Calls P g vs.toArray w fun e w' => ∃ v β', e = .returned v ∧ Den β' m v ∧ Step β β' M M' w w'
def Up (P : Program) (ρ : Operand → Value) (o : Oper) (β : BM) (M : MH) (w : World) (m : MV) (M' : MH) : Prop :=
 match (execOp ρ o).run P w with
 | .ok (.value v) w' => ∃ β', Den β' m v ∧ Step β β' M M' w w'
 | .ok .skip w' => ∃ β', Den β' m undef ∧ Step β β' M M' w w'
 | .ok (.enter g args) w' => Calls P g args w' fun e w'' => ∃ v β', e = .returned v ∧ Den β' m v ∧ Step β β' M M' w w''
 | _ => False
theorem Does.up {ρ : Operand → Value} {o : Oper} {β : BM} {M M' : MH} {w : World} {m : MV} (h : Does P o ρ β M w m M') : Up P ρ o β M w m M' := by
 obtain ⟨v, w', β', h | ⟨h, rfl⟩, hd, hs⟩ := h
 ·unfold Up; rw [h]; exact ⟨β', hd, hs⟩
 ·unfold Up; rw [h]; exact ⟨β', hd, hs⟩
theorem place_run {fd : Field} {n : Nat} (hn : (P.info? fd.type).map (·.size) = some (n + 1)) (b k : Nat) (w : World) : (fieldPlace ⟨b, k, none⟩ fd).run P w = .ok ⟨b, k + fd.offset, none⟩ w := by
 cases hin : P.info? fd.type with
 | none => rw [hin] at hn; cases hn
 | some q =>
  rw [hin] at hn
  simp only [Option.map_some, Option.some.injEq] at hn
  simp [fieldPlace, sizeOf, typeInfo, hin, hn, Addr.add_lit]
theorem sound_op {op : Op} {io : Iop} (hfit : Fits P op io) {call : CallM} (hcall : CallOk P call) {f : Fr} {ρ : Operand → Value} {β : BM} {M M' : MH} {w : World} {m : MV} (hi : Inv β M w) (hf : FrOk β f ρ) (hρ : Plain ρ) (h : io.ev call f M = some (m, M'))
  (d : Option Tmp) (ty : TypeId) (pos : String) (af : Array Edge) (gd : Option (Nat × Bool)) : Up P ρ ⟨d, op, ty, pos, af, gd⟩ β M w m M' := by
 have D : ∀ {x : Operand} {a : X}, opX x = some a → Den β (a.ev f) (ρ x) := fun h => opX_den h hf hρ
 cases hfit with
 | mov hx => injection h with h; injection h with h1 h2; subst h1 h2; exact (does_move hi (D hx)).up
 | asg hx => injection h with h; injection h with h1 h2; subst h1 h2; exact (does_assign hi (D hx)).up
 | @pick x y z a b c hx hy hz =>
  have hc := D hx
  simp only [Iop.ev] at h
  generalize hq : a.ev f = q at h hc
  cases q <;> (try simp only [reduceCtorEq] at h)
  rename_i t
  have := does_pick (P := P) (d := d) (ty := ty) (pos := pos) (af := af) (gd := gd) hi hc (D hy) (D hz)
  cases t <;> (simp only [Option.some.injEq, Prod.mk.injEq] at h; obtain ⟨rfl, rfl⟩ := h; exact this.up)
 | @new e i z l h1 h2 h3 =>
  simp only [Iop.ev] at h
  cases hl : Nat.ble M.lo M.n with
  | false => rw [hl] at h; cases h
  | true =>
   rw [hl] at h
   injection h with h; injection h with h4 h5; subst h4 h5
   exact (does_alloc hi (Nat.le_of_ble_eq_true hl) h1 h2 (mvsOf_den h3 β)).up
 | @box e x a hx =>
  simp only [Iop.ev] at h
  cases hl : (Nat.ble M.lo M.n && !isU (a.ev f)) with
  | false => rw [hl] at h; cases h
  | true =>
   rw [hl] at h
   injection h with h; injection h with h4 h5; subst h4 h5
   simp only [Bool.and_eq_true, Bool.not_eq_eq_eq_not, Bool.not_true] at hl
   exact (does_box hi (Nat.le_of_ble_eq_true hl.1) (D hx) (isU_ne hl.2)).up
 | @build t z zs place ps parts hb hz hp =>
  simp only [Iop.ev] at h
  cases hl : fillM (parts.map fun x => (x.1, x.2.1, x.2.2.ev f)) zs with
  | none => rw [hl] at h; cases h
  | some l =>
   rw [hl] at h
   injection h with h; injection h with h4 h5; subst h4 h5
   exact (does_build hi hb (mvsOf_den hz β) (resParts_ok hf hρ hp) hl).up
 | @bsl t e i z zs n ps parts ht h1 h2 h3 h4 hz hp =>
  simp only [Iop.ev] at h
  cases hlo : Nat.ble M.lo M.n with
  | false => rw [hlo] at h; cases h
  | true =>
   rw [hlo] at h
   simp only [cond_true] at h
   cases hl : fillM (parts.map fun x => (x.1, x.2.1, x.2.2.ev f)) (zrow zs n) with
   | none => rw [hl] at h; cases h
   | some l =>
    rw [hl] at h
    injection h with h; injection h with h5 h6; subst h5 h6
    exact (does_buildSlice hi (Nat.le_of_ble_eq_true hlo) ht h1 h2 h3 h4 (mvsOf_den hz β) (resParts_ok hf hρ hp) hl).up
 | @ld1 t x a k hk hk' hx =>
  have hd := D hx
  simp only [Iop.ev] at h
  generalize a.ev f = q at h hd
  cases q <;> (try simp only [reduceCtorEq] at h)
  rename_i id off
  cases hg : M.get id with
  | none => rw [hg] at h; cases h
  | some o =>
   cases o with
   | mp es ck => rw [hg] at h; cases h
   | cs ro sz c =>
    rw [hg] at h
    simp only at h
    cases hc : cget c off with
    | none => rw [hc] at h; cases h
    | some v =>
     rw [hc] at h
     injection h with h; injection h with h5 h6; subst h5 h6
     exact (does_load1 hi hk hk' hd hg hc).up
 | @ldN t x a k n hk hk' hn hx =>
  have hd := D hx
  simp only [Iop.ev] at h
  generalize a.ev f = q at h hd
  cases q <;> (try simp only [reduceCtorEq] at h)
  rename_i id off
  cases hg : M.get id with
  | none => rw [hg] at h; cases h
  | some o =>
   cases o with
   | mp es ck => rw [hg] at h; cases h
   | cs ro sz c =>
    rw [hg] at h
    simp only at h
    cases hc : getN c n off with
    | none => rw [hc] at h; cases h
    | some v =>
     rw [hc] at h
     injection h with h; injection h with h5 h6; subst h5 h6
     exact (does_loadN hi hk hk' hn hd hg hc).up
 | @st t x y a b n hn hx hy =>
  have hd := D hx
  have hd' := D hy
  simp only [Iop.ev] at h
  generalize a.ev f = q at h hd
  generalize b.ev f = r at h hd'
  cases q <;> (try simp only [reduceCtorEq] at h)
  rename_i id off
  cases hg : M.get id with
  | none => rw [hg] at h; cases h
  | some o =>
   cases o with
   | mp es ck => rw [hg] at h; cases h
   | cs ro sz c =>
    cases ro with
    | true => rw [hg] at h; cases h
    | false =>
     rw [hg] at h
     simp only at h
     cases hc : (r.cells.length == n && !isU r && allOne r.cells && Nat.ble M.lo id && hasB c n off) with
     | false => rw [hc] at h; cases h
     | true =>
      rw [hc] at h
      injection h with h; injection h with h5 h6; subst h5 h6
      simp only [Bool.and_eq_true, Bool.not_eq_eq_eq_not, Bool.not_true, beq_iff_eq, Nat.ble_eq] at hc
      obtain ⟨⟨⟨⟨c1, c2⟩, c3⟩, c4⟩, c5⟩ := hc
      subst c1
      exact (does_store hi hn hd hd' (fun q hq => List.all_eq_true.1 c3 q hq) (isU_ne c2) hg c4 (hasB_ok c5)).up
 | @nck x a hx =>
  have hd := D hx
  simp only [Iop.ev] at h
  generalize a.ev f = q at h hd
  cases q <;> (try simp only [reduceCtorEq] at h)
  injection h with h; injection h with h5 h6; subst h5 h6
  exact (does_nilck hi hd).up
 | @binI op t yt x y a b hx hy =>
  have hd := D hx
  have hd' := D hy
  simp only [Iop.ev] at h
  generalize a.ev f = q at h hd
  generalize b.ev f = r at h hd'
  cases q <;> (try simp only [reduceCtorEq] at h)
  cases r <;> (try simp only [reduceCtorEq] at h)
  rename_i k a' k' b'
  cases hb : Ev.binI op k a' k' b' with
  | none => rw [hb] at h; cases h
  | some m' =>
   rw [hb] at h
   injection h with h; injection h with h5 h6; subst h5 h6
   exact (does_binI hi hd hd' hb).up
 | @binB op t yt x y a b ht hx hy =>
  have hd := D hx
  have hd' := D hy
  simp only [Iop.ev] at h
  generalize a.ev f = q at h hd
  generalize b.ev f = r at h hd'
  cases q <;> (try simp only [reduceCtorEq] at h)
  cases r <;> (try simp only [reduceCtorEq] at h)
  rename_i a' b'
  cases hb : eqM op (a' == b') with
  | none => rw [hb] at h; cases h
  | some m' =>
   rw [hb] at h
   injection h with h; injection h with h5 h6; subst h5 h6
   exact (does_binB hi ht hd hd' hb).up
 | @binN op t yt x y a b k n ht hk hx hy =>
  simp only [Iop.ev] at h
  cases hr : nilR n (a.ev f) (b.ev f) with
  | none => rw [hr] at h; cases h
  | some r =>
   rw [hr] at h
   simp only at h
   cases hb : eqM op r with
   | none => rw [hb] at h; cases h
   | some m' =>
    rw [hb] at h
    injection h with h; injection h with h5 h6; subst h5 h6
    exact (does_nil hi ht hk (D hx) (D hy) hr hb).up
 | @un op t x a hx =>
  simp only [Iop.ev] at h
  cases hb : unM op (a.ev f) with
  | none => rw [hb] at h; cases h
  | some m' =>
   rw [hb] at h
   injection h with h; injection h with h5 h6; subst h5 h6
   exact (does_un hi (D hx) hb).up
 | @cvI s t x a k e hs ht hx =>
  have hd := D hx
  simp only [Iop.ev] at h
  generalize a.ev f = q at h hd
  cases q <;> (try simp only [reduceCtorEq] at h)
  injection h with h; injection h with h5 h6; subst h5 h6
  exact (does_convI hi hs ht hd).up
 | @fld1 s x a f' n fs fd k hs hf' ht hk hn hx =>
  have hd := D hx
  simp only [Iop.ev] at h
  generalize a.ev f = q at h hd
  cases q <;> (try simp only [reduceCtorEq] at h)
  rename_i l
  cases hc : l[fd.offset]? with
  | none => rw [hc] at h; cases h
  | some v =>
   rw [hc] at h
   injection h with h; injection h with h5 h6; subst h5 h6
   exact (does_field hi hs hf' rfl ht hn hd (by rw [hk]; exact hc)).up
 | @fldN s x a f' n fs fd k hs hf' ht hk hn hx =>
  have hd := D hx
  simp only [Iop.ev] at h
  generalize a.ev f = q at h hd
  cases q <;> (try simp only [reduceCtorEq] at h)
  rename_i l
  injection h with h; injection h with h5 h6; subst h5 h6
  exact (does_field hi hs hf' rfl ht hn hd (by rw [hk]; rfl)).up
 | @fa s x a f' n fs fd hs hf' hn hx =>
  have hd := D hx
  simp only [Iop.ev] at h
  generalize a.ev f = q at h hd
  cases q <;> (try simp only [reduceCtorEq] at h)
  injection h with h; injection h with h5 h6; subst h5 h6
  exact (does_fieldAddr hi hs hf' hd fun b k => place_run hn b k w).up
 | @ixA t e x y a b n s ht hs hx hy =>
  have hd := D hx
  have hd' := D hy
  simp only [Iop.ev] at h
  generalize a.ev f = q at h hd
  generalize b.ev f = r at h hd'
  cases q <;> (try simp only [reduceCtorEq] at h)
  cases r <;> (try simp only [reduceCtorEq] at h)
  rename_i id off k j
  cases j with
  | negSucc j => cases h
  | ofNat j =>
   simp only at h
   cases hb : Nat.blt j n with
   | false => rw [hb] at h; cases h
   | true =>
    rw [hb] at h
    injection h with h; injection h with h5 h6; subst h5 h6
    have hj : j < n := by simpa using hb
    exact (does_idxA hi ht hs hd hd' (Int.natCast_nonneg j) (Int.ofNat_lt.2 hj)).up
 | @ixS t e x y a b s ht hs hx hy =>
  have hd := D hx
  have hd' := D hy
  simp only [Iop.ev] at h
  generalize a.ev f = q at h hd
  generalize b.ev f = r at h hd'
  cases q <;> (try simp only [reduceCtorEq] at h)
  cases r <;> (try simp only [reduceCtorEq] at h)
  rename_i id off len ed k j
  cases j with
  | negSucc j => cases h
  | ofNat j =>
   simp only at h
   cases hb : Nat.blt j len with
   | false => rw [hb] at h; cases h
   | true =>
    rw [hb] at h
    injection h with h; injection h with h5 h6; subst h5 h6
    have hj : j < len := by simpa using hb
    exact (does_idxS hi ht hs hd hd' (Int.natCast_nonneg j) (Int.ofNat_lt.2 hj)).up
 | @ext x a i hx =>
  have hd := D hx
  simp only [Iop.ev] at h
  generalize a.ev f = q at h hd
  cases q <;> (try simp only [reduceCtorEq] at h)
  rename_i l
  cases hc : l[i]? with
  | none => rw [hc] at h; cases h
  | some v =>
   rw [hc] at h
   injection h with h; injection h with h5 h6; subst h5 h6
   exact (does_extract hi hd hc).up
 | @mks t e i z zs x y a b ht h1 h2 h3 hz hx hy =>
  have hd := D hx
  have hd' := D hy
  simp only [Iop.ev] at h
  generalize a.ev f = q at h hd
  generalize b.ev f = r at h hd'
  cases q <;> (try simp only [reduceCtorEq] at h)
  cases r <;> (try simp only [reduceCtorEq] at h)
  rename_i k l k' c
  cases l with
  | negSucc l => cases h
  | ofNat l =>
   cases c with
   | negSucc c => cases h
   | ofNat c =>
    simp only at h
    cases hb : (Nat.ble l c && Nat.ble (i.bytes * c) 281474976710656 && Nat.ble c 9223372036854775807 && Nat.ble M.lo M.n) with
    | false => rw [hb] at h; cases h
    | true =>
     rw [hb] at h
     injection h with h; injection h with h5 h6; subst h5 h6
     simp only [Bool.and_eq_true, Nat.ble_eq] at hb
     obtain ⟨⟨⟨b1, b2⟩, b3⟩, b4⟩ := hb
     exact (does_makeSlice hi b4 ht h1 h2 h3 (mvsOf_den hz β) hd hd' (Int.natCast_nonneg l) (Int.ofNat_le.2 b1) (by have := Int.ofNat_le.2 b2; simpa using this) (by have := Int.ofNat_le.2 b3; simpa using this)).up
 | @mkm t =>
  simp only [Iop.ev] at h
  cases hl : Nat.ble M.lo M.n with
  | false => rw [hl] at h; cases h
  | true =>
   rw [hl] at h
   injection h with h; injection h with h4 h5; subst h4 h5
   exact (does_makeMap hi (Nat.le_of_ble_eq_true hl)).up
 | @cut t e i x lo hi' a l hh ht h1 h0 hl hh' =>
  simp only [Iop.ev] at h
  cases hc : cutM i.size (a.ev f) (l.map (X.ev f)) (hh.map (X.ev f)) with
  | none => rw [hc] at h; cases h
  | some v =>
   rw [hc] at h
   injection h with h; injection h with h5 h6; subst h5 h6
   exact (does_slice hi ht h1 (D h0) (opXo_den hf hρ hl) (opXo_den hf hρ hh') hc).up
 | @app t tx e e' i z x y a b ht h1 h2 h3 hk hx hy =>
  exact (does_append hi ht h1 h2 h3 hk (D hx) (D hy) h).up
 | @lenS t e x a ht hx =>
  have hd := D hx
  simp only [Iop.ev] at h
  generalize hq : a.ev f = q at h hd
  generalize hp : ρ x = u at hd
  have hu : P.underlying t = some (.slice (P.elem t)) := by rw [ht]; simp [Program.elem, ht]
  cases hd <;> (try simp only [reduceCtorEq, Option.some.injEq, Prod.mk.injEq] at h)
  ·obtain ⟨rfl, rfl⟩ := h
   exact (Does.pure hi (v := goInt (0 : Nat)) (by simp [execOp, resolve, invoke, builtin, hp, run_len_slice w t _ _ _ _ hu]) (.i _ _)).up
  ·obtain ⟨rfl, rfl⟩ := h
   exact (Does.pure hi (by simp [execOp, resolve, invoke, builtin, hp, run_len_slice w t _ _ _ _ hu]; rfl) (.i _ _)).up
 | @lenT t x a ht hx =>
  have hd := D hx
  simp only [Iop.ev] at h
  generalize hq : a.ev f = q at h hd
  generalize hp : ρ x = u at hd
  cases hd <;> (try simp only [reduceCtorEq, Option.some.injEq, Prod.mk.injEq] at h)
  obtain ⟨rfl, rfl⟩ := h
  exact (Does.pure hi (by simp [execOp, resolve, invoke, builtin, hp, run_len_string w t _ _ ht]; rfl) (.i _ _)).up
 | @mn x y a b ts hx hy =>
  have hd := D hx
  have hd' := D hy
  simp only [Iop.ev] at h
  generalize a.ev f = q at h hd
  generalize b.ev f = r at h hd'
  generalize hp : ρ x = u at hd
  generalize hp' : ρ y = u' at hd'
  cases hd <;> (try simp only [reduceCtorEq] at h)
  cases hd' <;> simp only [reduceCtorEq] at h
  rename_i k n k' n'
  injection h with h; injection h with h5 h6; subst h5 h6
  refine (Does.pure hi (v := .int k (if n' < n then n' else n)) (by simp [execOp, resolve, invoke, builtin, hp, hp', run_min_int2]) ?_).up
  by_cases hlt : n' < n <;> simp only [hlt, decide_true, decide_false, cond_true, cond_false, if_true, if_false] <;> exact .i _ _
 | @mx x y a b ts hx hy =>
  have hd := D hx
  have hd' := D hy
  simp only [Iop.ev] at h
  generalize a.ev f = q at h hd
  generalize b.ev f = r at h hd'
  generalize hp : ρ x = u at hd
  generalize hp' : ρ y = u' at hd'
  cases hd <;> (try simp only [reduceCtorEq] at h)
  cases hd' <;> simp only [reduceCtorEq] at h
  rename_i k n k' n'
  injection h with h; injection h with h5 h6; subst h5 h6
  refine (Does.pure hi (v := .int k (if n < n' then n' else n)) (by simp [execOp, resolve, invoke, builtin, hp, hp', run_max_int2]) ?_).up
  by_cases hlt : n < n' <;> simp only [hlt, decide_true, decide_false, cond_true, cond_false, if_true, if_false] <;> exact .i _ _
 | @call g fn c xs l ts hfn hn hb hxs =>
  have hargs := opXs_den hf hρ hxs
  have := (hcall g _ _ _ _ h).2 β w _ hf.2 hi hargs
  unfold Up
  have hrun : (execOp ρ ⟨d, .call { callee := .value (.func g), args := xs, argTypes := ts }, ty, pos, af, gd⟩).run P w = .ok (.enter g (xs.toList.map ρ).toArray) w := by
   have h1 : ¬ fn.name = "runtime.NumGoroutine" := by simpa using hn
   have h2 : ¬ fn.body = none := by rw [hb]; simp
   unfold execOp
   have e : Array.map ρ xs = (List.map ρ xs.toList).toArray := by rw [← Array.toList_map]
   simp [resolve, Deferred.ofValue, hρ.func, invoke, callFunc, hfn, h1, h2, e]
  rw [hrun]
  exact this
 | bad => cases h
 | @mkf g xs ys a c hx hy =>
  injection h with h; injection h with h5 h6; subst h5 h6
  exact (does_mkf hi (opXs_den hf hρ hx) (opXs_den hf hρ hy)).up
 | @callv x a xs l ts hx hxs =>
  have hargs := opXs_den hf hρ hxs
  have hd := D hx
  simp only [Iop.ev] at h
  generalize a.ev f = q at h hd
  generalize hp : ρ x = u at hd
  cases q <;> (try simp only [reduceCtorEq] at h)
  rename_i g a1 c1
  cases g <;> (try simp only [reduceCtorEq] at h)
  rename_i g
  obtain ⟨⟨fn, c, hfn, hn, hb⟩, hc⟩ := hcall g _ _ _ _ h
  cases hd with
  | fn _ _ _ va vc ha hcl h1 h2 =>
   have hall := (denL_of ha h1).append (hargs.append (denL_of hcl h2))
   have := hc β w _ hf.2 hi hall
   unfold Up
   have hrun : (execOp ρ ⟨d, .call { callee := .value x, args := xs, argTypes := ts }, ty, pos, af, gd⟩).run P w = .ok (.enter g (va.toList ++ (xs.toList.map ρ ++ vc.toList)).toArray) w := by
    have n1 : ¬ fn.name = "runtime.NumGoroutine" := by simpa using hn
    have n2 : ¬ fn.body = none := by rw [hb]; simp
    unfold execOp
    simp [resolve, Deferred.ofValue, hp, invoke, callFunc, hfn, n1, n2]
   rw [hrun]
   exact this
 | @cvS s e x a hs he hx =>
  have hd := D hx
  simp only [Iop.ev] at h
  generalize a.ev f = q at h hd
  cases q <;> (try simp only [reduceCtorEq] at h)
  rename_i id off n ed
  cases n with
  | zero => cases h
  | succ n =>
   simp only at h
   cases hg : M.get id with
   | none => rw [hg] at h; cases h
   | some o =>
    cases o with
    | mp es ck => rw [hg] at h; cases h
    | cs ro sz c =>
     cases ro with
     | true => rw [hg] at h; cases h
     | false =>
      rw [hg] at h
      simp only at h
      cases hb : (Nat.beq sz 1 && Nat.ble M.lo id) with
      | false => rw [hb] at h; cases h
      | true =>
       rw [hb] at h
       injection h with h; injection h with h5 h6; subst h5 h6
       rw [Bool.and_eq_true] at hb
       exact (does_cvS hi hs he hd hg (Nat.eq_of_beq_eq_true hb.1) (Nat.le_of_ble_eq_true hb.2)).up
 | @ixT t x y a b ht hx hy =>
  simp only [Iop.ev] at h
  cases hq : puM .ixT (a.ev f) (b.ev f) with
  | none => rw [hq] at h; cases h
  | some m' =>
   rw [hq] at h
   injection h with h; injection h with h5 h6; subst h5 h6
   exact (does_ixT hi ht (D hx) (D hy) hq).up
 | @ixL t e n q x y a b ht he hinf hsz hx hy =>
  simp only [Iop.ev] at h
  cases hq : puM (.ixL n) (a.ev f) (b.ev f) with
  | none => rw [hq] at h; cases h
  | some m' =>
   rw [hq] at h
   injection h with h; injection h with h5 h6; subst h5 h6
   exact (does_ixL hi ht he hinf hsz (D hx) (D hy) hq).up
 | @eqA t e yt n q i x y op neg a b ho ht he hinf hsz hgt hx hy =>
  simp only [Iop.ev] at h
  cases hq : puM (.eqA n neg) (a.ev f) (b.ev f) with
  | none => rw [hq] at h; cases h
  | some m' =>
   rw [hq] at h
   injection h with h; injection h with h5 h6; subst h5 h6
   exact (does_eqA hi ho ht he hinf hsz hgt (D hx) (D hy) hq).up
 | @eqS t yt fs x y op neg a b ho ht hfs hst hgt hx hy =>
  simp only [Iop.ev] at h
  cases hq : puM (.eqA fs.size neg) (a.ev f) (b.ev f) with
  | none => rw [hq] at h; cases h
  | some m' =>
   rw [hq] at h
   injection h with h; injection h with h5 h6; subst h5 h6
   exact (does_eqS hi ho ht hfs hst hgt (D hx) (D hy) hq).up
 | @cvT s e t x a hs he ht hx =>
  simp only [Iop.ev] at h
  cases hq : rdF .cvT M (a.ev f) (a.ev f) with
  | none => rw [hq] at h; cases h
  | some m' =>
   rw [hq] at h
   injection h with h; injection h with h5 h6; subst h5 h6
   exact (does_cvT hi hs he ht (D hx) hq).up
 | @lkp t kt et x y ok kd i zv z a b ht hk hinf hz hzd hx hy =>
  simp only [Iop.ev] at h
  cases hq : rdF (.lkp kd ok z) M (a.ev f) (b.ev f) with
  | none => rw [hq] at h; cases h
  | some m' =>
   rw [hq] at h
   injection h with h; injection h with h5 h6; subst h5 h6
   exact (does_lkp hi ht hk hinf hz hzd (D hx) (D hy) hq).up
 | @lkpP t kt et el x y ok i q zv z a b ht hk hel hsz hinf hz hzd hx hy =>
  simp only [Iop.ev] at h
  cases hq : rdF (.lkpP ok z) M (a.ev f) (b.ev f) with
  | none => rw [hq] at h; cases h
  | some m' =>
   rw [hq] at h
   injection h with h; injection h with h5 h6; subst h5 h6
   exact (does_lkpP hi ht hk hel hsz hinf hz hzd (D hx) (D hy) hq).up
 | @lkpA t kt et e n x y ok q i i' zv z a b ht hk he hie hsz hinf hz hzd hx hy =>
  simp only [Iop.ev] at h
  cases hq : rdF (.lkpA n ok z) M (a.ev f) (b.ev f) with
  | none => rw [hq] at h; cases h
  | some m' =>
   rw [hq] at h
   injection h with h; injection h with h5 h6; subst h5 h6
   exact (does_lkpA hi ht hk he hie hsz hinf hz hzd (D hx) (D hy) hq).up
 | mupA ht hk he hie hsz hx hy hz => exact (does_mupA hi ht hk he hie hsz (D hx) (D hy) (D hz) h).up
 | mupP ht hk hel hsz hx hy hz => exact (does_mupP hi ht hk hel hsz (D hx) (D hy) (D hz) h).up
 | mup ht hk hx hy hz => exact (does_mup hi ht hk (D hx) (D hy) (D hz) h).up
 | cpy ht hs hx hy => exact (does_cpy (c' := .u) (e2 := 0) (z := .const .nilFunc) hi ht hs (D hx) (D hy) h).up
end Go.Proofs.YtpdcahaggacacaaDoor.Ev
namespace Go.Proofs.YtpdcahaggacacaaDoor.Kit
open Go Go.RowKit
def Ups (P : Program) (R : Value → World → Prop) : Result Next → Prop
 | .ok (.value v) w' => R v w'
 | .ok .skip w' => R undef w'
 | .ok (.enter f args) w' => Calls P f args w' fun e w'' => ∃ v, e = .returned v ∧ R v w''
 | _ => False

def bef (ops : Array Oper) (i j : Nat) : Bool := (ops[i]?).any fun o => o.after.toList.any fun e => Region.binds .any e && e.on == j

def wantR (ops : Array Oper) (ρ : Operand → Value) (o : Oper) : Bool :=
 match o.guard with
 | none => true
 | some (g, want) => (match (ops[g]?).bind (·.dst) with
  | some t => (match ρ (.tmp t) with | .bool b => some b | _ => none)
  | none => none) == some want

def okB (ops : Array Oper) (sz : Nat) : Bool :=
 Region.noSelect ops &&
 (List.range ops.size).all fun i => match ops[i]? with
  | none => true
  | some o =>
   (o.after.all (fun e => !Region.binds .any e || decide (e.on < i)) &&
   (match o.dst with | some d => decide (d < sz) | none => true)) &&
   (List.range ops.size).all fun j => match ops[j]? with
    | none => true
    | some oj =>
     (i == j || match o.dst, oj.dst with | some d, some d' => d != d' | _, _ => true) &&
     (match oj.dst with | some d => !(o.looksAt ops).contains d || (bef ops i j || bef ops j i) | none => true)

def srcOf (ops : Array Oper) (i : Nat) (t : Tmp) : Option Nat :=
 (List.range ops.size).find? fun j => bef ops i j && (ops[j]?).any fun o => o.dst == some t

def Fact (ops : Array Oper) (V : Nat → Value → World → Prop) (a0 : Act) (i : Nat) (t : Tmp) (v : Value) (w : World) : Prop :=
 match srcOf ops i t with
 | some j => V j v w
 | none => v = a0.eval (.tmp t)

def Step (P : Program) (ops : Array Oper) (V : Nat → Value → World → Prop) (a0 : Act) (W0 : World) (G : World → World → Prop) (End : Value → World → World → Prop) (i : Nat) (o : Oper) : Prop :=
 ∀ (ρ : Operand → Value) (w : World), G W0 w → (∀ t ∈ o.looksAt ops, Fact ops V a0 i t (ρ (.tmp t)) w) → (∀ x, (∀ t, x ≠ .tmp t) → ρ x = a0.eval x) →
  if wantR ops ρ o then Ups P (fun v w' => End v w w') ((execOp ρ o).run P w) else End undef w w

section
variable {P : Program} {ops : Array Oper} {V : Nat → Value → World → Prop} {a0 : Act} {W0 : World} {G : World → World → Prop} {Last : Value → World → Prop}

theorem eval_put_same {a : Act} {d : Tmp} {v : Value} (h : d < a.tmps.size) : (a.put (some d) v).eval (.tmp d) = v := by
 simp [Act.put, Act.eval, Array.getD, h]

theorem listed_set {listed : Array Bool} {i j : Nat} (h : (listed.setIfInBounds i true)[j]? = some true) : j = i ∨ listed[j]? = some true := by
 by_cases e : i = j
 ·exact .inl e.symm
 ·rw [Array.getElem?_setIfInBounds_ne e] at h; exact .inr h

theorem srcOf_some {i : Nat} {t : Tmp} {j : Nat} (h : srcOf ops i t = some j) : bef ops i j = true ∧ ∃ o, ops[j]? = some o ∧ o.dst = some t := by
 have := List.find?_some h
 simp only [Bool.and_eq_true, Option.any_eq_true] at this
 obtain ⟨h1, o, h2, h3⟩ := this
 exact ⟨h1, o, h2, by simpa using h3⟩

theorem srcOf_none {i : Nat} {t : Tmp} (h : srcOf ops i t = none) (j : Nat) (o : Oper) (hj : ops[j]? = some o) (hd : o.dst = some t) : bef ops i j = false := by
 unfold srcOf at h
 rw [List.find?_eq_none] at h
 have := h j (List.mem_range.2 (Array.getElem?_eq_some_iff.1 hj).1)
 simp only [Bool.and_eq_true, not_and, Option.any_eq_true, not_exists] at this
 by_cases hb : bef ops i j = true
 ·exact absurd (by simpa using hd) (this hb o hj)
 ·simpa using hb

structure Ok (ops : Array Oper) (sz : Nat) : Prop where
 sel : Region.noSelect ops = true
 lt : ∀ (i : Nat) (o : Oper), ops[i]? = some o → ∀ e ∈ o.after, Region.binds .any e = true → e.on < i
 dst : ∀ (i : Nat) (o : Oper) (d : Tmp), ops[i]? = some o → o.dst = some d → d < sz
 one : ∀ (i j : Nat) (o oj : Oper) (d : Tmp), ops[i]? = some o → ops[j]? = some oj → o.dst = some d → oj.dst = some d → i = j
 looks : ∀ (i j : Nat) (o oj : Oper) (d : Tmp), ops[i]? = some o → ops[j]? = some oj → oj.dst = some d → d ∈ o.looksAt ops → bef ops i j = true ∨ bef ops j i = true

theorem ok_of {sz : Nat} (h : okB ops sz = true) : Ok ops sz := by
 simp only [okB, Bool.and_eq_true, List.all_eq_true, List.mem_range] at h
 obtain ⟨hsel, h⟩ := h
 have key : ∀ (i : Nat) (o : Oper), ops[i]? = some o → i < ops.size := fun i o hi => (Array.getElem?_eq_some_iff.1 hi).1
 refine ⟨hsel, fun i o hi e he hbd => ?_, fun i o d hi hd => ?_, fun i j o oj d hi hj hd hd' => ?_, fun i j o oj d hi hj hd hl => ?_⟩
 ·have := h i (key i o hi)
  simp only [hi, Bool.and_eq_true, List.all_eq_true] at this
  have h1 := this.1.1
  rw [Array.all_eq_true_iff_forall_mem] at h1
  simpa [hbd] using h1 e he
 ·have := h i (key i o hi)
  simp only [hi, Bool.and_eq_true] at this
  have h1 := this.1.2
  rw [hd] at h1
  simpa using h1
 ·have := h i (key i o hi)
  simp only [hi, Bool.and_eq_true, List.all_eq_true, List.mem_range] at this
  have h1 := this.2 j (key j oj hj)
  simp only [hj, hd, hd', Bool.and_eq_true, Bool.or_eq_true, bne_self_eq_false, Bool.false_eq_true, or_false, beq_iff_eq] at h1
  exact h1.1
 ·have := h i (key i o hi)
  simp only [hi, Bool.and_eq_true, List.all_eq_true, List.mem_range] at this
  have h1 := this.2 j (key j oj hj)
  simp only [hj, hd, Bool.and_eq_true, Bool.or_eq_true] at h1
  rcases h1.2 with h2 | h2
  ·simp [hl] at h2
  ·exact h2

theorem bef_lt {sz : Nat} (hok : Ok ops sz) {i j : Nat} (h : bef ops i j = true) : j < i := by
 simp only [bef, Option.any_eq_true, List.any_eq_true, Bool.and_eq_true, beq_iff_eq] at h
 obtain ⟨o, ho, e, he, hbd, rfl⟩ := h
 exact hok.lt i o ho e (Array.mem_toList_iff.1 he) hbd

theorem ready_bef {listed : Array Bool} {i j : Nat} (h : i ∈ Region.ready .any ops listed) (hb : bef ops i j = true) : listed[j]? = some true := by
 obtain ⟨_, o, ho, hall⟩ := mem_ready.1 h
 simp only [bef, ho, Option.any_some, List.any_eq_true, Bool.and_eq_true, beq_iff_eq] at hb
 obtain ⟨e, he, hbd, rfl⟩ := hb
 have := hall e (Array.mem_toList_iff.1 he) hbd
 rw [Array.getD_eq_getD_getElem?] at this
 cases hj : listed[e.on]? <;> simp_all

theorem ready_not {listed : Array Bool} {i : Nat} (h : i ∈ Region.ready .any ops listed) : listed[i]? ≠ some true := by
 have := (mem_ready.1 h).1
 rw [Array.getD_eq_getD_getElem?] at this
 intro e
 simp [e] at this

end
section
variable {P : Program} {ops : Array Oper} {V : Nat → Value → World → Prop} {a0 : Act} {W0 : World} {G : World → World → Prop} {Last : Value → World → Prop}
end
end Go.Proofs.YtpdcahaggacacaaDoor.Kit
namespace Go.Proofs.YtpdcahaggacacaaDoor.Kit
open Go Go.RowKit

def Kept (w w' : World) : Prop := Below w.heap.size w w'

end Go.Proofs.YtpdcahaggacacaaDoor.Kit
