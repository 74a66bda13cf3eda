/-
  A quick way to run the model: each value is found before one goes on. It says just what the run says. Conditions: none.
-/
import Derived.Test.YtjlhopfmhhafoaaEvB
import Derived.KernelRfl
set_option linter.unusedSimpArgs false
set_option linter.unusedVariables false
namespace Go.Proofs.Ytjlhopfmhhafoaa.Ev
open Go
abbrev R := Option (MV × MH)
noncomputable def fNat (n : Nat) (k : Nat → R) : R := Nat.rec (motive := fun _ => R) (k 0) (fun m _ => k (Nat.succ m)) n
theorem fNat_eq (n : Nat) (k : Nat → R) : fNat n k = k n := by cases n <;> rfl
noncomputable def fInt (n : Int) (k : Int → R) : R := Int.rec (motive := fun _ => R) (fun m => fNat m fun m => k (.ofNat m)) (fun m => fNat m fun m => k (.negSucc m)) n
theorem fInt_eq (n : Int) (k : Int → R) : fInt n k = k n := by
  cases n with
  | ofNat m => exact fNat_eq m fun m => k (.ofNat m)
  | negSucc m => exact fNat_eq m fun m => k (.negSucc m)
noncomputable def fBool (b : Bool) (k : Bool → R) : R := Bool.rec (motive := fun _ => R) (k false) (k true) b
theorem fBool_eq (b : Bool) (k : Bool → R) : fBool b k = k b := by cases b <;> rfl
noncomputable def bR (b : Bool) (k : R) : R := Bool.rec (motive := fun _ => R) none k b
theorem bR_eq (b : Bool) (k : R) : bR b k = bif b then k else none := by cases b <;> rfl
noncomputable def oR {α : Type} (o : Option α) (k : α → R) : R := Option.rec (motive := fun _ => R) none k o
theorem oR_none {α : Type} (k : α → R) : oR none k = none := rfl
theorem oR_some {α : Type} (x : α) (k : α → R) : oR (some x) k = k x := rfl
noncomputable def hMV (m : MV) (k : MV → R) : R := MV.casesOn (motive_1 := fun _ => R) m (k .u) (fun b => k (.b b)) (fun i n => k (.i i n)) (fun s => k (.s s)) (k .nilp) (fun a b => k (.p a b)) (k .nils) (fun a b c d => k (.sl a b c d)) (k .nilm) (fun a => k (.m a)) (k .nilf) (fun f a c => k (.fn f a c)) (fun l => k (.ag l)) (fun l => k (.tp l))
theorem hMV_eq (m : MV) (k : MV → R) : hMV m k = k m := by cases m <;> rfl
noncomputable def hList (l : List MV) : (List MV → R) → R := List.rec (motive := fun _ => (List MV → R) → R) (fun k => k []) (fun x _ ih k => hMV x fun x => ih fun r => k (x :: r)) l
theorem hList_eq : ∀ (l : List MV) (k : List MV → R), hList l k = k l
  | [], k => rfl
  | x :: l, k => by
    show hMV x (fun x => hList l fun r => k (x :: r)) = _
    rw [hMV_eq, hList_eq l]
noncomputable def fMV (m : MV) (k : MV → R) : R := MV.casesOn (motive_1 := fun _ => R) m (k .u) (fun b => fBool b fun b => k (.b b)) (fun i n => fInt n fun n => k (.i i n)) (fun s => k (.s s)) (k .nilp) (fun a b => fNat a fun a => fNat b fun b => k (.p a b)) (k .nils)
  (fun a b c d => fNat a fun a => fNat b fun b => fNat c fun c => fNat d fun d => k (.sl a b c d)) (k .nilm) (fun a => fNat a fun a => k (.m a)) (k .nilf) (fun f a c => hList a fun a => hList c fun c => k (.fn f a c)) (fun l => hList l fun l => k (.ag l)) (fun l => hList l fun l => k (.tp l))
theorem fMV_eq (m : MV) (k : MV → R) : fMV m k = k m := by
  cases m <;> simp only [fMV, fBool_eq, fInt_eq, fNat_eq, hList_eq]
noncomputable def pathQ (n : Nat) : List Bool := Nat.rec (motive := fun _ => Nat → List Bool) (fun _ => []) (fun _ ih n => Nat.rec (motive := fun _ => List Bool) [] (fun m _ => Bool.rec (motive := fun _ => List Bool) (false :: ih (Nat.div m 2)) (true :: ih (Nat.div m 2)) (Nat.beq (Nat.mod m 2) 0)) n) n n
theorem pathQ_eq (n : Nat) : pathQ n = path n := by
  have key : ∀ f n, Nat.rec (motive := fun _ => Nat → List Bool) (fun _ => []) (fun _ ih n => Nat.rec (motive := fun _ => List Bool) [] (fun m _ => Bool.rec (motive := fun _ => List Bool) (false :: ih (Nat.div m 2)) (true :: ih (Nat.div m 2)) (Nat.beq (Nat.mod m 2) 0)) n) f n = pathF f n := by
    intro f
    induction f with
    | zero => intro n; rfl
    | succ f ih =>
      intro n
      cases n with
      | zero => rfl
      | succ m =>
        rw [pathF_succ]
        show Bool.rec (motive := fun _ => List Bool) (false :: _) (true :: _) (Nat.beq (m % 2) 0) = _
        rw [show Nat.div m 2 = m / 2 from rfl, ih]
        by_cases h : m % 2 = 0
        · rw [h]; rfl
        · have h1 : m % 2 = 1 := by omega
          rw [h1]; rfl
  exact key n n
noncomputable def setK {α : Type} (p : List Bool) (x : Option α) : T α → (T α → R) → R :=
  List.rec (motive := fun _ => T α → (T α → R) → R) (fun t k => T.rec (motive := fun _ => R) (k (.nd x .lf .lf)) (fun _ l r _ _ => k (.nd x l r)) t)
    (fun b _ ih t k => Bool.rec (motive := fun _ => R)
      (T.rec (motive := fun _ => R) (ih .lf fun r => k (.nd none .lf r)) (fun v l r _ _ => ih r fun r' => k (.nd v l r')) t)
      (T.rec (motive := fun _ => R) (ih .lf fun l => k (.nd none l .lf)) (fun v l r _ _ => ih l fun l' => k (.nd v l' r)) t) b) p
theorem setK_eq {α : Type} : ∀ (p : List Bool) (x : Option α) (t : T α) (k : T α → R), setK p x t k = k (T.set p x t)
  | [], x, .lf, k => rfl
  | [], x, .nd _ _ _, k => rfl
  | true :: p, x, .lf, k => setK_eq p x .lf _
  | false :: p, x, .lf, k => setK_eq p x .lf _
  | true :: p, x, .nd v l r, k => setK_eq p x l _
  | false :: p, x, .nd v l r, k => setK_eq p x r _
noncomputable def ofLK (l : List MV) : Nat → (T MV → R) → R :=
  List.rec (motive := fun _ => Nat → (T MV → R) → R) (fun _ k => k .lf) (fun x _ ih i k => ih (Nat.succ i) fun t => setK (pathQ i) (some x) t k) l
theorem ofLK_eq : ∀ (l : List MV) (i : Nat) (k : T MV → R), ofLK l i k = k (ofL l i)
  | [], i, k => rfl
  | x :: l, i, k => by
    show ofLK l (i + 1) (fun t => setK (pathQ i) (some x) t k) = _
    rw [ofLK_eq l, setK_eq, pathQ_eq]
    rfl
noncomputable def setNK (l : List MV) : Nat → T MV → (T MV → R) → R :=
  List.rec (motive := fun _ => Nat → T MV → (T MV → R) → R) (fun _ c k => k c) (fun x _ ih off c k => setK (pathQ off) (some x) c fun c => ih (Nat.succ off) c k) l
theorem setNK_eq : ∀ (l : List MV) (off : Nat) (c : T MV) (k : T MV → R), setNK l off c k = k (setN l off c)
  | [], off, c, k => rfl
  | x :: l, off, c, k => by
    show setK (pathQ off) (some x) c (fun c => setNK l (off + 1) c k) = _
    rw [setK_eq, pathQ_eq, setNK_eq l]
    rfl
/-! What a place of a frame holds. -/
noncomputable def tget {α : Type} (t : T α) : List Bool → Option α :=
  T.rec (motive := fun _ => List Bool → Option α) (fun _ => none) (fun v _ _ hl hr p => List.rec (motive := fun _ => Option α) v (fun b q _ => Bool.rec (motive := fun _ => Option α) (hr q) (hl q) b) p) t
theorem tget_eq {α : Type} : ∀ (t : T α) (p : List Bool), tget t p = t.get p
  | .lf, p => rfl
  | .nd v l r, [] => rfl
  | .nd v l r, true :: q => tget_eq l q
  | .nd v l r, false :: q => tget_eq r q
noncomputable def xK (x : X) (f : Fr) (k : MV → R) : R := X.rec (motive := fun _ => R) (fun p => Option.rec (motive := fun _ => R) (k .u) k (tget f p)) k x
theorem xK_eq (x : X) (f : Fr) (k : MV → R) : xK x f k = k (x.ev f) := by
  cases x with
  | c m => rfl
  | t p =>
    show Option.rec (k .u) k (tget f p) = k (X.ev f (.t p))
    rw [tget_eq]
    unfold X.ev
    simp only
    cases f.get p <;> rfl
noncomputable def idK {α : Type} (h : T α) (id : Nat) : Option α := tget h (pathQ id)
noncomputable def mK (M : MH) (id : Nat) : Option MO := MH.rec (motive := fun _ => Option MO) (fun h _ _ => idK h id) M
theorem mK_eq (M : MH) (id : Nat) : mK M id = M.get id := by
  obtain ⟨h, n, lo⟩ := M
  show tget h (pathQ id) = _
  rw [tget_eq, pathQ_eq]
  rfl
noncomputable def hasQ (c : T MV) (n : Nat) : Nat → Bool := Nat.rec (motive := fun _ => Nat → Bool) (fun _ => true) (fun _ ih off => Option.rec (motive := fun _ => Bool) false (fun _ => ih (Nat.succ off)) (tget c (pathQ off))) n
theorem hasQ_eq (c : T MV) : ∀ (n off : Nat), hasQ c n off = hasB c n off
  | 0, off => rfl
  | n + 1, off => by
    show Option.rec (motive := fun _ => Bool) false (fun _ => hasQ c n (off + 1)) (tget c (pathQ off)) = match cget c off with
      | some _ => hasB c n (off + 1)
      | none => false
    rw [tget_eq, pathQ_eq, hasQ_eq c n]
    show _ = match c.get (path off) with
      | some _ => hasB c n (off + 1)
      | none => false
    cases c.get (path off) <;> rfl
noncomputable def getNK (c : T MV) (n : Nat) : Nat → (List MV → R) → R := Nat.rec (motive := fun _ => Nat → (List MV → R) → R) (fun _ k => k []) (fun _ ih off k => oR (tget c (pathQ off)) fun v => ih (Nat.succ off) fun l => k (v :: l)) n
theorem getNK_eq (c : T MV) : ∀ (n off : Nat) (k : List MV → R), getNK c n off k = oR (getN c n off) k
  | 0, off, k => rfl
  | n + 1, off, k => by
    show oR (tget c (pathQ off)) (fun v => getNK c n (off + 1) fun l => k (v :: l)) = _
    rw [tget_eq, pathQ_eq, getN_succ]
    show _ = oR (match c.get (path off) with
      | some v => match getN c n (off + 1) with
        | some l => some (v :: l)
        | none => none
      | none => none) k
    cases c.get (path off) with
    | none => rfl
    | some v =>
      rw [oR_some, getNK_eq c n]
      simp only
      cases getN c n (off + 1) <;> rfl
/-! What a value is. -/
noncomputable def asB (m : MV) (k : Bool → R) : R := MV.rec (motive_1 := fun _ => R) (motive_2 := fun _ => Unit) none k (fun _ _ => none) (fun _ => none) none (fun _ _ => none) none (fun _ _ _ _ => none) none (fun _ => none) none (fun _ _ _ _ _ => none) (fun _ _ => none) (fun _ _ => none) () (fun _ _ _ _ => ()) m
/-- A bool, or a tuple. -/
noncomputable def asBT (m : MV) (z : R) (k : Bool → R) : R := MV.rec (motive_1 := fun _ => R) (motive_2 := fun _ => Unit) none k (fun _ _ => none) (fun _ => none) none (fun _ _ => none) none (fun _ _ _ _ => none) none (fun _ => none) none (fun _ _ _ _ _ => none) (fun _ _ => none) (fun _ _ => z) () (fun _ _ _ _ => ()) m
noncomputable def asI (m : MV) (k : IntKind → Int → R) : R := MV.rec (motive_1 := fun _ => R) (motive_2 := fun _ => Unit) none (fun _ => none) k (fun _ => none) none (fun _ _ => none) none (fun _ _ _ _ => none) none (fun _ => none) none (fun _ _ _ _ _ => none) (fun _ _ => none) (fun _ _ => none) () (fun _ _ _ _ => ()) m
noncomputable def asN (m : MV) (k : Nat → R) : R := MV.rec (motive_1 := fun _ => R) (motive_2 := fun _ => Unit) none (fun _ => none) (fun _ n => Int.rec (motive := fun _ => R) k (fun _ => none) n) (fun _ => none) none (fun _ _ => none) none (fun _ _ _ _ => none) none (fun _ => none) none (fun _ _ _ _ _ => none) (fun _ _ => none) (fun _ _ => none) () (fun _ _ _ _ => ()) m
noncomputable def asP (m : MV) (k : Nat → Nat → R) : R := MV.rec (motive_1 := fun _ => R) (motive_2 := fun _ => Unit) none (fun _ => none) (fun _ _ => none) (fun _ => none) none k none (fun _ _ _ _ => none) none (fun _ => none) none (fun _ _ _ _ _ => none) (fun _ _ => none) (fun _ _ => none) () (fun _ _ _ _ => ()) m
noncomputable def asSl (m : MV) (k : Nat → Nat → Nat → Nat → R) : R := MV.rec (motive_1 := fun _ => R) (motive_2 := fun _ => Unit) none (fun _ => none) (fun _ _ => none) (fun _ => none) none (fun _ _ => none) none k none (fun _ => none) none (fun _ _ _ _ _ => none) (fun _ _ => none) (fun _ _ => none) () (fun _ _ _ _ => ()) m
noncomputable def asS (m : MV) (k0 : R) (k : Nat → Nat → Nat → Nat → R) : R := MV.rec (motive_1 := fun _ => R) (motive_2 := fun _ => Unit) none (fun _ => none) (fun _ _ => none) (fun _ => none) none (fun _ _ => none) k0 k none (fun _ => none) none (fun _ _ _ _ _ => none) (fun _ _ => none) (fun _ _ => none) () (fun _ _ _ _ => ()) m
noncomputable def asTp (m : MV) (k : List MV → R) : R := MV.rec (motive_1 := fun _ => R) (motive_2 := fun _ => Unit) none (fun _ => none) (fun _ _ => none) (fun _ => none) none (fun _ _ => none) none (fun _ _ _ _ => none) none (fun _ => none) none (fun _ _ _ _ _ => none) (fun _ _ => none) (fun a0 _ => k a0) () (fun _ _ _ _ => ()) m
noncomputable def asFn (m : MV) (k : Fn → List MV → List MV → R) : R := MV.rec (motive_1 := fun _ => R) (motive_2 := fun _ => Unit) none (fun _ => none) (fun _ _ => none) (fun _ => none) none (fun _ _ => none) none (fun _ _ _ _ => none) none (fun _ => none) none (fun a0 a1 a2 _ _ => k a0 a1 a2) (fun _ _ => none) (fun _ _ => none) () (fun _ _ _ _ => ()) m
noncomputable def asCs (o : Option MO) (k : Bool → Nat → T MV → R) : R := oR o fun o => MO.rec (motive := fun _ => R) k (fun _ _ => none) o
noncomputable def mhR (M : MH) (k : T MO → Nat → Nat → R) : R := MH.rec (motive := fun _ => R) k M
/-! Numbers. -/
noncomputable def ikN (k : IntKind) : Nat := IntKind.rec (motive := fun _ => Nat) 0 1 2 3 4 5 6 7 k
theorem ikN_eq (a b : IntKind) : Nat.beq (ikN a) (ikN b) = (a == b) := by cases a <;> cases b <;> rfl
noncomputable def limP (k : IntKind) : Nat := IntKind.rec (motive := fun _ => Nat) 128 32768 2147483648 9223372036854775808 256 65536 4294967296 18446744073709551616 k
noncomputable def limM (k : IntKind) : Nat := IntKind.rec (motive := fun _ => Nat) 128 32768 2147483648 9223372036854775808 0 0 0 0 k
noncomputable def wrapK (i : IntKind) (n : Int) (k : Int → R) : R := Int.rec (motive := fun _ => R)
  (fun m => Bool.rec (motive := fun _ => R) (fInt (wrapF i (.ofNat m)) k) (fNat m fun m => k (.ofNat m)) (Nat.ble (Nat.succ m) (limP i)))
  (fun m => Bool.rec (motive := fun _ => R) (fInt (wrapF i (.negSucc m)) k) (fNat m fun m => k (.negSucc m)) (Nat.ble (Nat.succ m) (limM i))) n
theorem wrapK_eq (i : IntKind) (n : Int) (k : Int → R) : wrapK i n k = k (wrapF i n) := by
  cases n with
  | ofNat m =>
    show Bool.rec (motive := fun _ => R) (fInt (wrapF i (.ofNat m)) k) (fNat m fun m => k (.ofNat m)) (Nat.ble (m + 1) (limP i)) = _
    rw [fInt_eq, fNat_eq]
    cases h : Nat.ble (m + 1) (limP i) with
    | false => rfl
    | true =>
      have h := Nat.le_of_ble_eq_true h
      show k (.ofNat m) = _
      congr 1
      cases i with
      | i8 =>
        have h : m + 1 ≤ 128 := h
        have e1 : (2 : Int) ^ 8 = 256 := by decide
        have e2 : (2 : Int) ^ 7 = 128 := by decide
        simp only [wrapF_eq, IntKind.wrap, IntKind.bits, IntKind.signed, Int.ofNat_eq_natCast, Bool.true_and, Bool.false_and, Bool.false_eq_true, if_false, decide_eq_true_eq, ge_iff_le, e1, e2, show (8 : Nat) - 1 = 7 from rfl]
        split <;> omega
      | i16 =>
        have h : m + 1 ≤ 32768 := h
        have e1 : (2 : Int) ^ 16 = 65536 := by decide
        have e2 : (2 : Int) ^ 15 = 32768 := by decide
        simp only [wrapF_eq, IntKind.wrap, IntKind.bits, IntKind.signed, Int.ofNat_eq_natCast, Bool.true_and, Bool.false_and, Bool.false_eq_true, if_false, decide_eq_true_eq, ge_iff_le, e1, e2, show (16 : Nat) - 1 = 15 from rfl]
        split <;> omega
      | i32 =>
        have h : m + 1 ≤ 2147483648 := h
        have e1 : (2 : Int) ^ 32 = 4294967296 := by decide
        have e2 : (2 : Int) ^ 31 = 2147483648 := by decide
        simp only [wrapF_eq, IntKind.wrap, IntKind.bits, IntKind.signed, Int.ofNat_eq_natCast, Bool.true_and, Bool.false_and, Bool.false_eq_true, if_false, decide_eq_true_eq, ge_iff_le, e1, e2, show (32 : Nat) - 1 = 31 from rfl]
        split <;> omega
      | i64 =>
        have h : m + 1 ≤ 9223372036854775808 := h
        have e1 : (2 : Int) ^ 64 = 18446744073709551616 := by decide
        have e2 : (2 : Int) ^ 63 = 9223372036854775808 := by decide
        simp only [wrapF_eq, IntKind.wrap, IntKind.bits, IntKind.signed, Int.ofNat_eq_natCast, Bool.true_and, Bool.false_and, Bool.false_eq_true, if_false, decide_eq_true_eq, ge_iff_le, e1, e2, show (64 : Nat) - 1 = 63 from rfl]
        split <;> omega
      | u8 =>
        have h : m + 1 ≤ 256 := h
        have e1 : (2 : Int) ^ 8 = 256 := by decide
        have e2 : (2 : Int) ^ 7 = 128 := by decide
        simp only [wrapF_eq, IntKind.wrap, IntKind.bits, IntKind.signed, Int.ofNat_eq_natCast, Bool.true_and, Bool.false_and, Bool.false_eq_true, if_false, decide_eq_true_eq, ge_iff_le, e1, e2, show (8 : Nat) - 1 = 7 from rfl]
        omega
      | u16 =>
        have h : m + 1 ≤ 65536 := h
        have e1 : (2 : Int) ^ 16 = 65536 := by decide
        have e2 : (2 : Int) ^ 15 = 32768 := by decide
        simp only [wrapF_eq, IntKind.wrap, IntKind.bits, IntKind.signed, Int.ofNat_eq_natCast, Bool.true_and, Bool.false_and, Bool.false_eq_true, if_false, decide_eq_true_eq, ge_iff_le, e1, e2, show (16 : Nat) - 1 = 15 from rfl]
        omega
      | u32 =>
        have h : m + 1 ≤ 4294967296 := h
        have e1 : (2 : Int) ^ 32 = 4294967296 := by decide
        have e2 : (2 : Int) ^ 31 = 2147483648 := by decide
        simp only [wrapF_eq, IntKind.wrap, IntKind.bits, IntKind.signed, Int.ofNat_eq_natCast, Bool.true_and, Bool.false_and, Bool.false_eq_true, if_false, decide_eq_true_eq, ge_iff_le, e1, e2, show (32 : Nat) - 1 = 31 from rfl]
        omega
      | u64 =>
        have h : m + 1 ≤ 18446744073709551616 := h
        have e1 : (2 : Int) ^ 64 = 18446744073709551616 := by decide
        have e2 : (2 : Int) ^ 63 = 9223372036854775808 := by decide
        simp only [wrapF_eq, IntKind.wrap, IntKind.bits, IntKind.signed, Int.ofNat_eq_natCast, Bool.true_and, Bool.false_and, Bool.false_eq_true, if_false, decide_eq_true_eq, ge_iff_le, e1, e2, show (64 : Nat) - 1 = 63 from rfl]
        omega
  | negSucc m =>
    show Bool.rec (motive := fun _ => R) (fInt (wrapF i (.negSucc m)) k) (fNat m fun m => k (.negSucc m)) (Nat.ble (m + 1) (limM i)) = _
    rw [fInt_eq, fNat_eq]
    cases h : Nat.ble (m + 1) (limM i) with
    | false => rfl
    | true =>
      have h := Nat.le_of_ble_eq_true h
      show k (.negSucc m) = _
      congr 1
      cases i with
      | i8 =>
        have h : m + 1 ≤ 128 := h
        have e1 : (2 : Int) ^ 8 = 256 := by decide
        have e2 : (2 : Int) ^ 7 = 128 := by decide
        simp only [wrapF_eq, IntKind.wrap, IntKind.bits, IntKind.signed, Int.ofNat_eq_natCast, Bool.true_and, Bool.false_and, Bool.false_eq_true, if_false, decide_eq_true_eq, ge_iff_le, e1, e2, show (8 : Nat) - 1 = 7 from rfl]
        split <;> omega
      | i16 =>
        have h : m + 1 ≤ 32768 := h
        have e1 : (2 : Int) ^ 16 = 65536 := by decide
        have e2 : (2 : Int) ^ 15 = 32768 := by decide
        simp only [wrapF_eq, IntKind.wrap, IntKind.bits, IntKind.signed, Int.ofNat_eq_natCast, Bool.true_and, Bool.false_and, Bool.false_eq_true, if_false, decide_eq_true_eq, ge_iff_le, e1, e2, show (16 : Nat) - 1 = 15 from rfl]
        split <;> omega
      | i32 =>
        have h : m + 1 ≤ 2147483648 := h
        have e1 : (2 : Int) ^ 32 = 4294967296 := by decide
        have e2 : (2 : Int) ^ 31 = 2147483648 := by decide
        simp only [wrapF_eq, IntKind.wrap, IntKind.bits, IntKind.signed, Int.ofNat_eq_natCast, Bool.true_and, Bool.false_and, Bool.false_eq_true, if_false, decide_eq_true_eq, ge_iff_le, e1, e2, show (32 : Nat) - 1 = 31 from rfl]
        split <;> omega
      | i64 =>
        have h : m + 1 ≤ 9223372036854775808 := h
        have e1 : (2 : Int) ^ 64 = 18446744073709551616 := by decide
        have e2 : (2 : Int) ^ 63 = 9223372036854775808 := by decide
        simp only [wrapF_eq, IntKind.wrap, IntKind.bits, IntKind.signed, Int.ofNat_eq_natCast, Bool.true_and, Bool.false_and, Bool.false_eq_true, if_false, decide_eq_true_eq, ge_iff_le, e1, e2, show (64 : Nat) - 1 = 63 from rfl]
        split <;> omega
      | u8 =>
        have h : m + 1 ≤ 0 := h
        omega
      | u16 =>
        have h : m + 1 ≤ 0 := h
        omega
      | u32 =>
        have h : m + 1 ≤ 0 := h
        omega
      | u64 =>
        have h : m + 1 ≤ 0 := h
        omega
abbrev BinT := IntKind → Int → IntKind → Int → (MV → R) → R
/-- Of two numbers from 0 on: this. Else that. -/
noncomputable def nnR (a b : Int) (k : Nat → Nat → R) (z : R) : R := Int.rec (motive := fun _ => R) (fun a => Int.rec (motive := fun _ => R) (fun b => k a b) (fun _ => z) b) (fun _ => z) a
noncomputable def slowB (op : BinOp) : BinT := fun i a j b k => oR (Ev.binI op i a j b) fun m => fMV m k
noncomputable def addB : BinT := fun i a j b k => bR (Nat.beq (ikN i) (ikN j)) (nnR a b (fun a b => wrapK i (.ofNat (Nat.add a b)) fun n => k (.i i n)) (wrapK i (a + b) fun n => k (.i i n)))
noncomputable def subB : BinT := fun i a j b k => bR (Nat.beq (ikN i) (ikN j)) (nnR a b (fun a b => Bool.rec (motive := fun _ => R) (wrapK i (Int.ofNat a - Int.ofNat b) fun n => k (.i i n)) (wrapK i (.ofNat (Nat.sub a b)) fun n => k (.i i n)) (Nat.ble b a)) (wrapK i (a - b) fun n => k (.i i n)))
noncomputable def mulB : BinT := fun i a j b k => bR (Nat.beq (ikN i) (ikN j)) (nnR a b (fun a b => wrapK i (.ofNat (Nat.mul a b)) fun n => k (.i i n)) (wrapK i (a * b) fun n => k (.i i n)))
noncomputable def cmpB (op : BinOp) (c : Nat → Nat → Bool) : BinT := fun i a j b k => nnR a b (fun a b => bR (Nat.beq (ikN i) (ikN j)) (fBool (c a b) fun t => k (.b t))) (slowB op i a j b k)
noncomputable def binK (op : BinOp) : BinT := BinOp.rec (motive := fun _ => BinT) addB subB mulB (slowB .quo) (slowB .rem) (slowB .and) (slowB .or) (slowB .xor) (slowB .shl) (slowB .shr) (slowB .andNot)
  (cmpB .eql Nat.beq) (cmpB .neq (fun a b => !Nat.beq a b)) (cmpB .lss (fun a b => Nat.ble (Nat.succ a) b)) (cmpB .leq (fun a b => Nat.ble a b)) (cmpB .gtr (fun a b => Nat.ble (Nat.succ b) a)) (cmpB .geq (fun a b => Nat.ble b a)) op
theorem slowB_eq (op : BinOp) (i : IntKind) (a : Int) (j : IntKind) (b : Int) (k : MV → R) : slowB op i a j b k = oR (Ev.binI op i a j b) k := by
  unfold slowB
  simp only [fMV_eq]
theorem cmpB_eq (op : BinOp) (c : Nat → Nat → Bool) (h : ∀ i a j b, Ev.binI op i (.ofNat a) j (.ofNat b) = bif i == j then some (.b (c a b)) else none) (i : IntKind) (a : Int) (j : IntKind) (b : Int) (k : MV → R) : cmpB op c i a j b k = oR (Ev.binI op i a j b) k := by
  unfold cmpB
  rw [slowB_eq]
  cases a <;> cases b <;> try rfl
  rename_i a b
  simp only [nnR, fBool_eq, bR_eq, ikN_eq, h]
  cases (i == j) <;> rfl
theorem binK_eq (op : BinOp) (i : IntKind) (a : Int) (j : IntKind) (b : Int) (k : MV → R) : binK op i a j b k = oR (Ev.binI op i a j b) k := by
  cases op with
  | add =>
    show addB i a j b k = _
    simp only [addB, wrapK_eq, bR_eq, ikN_eq, Ev.binI]
    cases (i == j) <;> (try rfl)
    cases a <;> cases b <;> rfl
  | sub =>
    show subB i a j b k = _
    simp only [subB, wrapK_eq, bR_eq, ikN_eq, Ev.binI]
    cases (i == j) <;> (try rfl)
    cases a <;> cases b <;> (try rfl)
    rename_i a b
    simp only [nnR, cond_true, oR_some]
    cases h : Nat.ble b a with
    | false => rfl
    | true =>
      have h := Nat.le_of_ble_eq_true h
      have e : (Int.ofNat (Nat.sub a b)) = Int.ofNat a - Int.ofNat b := by
        show ((a - b : Nat) : Int) = (a : Int) - (b : Int)
        omega
      show k (.i i (wrapF i (.ofNat (Nat.sub a b)))) = _
      rw [e]
  | mul =>
    show mulB i a j b k = _
    simp only [mulB, wrapK_eq, bR_eq, ikN_eq, Ev.binI]
    cases (i == j) <;> (try rfl)
    cases a <;> cases b <;> rfl
  | eql => exact cmpB_eq .eql Nat.beq (fun i a j b => by simp only [Ev.binI]; congr 3; rw [Bool.eq_iff_iff]; simp; omega) i a j b k
  | neq => exact cmpB_eq .neq (fun a b => !Nat.beq a b) (fun i a j b => by simp only [Ev.binI]; congr 3; cases h : Nat.beq a b with
    | true => have h := Nat.eq_of_beq_eq_true h; subst h; simp
    | false => have h := Nat.ne_of_beq_eq_false h; simp; omega) i a j b k
  | lss => exact cmpB_eq .lss (fun a b => Nat.ble (Nat.succ a) b) (fun i a j b => by simp only [Ev.binI]; congr 3; rw [Bool.eq_iff_iff]; simp; omega) i a j b k
  | leq => exact cmpB_eq .leq (fun a b => Nat.ble a b) (fun i a j b => by simp only [Ev.binI]; congr 3; rw [Bool.eq_iff_iff]; simp) i a j b k
  | gtr => exact cmpB_eq .gtr (fun a b => Nat.ble (Nat.succ b) a) (fun i a j b => by simp only [Ev.binI]; congr 3; rw [Bool.eq_iff_iff]; simp; omega) i a j b k
  | geq => exact cmpB_eq .geq (fun a b => Nat.ble b a) (fun i a j b => by simp only [Ev.binI]; congr 3; rw [Bool.eq_iff_iff]; simp) i a j b k
  | _ => exact slowB_eq _ i a j b k
abbrev Callk := Nat → List MV → MH → (MV → MH → R) → R
abbrev OpK := Callk → Fr → MH → (MV → MH → R) → R
/-- Of an operation that leaves memory alone. -/
noncomputable def vOf (o : Iop) (f : Fr) (M : MH) : Option MV := match o.ev (fun _ _ _ => none) f M with
  | some (m, _) => some m
  | none => none
noncomputable def pureK (o : Iop) : OpK := fun _ f M k => oR (vOf o f M) fun m => fMV m fun m => k m M
noncomputable def pushK (sz : Nat) (l : List MV) (M : MH) (k : Nat → MH → R) : R :=
  mhR M fun h n lo => bR (Nat.ble lo n) (ofLK l 0 fun t => fNat sz fun sz => setK (pathQ n) (some (.cs false sz t)) h fun h => fNat (Nat.succ n) fun n' => k n ⟨h, n', lo⟩)
theorem pushK_eq (sz : Nat) (l : List MV) (M : MH) (k : Nat → MH → R) : pushK sz l M k = bif Nat.ble M.lo M.n then k M.n (M.push (.cs false sz (ofL l 0))) else none := by
  obtain ⟨h, n, lo⟩ := M
  simp only [pushK, mhR, bR_eq, ofLK_eq, fNat_eq, setK_eq, pathQ_eq]
  rfl
/-! Lists, quickly. -/
noncomputable def lenQ {α : Type} (l : List α) : Nat := List.rec (motive := fun _ => Nat) 0 (fun _ _ ih => Nat.succ ih) l
theorem lenQ_eq {α : Type} : ∀ l : List α, lenQ l = l.length
  | [] => rfl
  | x :: l => congrArg Nat.succ (lenQ_eq l)
noncomputable def cellsQ (m : MV) : List MV := MV.rec (motive_1 := fun _ => List MV) (motive_2 := fun _ => Unit) [.u] (fun a0 => [.b a0]) (fun a0 a1 => [.i a0 a1]) (fun a0 => [.s a0]) [.nilp] (fun a0 a1 => [.p a0 a1]) [.nils] (fun a0 a1 a2 a3 => [.sl a0 a1 a2 a3]) [.nilm] (fun a0 => [.m a0]) [.nilf] (fun a0 a1 a2 _ _ => [.fn a0 a1 a2]) (fun a0 _ => a0) (fun a0 _ => [.tp a0]) () (fun _ _ _ _ => ()) m
theorem cellsQ_eq (m : MV) : cellsQ m = m.cells := by cases m <;> rfl
noncomputable def isUQ (m : MV) : Bool := MV.rec (motive_1 := fun _ => Bool) (motive_2 := fun _ => Unit) true (fun _ => false) (fun _ _ => false) (fun _ => false) false (fun _ _ => false) false (fun _ _ _ _ => false) false (fun _ => false) false (fun _ _ _ _ _ => false) (fun _ _ => false) (fun _ _ => false) () (fun _ _ _ _ => ()) m
theorem isUQ_eq (m : MV) : isUQ m = isU m := by cases m <;> rfl
noncomputable def oneQ (m : MV) : Bool := MV.rec (motive_1 := fun _ => Bool) (motive_2 := fun _ => Unit) false (fun _ => true) (fun _ _ => true) (fun _ => true) true (fun _ _ => true) true (fun _ _ _ _ => true) true (fun _ => true) true (fun _ _ _ _ _ => true) (fun _ _ => false) (fun _ _ => false) () (fun _ _ _ _ => ()) m
theorem oneQ_eq (m : MV) : oneQ m = m.one := by cases m <;> rfl
noncomputable def andQ (a b : Bool) : Bool := Bool.rec (motive := fun _ => Bool) false b a
theorem andQ_eq (a b : Bool) : andQ a b = (a && b) := by cases a <;> rfl
noncomputable def notQ (a : Bool) : Bool := Bool.rec (motive := fun _ => Bool) true false a
theorem notQ_eq (a : Bool) : notQ a = !a := by cases a <;> rfl
noncomputable def allQ (l : List MV) : Bool := List.rec (motive := fun _ => Bool) true (fun m _ ih => andQ (oneQ m) ih) l
theorem allQ_eq : ∀ l : List MV, allQ l = allOne l
  | [] => rfl
  | x :: l => by
    show andQ (oneQ x) (allQ l) = _
    rw [andQ_eq, oneQ_eq, allQ_eq l]
    rfl
theorem beq_nat (a b : Nat) : Nat.beq a b = (a == b) := by rw [Bool.eq_iff_iff]; simp
noncomputable def owK (l : List MV) : List MV → (List MV → R) → R := List.rec (motive := fun _ => List MV → (List MV → R) → R) (fun cells k => k cells) (fun x _ ih cells k => List.rec (motive := fun _ => R) none (fun _ r _ => ih r fun r => k (x :: r)) cells) l
theorem owK_eq : ∀ (l cells : List MV) (k : List MV → R), l.length ≤ cells.length → owK l cells k = k (l ++ cells.drop l.length)
  | [], cells, k, h => rfl
  | x :: l, [], k, h => by simp at h
  | x :: l, c :: cells, k, h => by
    show owK l cells (fun r => k (x :: r)) = _
    rw [owK_eq l cells _ (by simpa using h)]
    rfl
noncomputable def splK (l : List MV) (o : Nat) : List MV → (List MV → R) → R := Nat.rec (motive := fun _ => List MV → (List MV → R) → R) (owK l) (fun _ ih cells k => List.rec (motive := fun _ => R) none (fun c r _ => ih r fun r => k (c :: r)) cells) o
theorem splK_eq (l : List MV) : ∀ (o : Nat) (cells : List MV) (k : List MV → R), o + l.length ≤ cells.length → splK l o cells k = k (splice cells o l)
  | 0, cells, k, h => by
    refine (owK_eq l cells k (by omega)).trans ?_
    simp [splice]
  | o + 1, [], k, h => by simp at h
  | o + 1, c :: cells, k, h => by
    show splK l o cells (fun r => k (c :: r)) = _
    rw [splK_eq l o cells _ (by simp at h; omega)]
    simp [splice, Nat.add_right_comm]
noncomputable def fillK (f : Fr) (parts : List (Nat × Nat × X)) : List MV → (List MV → R) → R := List.rec (motive := fun _ => List MV → (List MV → R) → R) (fun cells k => k cells)
  (fun p _ ih cells k => Prod.rec (motive := fun _ => R) (fun o q => Prod.rec (motive := fun _ => R) (fun s x => xK x f fun m => bR (andQ (Nat.beq (lenQ (cellsQ m)) s) (andQ (Nat.ble (Nat.add o (lenQ (cellsQ m))) (lenQ cells)) (notQ (isUQ m)))) (splK (cellsQ m) o cells fun cells => ih cells k)) q) p) parts
theorem fillK_eq (f : Fr) : ∀ (parts : List (Nat × Nat × X)) (cells : List MV) (k : List MV → R), fillK f parts cells k = oR (fillM (parts.map fun x => (x.1, x.2.1, x.2.2.ev f)) cells) k
  | [], cells, k => rfl
  | (o, s, x) :: r, cells, k => by
    show xK x f (fun m => bR (andQ (Nat.beq (lenQ (cellsQ m)) s) (andQ (Nat.ble (Nat.add o (lenQ (cellsQ m))) (lenQ cells)) (notQ (isUQ m)))) (splK (cellsQ m) o cells fun cells => fillK f r cells k)) = _
    simp only [xK_eq, bR_eq, lenQ_eq, cellsQ_eq, isUQ_eq, andQ_eq, notQ_eq, beq_nat, List.map_cons, fillM_cons, ← Bool.and_assoc]
    cases h : ((x.ev f).cells.length == s && Nat.ble (Nat.add o (x.ev f).cells.length) cells.length && !isU (x.ev f)) with
    | false =>
      rfl
    | true =>
      have h' : ((x.ev f).cells.length == s && Nat.ble (o + (x.ev f).cells.length) cells.length && !isU (x.ev f)) = true := h
      simp only [Bool.and_eq_true] at h'
      simp only [cond_true]
      rw [splK_eq _ _ _ _ (Nat.le_of_ble_eq_true h'.1.2), fillK_eq f r]
noncomputable def kMov (x : X) : OpK := fun _ f M k => xK x f fun m => k m M
noncomputable def kPick (c a b : X) : OpK := fun _ f M k => xK c f fun c => asB c fun t => Bool.rec (motive := fun _ => R) (xK b f fun m => k m M) (xK a f fun m => k m M) t
noncomputable def kNew (l : List MV) : OpK := fun _ f M k => pushK (lenQ l) l M fun n M => k (.p n 0) M
noncomputable def kBox (x : X) : OpK := fun _ f M k => xK x f fun m => bR (notQ (isUQ m)) (pushK (lenQ (cellsQ m)) (cellsQ m) M fun n M => k (.p n 0) M)
noncomputable def kBsl (sz n : Nat) (zs : List MV) (parts : List (Nat × Nat × X)) : OpK := fun _ f M k => fillK f parts (zrow zs n) fun l => pushK sz l M fun i M => k (.sl i 0 n 0) M
noncomputable def kLd1 (x : X) : OpK := fun _ f M k => xK x f fun p => asP p fun id off => mhR M fun h _ _ => asCs (idK h id) fun _ _ c => oR (tget c (pathQ off)) fun v => k v M
noncomputable def kLdN (n : Nat) (x : X) : OpK := fun _ f M k => xK x f fun p => asP p fun id off => asCs (mK M id) fun _ _ c => getNK c n off fun l => k (.ag l) M
noncomputable def kSt (n : Nat) (x y : X) : OpK := fun _ f M k => xK x f fun p => asP p fun id off => xK y f fun m => asCs (mK M id) fun ro sz c => Bool.rec (motive := fun _ => R)
  (mhR M fun h q lo => bR (andQ (Nat.beq (lenQ (cellsQ m)) n) (andQ (notQ (isUQ m)) (andQ (allQ (cellsQ m)) (andQ (Nat.ble lo id) (hasQ c n off))))) (setNK (cellsQ m) off c fun c => setK (pathQ id) (some (.cs false sz c)) h fun h => k .u ⟨h, q, lo⟩)) none ro
noncomputable def kNck (x : X) : OpK := fun _ f M k => xK x f fun p => asP p fun id off => k (.p id off) M
noncomputable def kBinI (op : BinOp) (x y : X) : OpK := fun _ f M k => xK x f fun x => asI x fun i a => xK y f fun y => asI y fun j b => binK op i a j b fun m => k m M
noncomputable def kFa (o : Nat) (x : X) : OpK := fun _ f M k => xK x f fun p => asP p fun id off => fNat (off + o) fun off => k (.p id off) M
noncomputable def kIxA (n s : Nat) (x i : X) : OpK := fun _ f M k => xK x f fun p => asP p fun id off => xK i f fun i => asN i fun j => bR (Nat.ble (Nat.succ j) n) (fNat (off + j * s) fun off => k (.p id off) M)
noncomputable def kIxS (s : Nat) (x i : X) : OpK := fun _ f M k => xK x f fun p => asSl p fun id off ln _ => xK i f fun i => asN i fun j => bR (Nat.ble (Nat.succ j) ln) (fNat (off + j * s) fun off => k (.p id off) M)
noncomputable def kExt (x : X) (i : Nat) : OpK := fun _ f M k => xK x f fun x => asTp x fun l => oR l[i]? fun m => hMV m fun m => k m M
noncomputable def kMks (sz bytes : Nat) (zs : List MV) (x y : X) : OpK := fun _ f M k => asN (x.ev f) fun l => asN (y.ev f) fun c =>
  bR (Nat.ble l c && Nat.ble (bytes * c) 281474976710656 && Nat.ble c 9223372036854775807) (hList (zrow zs c) fun r => pushK sz r M fun i M => k (.sl i 0 l 0) M)
noncomputable def kMkm : OpK := fun _ f M k => mhR M fun h n lo => bR (Nat.ble lo n) (setK (pathQ n) (some (.mp [] 0)) h fun h => fNat (Nat.succ n) fun n' => k (.m n) ⟨h, n', lo⟩)
noncomputable def kApp (sz bytes : Nat) (x y : X) : OpK := fun _ f M k => xK x f fun dst => oR (srcM M sz (y.ev f)) fun s => Prod.rec (motive := fun _ => R) (fun n news => hList news fun news => bR (allQ news) (Nat.rec (motive := fun _ => R)
    (asS dst (k .nils M) fun a b c d => k (.sl a b c d) M)
    (fun q _ => asS dst
      (bR (Nat.ble ((q + 1) * bytes) 140737488355328 && Nat.ble (q + 1) 9223372036854775807) (fNat (q + 1) fun n => pushK sz news M fun i M => k (.sl i 0 n 0) M))
      fun id off len e => bR (Nat.ble ((len + (q + 1)) * bytes) 140737488355328 && Nat.ble (len + (q + 1)) 9223372036854775807 && Nat.ble M.lo id && Nat.blt id M.n && off == e * sz)
        (asCs (mK M id) fun ro s c => Bool.rec (motive := fun _ => R) (bR (s == sz) (oR (getN c (len * sz) off) fun olds => hList (olds ++ news) fun l => ofLK l 0 fun t => mhR M fun h n lo =>
          setK (pathQ id) none h fun h => setK (pathQ n) (some (.cs false sz t)) h fun h => fNat (len + (q + 1)) fun m => fNat (Nat.succ n) fun n' => k (.sl n 0 m 0) ⟨h, n', lo⟩)) none ro)) n)) s
noncomputable def kLen (x : X) : OpK := fun _ f M k => xK x f fun x => asS x (k (.i .i64 (.ofNat 0)) M) fun _ _ n _ => k (.i .i64 (.ofNat n)) M
noncomputable def kCall (g : Nat) (l : List X) : OpK := fun call f M k => hList (l.map (X.ev f)) fun args => call g args M k
noncomputable def kCallv (x : X) (l : List X) : OpK := fun call f M k => xK x f fun x => asFn x fun g a c => Fn.casesOn (motive := fun _ => R) g (fun g => hList (a ++ (l.map (X.ev f) ++ c)) fun args => call g args M k) (fun _ => none) (fun _ _ => none) (fun _ _ _ _ => none) (fun _ => none)
noncomputable def kCvS (x : X) : OpK := fun _ f M k => asSl (x.ev f) fun id off n e => Nat.rec (motive := fun _ => R) none (fun n _ => asCs (mK M id) fun ro sz c => Bool.rec (motive := fun _ => R) (mhR M fun h q lo => bR (Nat.ble lo id) (setK (pathQ id) (some (.cs false sz c)) h fun h => k (.sl id off (Nat.succ n) e) ⟨h, q, lo⟩)) none ro) n
noncomputable def kBuild (zs : List MV) (ps : List (Nat × Nat × X)) : OpK := fun _ f M k => fillK f ps zs fun l => k (.ag l) M
noncomputable def eqK (op : BinOp) (r : Bool) (k : MV → R) : R := oR (eqM op r) fun m => fMV m k
theorem eqK_eq (op : BinOp) (r : Bool) (k : MV → R) : eqK op r k = oR (eqM op r) k := by
  unfold eqK
  simp only [fMV_eq]
noncomputable def kBinB (op : BinOp) (x y : X) : OpK := fun _ f M k => xK x f fun x => asB x fun a => xK y f fun y => asB y fun b => eqK op (a == b) fun m => k m M
noncomputable def kBinN (n : NilKind) (op : BinOp) (x y : X) : OpK := fun _ f M k => xK x f fun x => xK y f fun y => oR (nilR n x y) fun r => eqK op r fun m => k m M
noncomputable def kUn (op : UnOp) (x : X) : OpK := fun _ f M k => xK x f fun x => oR (unM op x) fun m => fMV m fun m => k m M
noncomputable def kCvI (i : IntKind) (x : X) : OpK := fun _ f M k => xK x f fun x => asI x fun _ n => wrapK i n fun n => k (.i i n) M
noncomputable def asAg (m : MV) (k : List MV → R) : R := MV.rec (motive_1 := fun _ => R) (motive_2 := fun _ => Unit) none (fun _ => none) (fun _ _ => none) (fun _ => none) none (fun _ _ => none) none (fun _ _ _ _ => none) none (fun _ => none) none (fun _ _ _ _ _ => none) (fun a0 _ => k a0) (fun _ _ => none) () (fun _ _ _ _ => ()) m
noncomputable def kFld1 (o : Nat) (x : X) : OpK := fun _ f M k => xK x f fun x => asAg x fun l => oR l[o]? fun m => k m M
noncomputable def kFldN (o n : Nat) (x : X) : OpK := fun _ f M k => xK x f fun x => asAg x fun l => hList ((l.drop o).take n) fun l => k (.ag l) M
noncomputable def kCut (sz : Nat) (x : X) (lo hi : Option X) : OpK := fun _ f M k => xK x f fun x => oR (cutM sz x (lo.map (X.ev f)) (hi.map (X.ev f))) fun m => fMV m fun m => k m M
noncomputable def kLenT (x : X) : OpK := fun _ f M k => xK x f fun x => MV.rec (motive_1 := fun _ => R) (motive_2 := fun _ => Unit) none (fun _ => none) (fun _ _ => none) (fun s => fNat s.size fun n => k (.i .i64 (.ofNat n)) M) none (fun _ _ => none) none (fun _ _ _ _ => none) none (fun _ => none) none (fun _ _ _ _ _ => none) (fun _ _ => none) (fun _ _ => none) () (fun _ _ _ _ => ()) x
noncomputable def kMn (x y : X) : OpK := fun _ f M k => xK x f fun x => asI x fun i a => xK y f fun y => asI y fun _ b => fInt (bif decide (b < a) then b else a) fun n => k (.i i n) M
noncomputable def kMx (x y : X) : OpK := fun _ f M k => xK x f fun x => asI x fun i a => xK y f fun y => asI y fun _ b => fInt (bif decide (a < b) then b else a) fun n => k (.i i n) M
noncomputable def kMkf (g : Fn) (a c : List X) : OpK := fun _ f M k => hList (a.map (X.ev f)) fun a => hList (c.map (X.ev f)) fun c => k (.fn g a c) M
noncomputable def kPu2 (g : PG) (x y : X) : OpK := fun _ f M k => xK x f fun x => xK y f fun y => oR (puM g x y) fun m => fMV m fun m => k m M
noncomputable def kRdm (g : RG) (x y : X) : OpK := fun _ f M k => xK x f fun x => xK y f fun y => oR (rdF g M x y) fun m => fMV m fun m => k m M
noncomputable def asM (m : MV) (k : Nat → R) : R := MV.rec (motive_1 := fun _ => R) (motive_2 := fun _ => Unit) none (fun _ => none) (fun _ _ => none) (fun _ => none) none (fun _ _ => none) none (fun _ _ _ _ => none) none k none (fun _ _ _ _ _ => none) (fun _ _ => none) (fun _ _ => none) () (fun _ _ _ _ => ()) m
noncomputable def asMp (o : Option MO) (k : List (MV × MV × Nat) → Nat → R) : R := oR o fun o => MO.rec (motive := fun _ => R) (fun _ _ _ => none) k o
noncomputable def hL {α : Type} (l : List α) : (List α → R) → R := List.rec (motive := fun _ => (List α → R) → R) (fun k => k []) (fun x _ ih k => ih fun r => k (x :: r)) l
theorem hL_eq {α : Type} : ∀ (l : List α) (k : List α → R), hL l k = k l
  | [], k => rfl
  | x :: l, k => by
    show hL l (fun r => k (x :: r)) = _
    rw [hL_eq l]
noncomputable def putK (M : MH) (id : Nat) (o : MO) (k : MH → R) : R := mhR M fun h n lo => setK (pathQ id) (some o) h fun h => k ⟨h, n, lo⟩
theorem putK_eq (M : MH) (id : Nat) (o : MO) (k : MH → R) : putK M id o k = k (M.set id (some o)) := by
  obtain ⟨h, n, lo⟩ := M
  show setK (pathQ id) (some o) h _ = _
  rw [setK_eq, pathQ_eq]
  rfl
noncomputable def kMup (kd : Option IntKind) (x y z : X) : OpK := fun _ f M k => xK x f fun x => asM x fun id => xK y f fun y => xK z f fun z => bR (andQ (keyOk kd y) (Nat.ble M.lo id)) (asMp (mK M id) fun es ck => oR (findM y es 0) fun r =>
  Option.rec (motive := fun _ => R) (hL (es ++ [(y, z, ck)]) fun es => fNat (ck + 1) fun ck => putK M id (.mp es ck) fun M => k .u M)
    (fun q => Prod.rec (motive := fun _ => R) (fun i _ => oR es[i]? fun e => hL (es.set i (y, z, e.2.2)) fun es => putK M id (.mp es ck) fun M => k .u M) q) r)
noncomputable def kCpy (x y : X) : OpK := fun _ f M k => xK x f fun x => asSl x fun id off n _ => xK y f fun y => oR (srcM M 1 y) fun s => Prod.rec (motive := fun _ => R) (fun m l => fNat (min m n) fun q0 => bR (Nat.ble q0 l.length && allOne (l.take q0)) (Nat.rec (motive := fun _ => R) (k (.i .i64 0) M)
  (fun q _ => asCs (mK M id) fun ro sz c => Bool.rec (motive := fun _ => R) (bR (Nat.ble M.lo id && hasQ c (q + 1) off) (setNK (l.take (q + 1)) off c fun c => putK M id (.cs false sz c) fun M => fNat (q + 1) fun n => k (.i .i64 (.ofNat n)) M)) none ro) q0)) s
noncomputable def kWrm (g : WG) (x y z : X) : OpK := WG.rec (motive := fun _ => OpK) (fun kd => kMup kd x y z) (kCpy x y) g
noncomputable def evK (o : Iop) : OpK := Iop.rec (motive := fun _ => OpK)
  kMov kPick kNew kBox kBuild kBsl kLd1 kLdN kSt kNck kBinI kBinB kBinN kUn kCvI
  kFld1 kFldN kFa kIxA kIxS kExt kMks kMkm kCut kApp kLen kLenT kMn kMx
  kCall (fun _ _ _ _ => none) kMkf kCallv kCvS kPu2 kRdm kWrm o
/-- A result that is gone on with. -/
def onR (r : Option (MV × MH)) (k : MV → MH → R) : R := match r with
  | some (m, M) => k m M
  | none => none
def CallEq (ck : Callk) (call : CallM) : Prop := ∀ g args M k, ck g args M k = onR (call g args M) k
theorem onR_none (k : MV → MH → R) : onR none k = none := rfl
theorem onR_some (m : MV) (M : MH) (k : MV → MH → R) : onR (some (m, M)) k = k m M := rfl
theorem pureK_eq (o : Iop) (h : ∀ call f M, o.ev call f M = (vOf o f M).map fun m => (m, M)) (ck : Callk) (call : CallM) (f : Fr) (M : MH) (k : MV → MH → R) : pureK o ck f M k = onR (o.ev call f M) k := by
  rw [h call f M]
  unfold pureK
  cases vOf o f M with
  | none => rfl
  | some m => exact fMV_eq m fun m => k m M
theorem asCs_none (k : Bool → Nat → T MV → R) : asCs none k = none := rfl
theorem asCs_cs (r : Bool) (n : Nat) (c : T MV) (k : Bool → Nat → T MV → R) : asCs (some (.cs r n c)) k = k r n c := rfl
theorem asCs_mp (es : List (MV × MV × Nat)) (n : Nat) (k : Bool → Nat → T MV → R) : asCs (some (.mp es n)) k = none := rfl
theorem evK_eq {ck : Callk} {call : CallM} (hc : CallEq ck call) (o : Iop) (f : Fr) (M : MH) (k : MV → MH → R) : evK o ck f M k = onR (o.ev call f M) k := by
  cases o with
  | mov x => exact xK_eq x f fun m => k m M
  | pick c a b =>
    show kPick c a b ck f M k = _
    simp only [kPick, Iop.ev, asB, xK_eq]
    cases c.ev f <;> try rfl
    rename_i t
    cases t <;> rfl
  | new l =>
    show kNew l ck f M k = _
    simp only [kNew, Iop.ev, pushK_eq, lenQ_eq]
    cases Nat.ble M.lo M.n <;> rfl
  | box x =>
    show kBox x ck f M k = _
    simp only [kBox, Iop.ev, xK_eq, pushK_eq, bR_eq, lenQ_eq, cellsQ_eq, isUQ_eq, notQ_eq]
    cases Nat.ble M.lo M.n <;> cases isU (x.ev f) <;> rfl
  | build zs ps =>
    show kBuild zs ps ck f M k = _
    simp only [kBuild, Iop.ev, fillK_eq]
    cases fillM (ps.map fun x => (x.1, x.2.1, x.2.2.ev f)) zs <;> rfl
  | bsl sz n zs ps =>
    show kBsl sz n zs ps ck f M k = _
    simp only [kBsl, Iop.ev, pushK_eq, fillK_eq]
    cases fillM (ps.map fun x => (x.1, x.2.1, x.2.2.ev f)) (zrow zs n) <;> cases Nat.ble M.lo M.n <;> rfl
  | ld1 x =>
    show kLd1 x ck f M k = _
    obtain ⟨h, n0, lo⟩ := M
    simp only [kLd1, Iop.ev, asP, xK_eq, mhR, idK, tget_eq, pathQ_eq]
    cases x.ev f <;> try rfl
    rename_i id off
    simp only [MH.get]
    cases h.get (path id) with
    | none => rfl
    | some mo =>
      cases mo with
      | mp es c => rfl
      | cs r sz c =>
        simp only [asCs_cs, cget]
        cases c.get (path off) <;> rfl
  | ldN n x =>
    show kLdN n x ck f M k = _
    simp only [kLdN, Iop.ev, asP, xK_eq, mK_eq, getNK_eq]
    cases x.ev f <;> try rfl
    rename_i id off
    simp only
    cases M.get id with
    | none => rfl
    | some mo =>
      cases mo with
      | mp es c => rfl
      | cs r sz c =>
        simp only [asCs_cs]
        cases getN c n off <;> rfl
  | st n x y =>
    show kSt n x y ck f M k = _
    simp only [kSt, Iop.ev, asP, xK_eq, mK_eq]
    cases x.ev f <;> try rfl
    rename_i id off
    simp only
    cases M.get id with
    | none => rfl
    | some mo =>
      cases mo with
      | mp es c => rfl
      | cs r sz c =>
        cases r with
        | true => rfl
        | false =>
          obtain ⟨h, n', lo⟩ := M
          simp only [asCs_cs, bR_eq, setNK_eq, mhR, setK_eq, pathQ_eq, hasQ_eq, lenQ_eq, cellsQ_eq, isUQ_eq, andQ_eq, notQ_eq, allQ_eq, beq_nat, ← Bool.and_assoc]
          cases ((y.ev f).cells.length == n && !isU (y.ev f) && allOne (y.ev f).cells && Nat.ble lo id && hasB c n off) <;> rfl
  | nck x =>
    show kNck x ck f M k = _
    simp only [kNck, Iop.ev, asP, xK_eq]
    cases x.ev f <;> rfl
  | binI op x y =>
    show kBinI op x y ck f M k = _
    simp only [kBinI, Iop.ev, asI, xK_eq, binK_eq]
    cases x.ev f <;> try rfl
    cases y.ev f <;> try rfl
    simp only
    rename_i i a j b
    cases Ev.binI op i a j b <;> rfl
  | binB op x y =>
    show kBinB op x y ck f M k = _
    simp only [kBinB, Iop.ev, asB, xK_eq, eqK_eq]
    cases x.ev f <;> (try rfl) <;> cases y.ev f <;> (try rfl)
    simp only
    cases eqM op _ <;> rfl
  | binN n op x y =>
    show kBinN n op x y ck f M k = _
    simp only [kBinN, Iop.ev, xK_eq, eqK_eq]
    cases nilR n (x.ev f) (y.ev f) <;> (try rfl)
    simp only [oR_some]
    cases eqM op _ <;> rfl
  | un op x =>
    show kUn op x ck f M k = _
    simp only [kUn, Iop.ev, xK_eq, fMV_eq]
    cases unM op (x.ev f) <;> rfl
  | cvI i x =>
    show kCvI i x ck f M k = _
    simp only [kCvI, Iop.ev, xK_eq, asI, wrapK_eq]
    cases x.ev f <;> rfl
  | fld1 o x =>
    show kFld1 o x ck f M k = _
    simp only [kFld1, Iop.ev, xK_eq, asAg]
    cases x.ev f <;> (try rfl)
    rename_i l
    simp only
    cases l[o]? <;> rfl
  | fldN o n x =>
    show kFldN o n x ck f M k = _
    simp only [kFldN, Iop.ev, xK_eq, asAg, hList_eq]
    cases x.ev f <;> rfl
  | fa o x =>
    show kFa o x ck f M k = _
    simp only [kFa, Iop.ev, asP, fNat_eq, xK_eq]
    cases x.ev f <;> rfl
  | ixA n s x i =>
    show kIxA n s x i ck f M k = _
    simp only [kIxA, Iop.ev, asP, asN, fNat_eq, bR_eq, xK_eq]
    cases x.ev f <;> try rfl
    cases i.ev f <;> try rfl
    rename_i id off kd j
    cases j <;> try rfl
    rename_i j
    simp only
    unfold Nat.blt
    cases Nat.ble (Nat.succ j) n <;> rfl
  | ixS s x i =>
    show kIxS s x i ck f M k = _
    simp only [kIxS, Iop.ev, asSl, asN, fNat_eq, bR_eq, xK_eq]
    cases x.ev f <;> try rfl
    cases i.ev f <;> try rfl
    rename_i id off ln ed kd j
    cases j <;> try rfl
    rename_i j
    simp only
    unfold Nat.blt
    cases Nat.ble (Nat.succ j) ln <;> rfl
  | ext x i =>
    show kExt x i ck f M k = _
    simp only [kExt, Iop.ev, asTp, xK_eq]
    cases x.ev f <;> try rfl
    rename_i l
    simp only
    cases l[i]? with
    | none => rfl
    | some m => exact hMV_eq m fun m => k m M
  | mks sz bytes zs x y =>
    show kMks sz bytes zs x y ck f M k = _
    simp only [kMks, Iop.ev, asN, bR_eq, hList_eq, pushK_eq]
    cases x.ev f <;> try rfl
    rename_i kd a
    cases a <;> try rfl
    cases y.ev f <;> try rfl
    rename_i kd b
    cases b <;> try rfl
    rename_i l c
    simp only
    cases Nat.ble l c <;> cases Nat.ble (bytes * c) 281474976710656 <;> cases Nat.ble c 9223372036854775807 <;> cases Nat.ble M.lo M.n <;> rfl
  | mkm =>
    obtain ⟨h, n, lo⟩ := M
    show kMkm ck f ⟨h, n, lo⟩ k = _
    simp only [kMkm, Iop.ev, mhR, bR_eq, setK_eq, fNat_eq, pathQ_eq]
    cases Nat.ble lo n <;> rfl
  | cut sz x lo hi =>
    show kCut sz x lo hi ck f M k = _
    simp only [kCut, Iop.ev, xK_eq, fMV_eq]
    cases cutM sz (x.ev f) (lo.map (X.ev f)) (hi.map (X.ev f)) <;> rfl
  | app sz bytes x y =>
    obtain ⟨h, n0, lo⟩ := M
    show kApp sz bytes x y ck f ⟨h, n0, lo⟩ k = _
    simp only [kApp, Iop.ev, xK_eq, mK_eq, hList_eq, fNat_eq, ofLK_eq, setK_eq, mhR, pushK_eq, bR_eq, appM, pathQ_eq, allQ_eq]
    cases srcM ⟨h, n0, lo⟩ sz (y.ev f) with
    | none => rfl
    | some s =>
      obtain ⟨n, news⟩ := s
      simp only [oR_some]
      cases allOne news with
      | false => rfl
      | true =>
        simp only [cond_true]
        cases n with
        | zero => cases x.ev f <;> rfl
        | succ q =>
          simp only [asS]
          cases x.ev f <;> try rfl
          · simp only
            cases Nat.ble ((q + 1) * bytes) 140737488355328 <;> cases Nat.ble (q + 1) 9223372036854775807 <;> cases Nat.ble lo n0 <;> rfl
          · rename_i id off len e
            simp only
            cases (Nat.ble ((len + (q + 1)) * bytes) 140737488355328 && Nat.ble (len + (q + 1)) 9223372036854775807 && Nat.ble lo id && Nat.blt id n0 && off == e * sz) with
            | false => rfl
            | true =>
              simp only [cond_true]
              cases MH.get ⟨h, n0, lo⟩ id with
              | none => rfl
              | some mo =>
                cases mo with
                | mp es c => rfl
                | cs r s c =>
                  cases r with
                  | true => rfl
                  | false =>
                    simp only [asCs_cs]
                    cases (s == sz) with
                    | false => rfl
                    | true =>
                      simp only [cond_true]
                      cases getN c (len * sz) off <;> rfl
  | len x =>
    show kLen x ck f M k = _
    simp only [kLen, Iop.ev, asS, xK_eq]
    cases x.ev f <;> rfl
  | lenT x =>
    show kLenT x ck f M k = _
    simp only [kLenT, Iop.ev, xK_eq, fNat_eq]
    cases x.ev f <;> rfl
  | mn x y =>
    show kMn x y ck f M k = _
    simp only [kMn, Iop.ev, xK_eq, asI, fInt_eq]
    cases x.ev f <;> (try rfl) <;> cases y.ev f <;> rfl
  | mx x y =>
    show kMx x y ck f M k = _
    simp only [kMx, Iop.ev, xK_eq, asI, fInt_eq]
    cases x.ev f <;> (try rfl) <;> cases y.ev f <;> rfl
  | call g l =>
    show kCall g l ck f M k = _
    simp only [kCall, Iop.ev, hList_eq]
    exact hc _ _ _ _
  | bad => rfl
  | mkf g a c =>
    show kMkf g a c ck f M k = _
    simp only [kMkf, Iop.ev, hList_eq]
    rfl
  | callv x l =>
    show kCallv x l ck f M k = _
    simp only [kCallv, Iop.ev, asFn, hList_eq, xK_eq]
    cases x.ev f <;> try rfl
    rename_i g a c
    cases g <;> try rfl
    exact hc _ _ _ _
  | cvS x =>
    obtain ⟨h, n0, lo⟩ := M
    show kCvS x ck f ⟨h, n0, lo⟩ k = _
    simp only [kCvS, Iop.ev, mK_eq, asSl, setK_eq, mhR, bR_eq, pathQ_eq]
    cases x.ev f <;> try rfl
    rename_i id off n e
    cases n with
    | zero => rfl
    | succ n =>
      simp only
      cases MH.get ⟨h, n0, lo⟩ id with
      | none => rfl
      | some mo =>
        cases mo with
        | mp es c => rfl
        | cs r s c =>
          cases r with
          | true => rfl
          | false =>
            simp only [asCs_cs]
            cases Nat.ble lo id <;> rfl
  | pu2 g x y =>
    show kPu2 g x y ck f M k = _
    simp only [kPu2, Iop.ev, xK_eq, fMV_eq]
    cases puM g (x.ev f) (y.ev f) <;> rfl
  | rdm g x y =>
    show kRdm g x y ck f M k = _
    simp only [kRdm, Iop.ev, xK_eq, fMV_eq]
    cases rdF g M (x.ev f) (y.ev f) <;> rfl
  | wrm g x y z =>
    cases g with
    | mup kd =>
      show kMup kd x y z ck f M k = _
      simp only [kMup, Iop.ev, wrF, xK_eq, asM, bR_eq, andQ_eq, hL_eq, fNat_eq, putK_eq, mK_eq]
      cases x.ev f <;> try rfl
      rename_i id
      simp only
      cases (keyOk kd (y.ev f) && Nat.ble M.lo id) with
      | false => rfl
      | true =>
        simp only [cond_true]
        cases M.get id with
        | none => rfl
        | some o =>
          cases o with
          | cs r n c => rfl
          | mp es c =>
            simp only [asMp, oR_some]
            cases findM (y.ev f) es 0 with
            | none => rfl
            | some r =>
              cases r with
              | none => rfl
              | some q =>
                obtain ⟨i, v⟩ := q
                simp only [oR_some]
                cases es[i]? <;> rfl
    | cpy =>
      show kCpy x y ck f M k = _
      simp only [kCpy, Iop.ev, wrF, xK_eq, asSl, bR_eq, fNat_eq, putK_eq, mK_eq, setNK_eq, hasQ_eq]
      cases x.ev f <;> try rfl
      rename_i id off n e
      simp only
      cases srcM M 1 (y.ev f) with
      | none => rfl
      | some s =>
        obtain ⟨m, l⟩ := s
        simp only [oR_some]
        cases (Nat.ble (min m n) l.length && allOne (l.take (min m n))) with
        | false => rfl
        | true =>
          simp only [cond_true]
          cases min m n with
          | zero => rfl
          | succ q =>
            simp only
            cases M.get id with
            | none => rfl
            | some o =>
              cases o with
              | mp es c => rfl
              | cs r sz c =>
                cases r with
                | true => rfl
                | false =>
                  simp only [asCs_cs]
                  cases (Nat.ble M.lo id && hasB c (q + 1) off) <;> rfl
/-! Operations one behind the other. -/
noncomputable def setDK (f : Fr) (d : Option (List Bool)) (m : MV) (k : Fr → R) : R := Option.rec (motive := fun _ => R) (k f) (fun p => setK p (some m) f k) d
theorem setDK_eq (f : Fr) (d : Option (List Bool)) (m : MV) (k : Fr → R) : setDK f d m k = k (setD f d m) := by
  cases d with
  | none => rfl
  | some p => exact setK_eq p (some m) f k
/-- By a guard: this, or that. -/
noncomputable def gdK (f : Fr) (g : Option (List Bool × Bool)) (a b : R) : R := Option.rec (motive := fun _ => R) a (fun x => Prod.rec (motive := fun _ => R) (fun p w => oR (tget f p) fun m => asBT m b fun t => Bool.rec (motive := fun _ => R) (Bool.rec (motive := fun _ => R) a b w) (Bool.rec (motive := fun _ => R) b a w) t) x) g
theorem gdK_eq (f : Fr) (g : Option (List Bool × Bool)) (a b : R) : gdK f g a b = match wantM f g with
    | some true => a
    | some false => b
    | none => none := by
  cases g with
  | none => rfl
  | some x =>
    obtain ⟨p, w⟩ := x
    show oR (tget f p) _ = _
    rw [tget_eq]
    unfold wantM
    simp only
    cases f.get p with
    | none => rfl
    | some m =>
      rw [oR_some]
      cases m <;> try rfl
      rename_i t
      cases t <;> cases w <;> rfl
noncomputable def evOK (call : Callk) (p : IOper) (f : Fr) (M : MH) (k : Fr → MH → R) : R :=
  IOper.rec (motive := fun _ => R) (fun d g io => gdK f g (evK io call f M fun m M => setDK f d m fun f => k f M) (setDK f d (.tp []) fun f => k f M)) p
def onF (r : Option (Fr × MH)) (k : Fr → MH → R) : R := match r with
  | some (f, M) => k f M
  | none => none
theorem evOK_eq {ck : Callk} {call : CallM} (hc : CallEq ck call) (p : IOper) (f : Fr) (M : MH) (k : Fr → MH → R) : evOK ck p f M k = onF (evO call f M p) k := by
  obtain ⟨d, g, io⟩ := p
  show gdK f g _ _ = _
  rw [gdK_eq]
  unfold evO
  simp only
  cases wantM f g with
  | none => rfl
  | some t =>
    cases t with
    | false => simp only [setDK_eq]; rfl
    | true =>
      simp only [setDK_eq]
      rw [evK_eq hc]
      cases io.ev call f M with
      | none => rfl
      | some r => obtain ⟨m, M'⟩ := r; rfl
noncomputable def evLK (call : Callk) (l : List IOper) : Fr → MH → (Fr → MH → R) → R :=
  List.rec (motive := fun _ => Fr → MH → (Fr → MH → R) → R) (fun f M k => k f M) (fun p _ ih f M k => evOK call p f M fun f M => ih f M k) l
theorem evLK_eq {ck : Callk} {call : CallM} (hc : CallEq ck call) : ∀ (l : List IOper) (f : Fr) (M : MH) (k : Fr → MH → R), evLK ck l f M k = onF (evL call l f M) k
  | [], f, M, k => rfl
  | p :: l, f, M, k => by
    show evOK ck p f M (fun f M => evLK ck l f M k) = _
    rw [evOK_eq hc, evL_cons]
    cases evO call f M p with
    | none => rfl
    | some r => obtain ⟨f', M'⟩ := r; exact evLK_eq hc l f' M' k
/-! Operations in a drawn order. -/
noncomputable def fMO (o : MO) (k : MO → R) : R := MO.rec (motive := fun _ => R) (fun r n c => fNat n fun n => k (.cs r n c)) (fun es c => k (.mp es c)) o
theorem fMO_eq (o : MO) (k : MO → R) : fMO o k = k o := by
  cases o with
  | cs r n c => exact fNat_eq n fun n => k (.cs r n c)
  | mp es c => rfl
noncomputable def flK (o : Iop) (f : Fr) (id : Nat) (k : MV → MO → R) : R := Iop.casesOn (motive := fun _ => R) o
  (fun _ => none) (fun _ _ _ => none) (fun l => ofLK l 0 fun t => fNat (lenQ l) fun n => k (.p id 0) (.cs false n t)) (fun x => hMV (x.ev f) fun m => bR (notQ (isUQ m)) (ofLK (cellsQ m) 0 fun t => fNat (lenQ (cellsQ m)) fun n => k (.p id 0) (.cs false n t)))
  (fun _ _ => none) (fun sz n zs parts => fillK f parts (zrow zs n) fun l => ofLK l 0 fun t => k (.sl id 0 n 0) (.cs false sz t))
  (fun _ => none) (fun _ _ => none) (fun _ _ _ => none) (fun _ => none) (fun _ _ _ => none) (fun _ _ _ => none) (fun _ _ _ _ => none) (fun _ _ => none) (fun _ _ => none)
  (fun _ _ => none) (fun _ _ _ => none) (fun _ _ => none) (fun _ _ _ _ => none) (fun _ _ _ => none) (fun _ _ => none)
  (fun sz bytes zs x y => asN (x.ev f) fun l => asN (y.ev f) fun c => bR (Nat.ble l c && Nat.ble (bytes * c) 281474976710656 && Nat.ble c 9223372036854775807) (hList (zrow zs c) fun r => ofLK r 0 fun t => k (.sl id 0 l 0) (.cs false sz t)))
  (k (.m id) (.mp [] 0)) (fun _ _ _ _ => none) (fun _ _ _ _ => none) (fun _ => none) (fun _ => none) (fun _ _ => none) (fun _ _ => none)
  (fun _ _ => none) none (fun _ _ _ => none) (fun _ _ => none) (fun _ => none) (fun _ _ _ => none) (fun _ _ _ => none) (fun _ _ _ _ => none)
def onFl (r : Option (MV × MO)) (k : MV → MO → R) : R := match r with
  | some (m, o) => k m o
  | none => none
theorem flK_eq (o : Iop) (f : Fr) (id : Nat) (k : MV → MO → R) : flK o f id k = onFl (floatEv o f id) k := by
  cases o <;> try rfl
  case new l => simp only [flK, floatEv, ofLK_eq, fNat_eq, lenQ_eq]; rfl
  case box x =>
    simp only [flK, floatEv, hMV_eq, ofLK_eq, fNat_eq, bR_eq, lenQ_eq, cellsQ_eq, isUQ_eq, notQ_eq]
    cases isU (x.ev f) <;> rfl
  case bsl sz n zs ps =>
    simp only [flK, floatEv, fillK_eq, ofLK_eq]
    cases fillM (ps.map fun x => (x.1, x.2.1, x.2.2.ev f)) (zrow zs n) <;> rfl
  case mks sz bytes zs x y =>
    simp only [flK, floatEv, asN, bR_eq, hList_eq, ofLK_eq]
    cases x.ev f <;> try rfl
    rename_i kd a
    cases a <;> try rfl
    cases y.ev f <;> try rfl
    rename_i kd b
    cases b <;> try rfl
    rename_i l c
    simp only
    cases (Nat.ble l c && Nat.ble (bytes * c) 281474976710656 && Nat.ble c 9223372036854775807) <;> rfl
noncomputable def hdR (hs : List MH) (k : MH → List MH → R) : R := List.rec (motive := fun _ => R) none (fun M r _ => k M r) hs
noncomputable def adoptK (os : List (Nat × MO)) : MH → (MH → R) → R :=
  List.rec (motive := fun _ => MH → (MH → R) → R) (fun M k => k M) (fun x _ ih M k => Prod.rec (motive := fun _ => R) (fun id mo => mhR M fun h n lo => setK (pathQ id) (some mo) h fun h => ih ⟨h, n, lo⟩ k) x) os
theorem adoptK_eq : ∀ (os : List (Nat × MO)) (M : MH) (k : MH → R), adoptK os M k = k (adoptM os M)
  | [], M, k => rfl
  | (id, mo) :: os, ⟨h, n, lo⟩, k => by
    show setK (pathQ id) (some mo) h (fun h => adoptK os ⟨h, n, lo⟩ k) = _
    rw [setK_eq, pathQ_eq, adoptK_eq os]
    rfl
noncomputable def evD1K (call : Callk) (b0 : Nat) (f : Fr) (hs : List MH) (pd : List (Nat × MO)) (p : IOper) (d : DK) (k : MV → List MH → List (Nat × MO) → R) : R :=
  gdK f p.gd
    (DK.casesOn (motive := fun _ => R) d
      (hdR hs fun M _ => evK p.io call f M fun m _ => k m hs [])
      (fun b => oR hs[b]? fun M => evK p.io call f M fun m _ => k m hs [])
      (hdR hs fun M r => mhR M fun h n lo => evK p.io call f ⟨h, n, n⟩ fun m M' => mhR M' fun h' n' _ => k m (⟨h', n', lo⟩ :: M :: r) [])
      (hdR hs fun M r => evK p.io call f M fun m M' => k m (M' :: M :: r) [])
      (fun j => fNat (b0 + j) fun id => flK p.io f id fun m mo => k m hs [(id, mo)])
      (fun js => hdR hs fun M r => oR (pickL pd b0 js) fun as => adoptK as M fun M2 => evK p.io call f M2 fun m M' => k m (M' :: M :: r) []))
    (DK.casesOn (motive := fun _ => R) d
      (k (.tp []) hs []) (fun _ => k (.tp []) hs []) (hdR hs fun M r => k (.tp []) (M :: M :: r) []) (hdR hs fun M r => k (.tp []) (M :: M :: r) []) (fun _ => none) (fun _ => none))
def onD1 (r : Option (MV × List MH × List (Nat × MO))) (k : MV → List MH → List (Nat × MO) → R) : R := match r with
  | some (m, hs, o) => k m hs o
  | none => none
theorem evD1K_eq {ck : Callk} {call : CallM} (hc : CallEq ck call) (b0 : Nat) (f : Fr) (hs : List MH) (pd : List (Nat × MO)) (p : IOper) (d : DK) (k : MV → List MH → List (Nat × MO) → R) : evD1K ck b0 f hs pd p d k = onD1 (evD1 call b0 f hs pd p d) k := by
  unfold evD1K
  rw [gdK_eq]
  unfold evD1
  cases wantM f p.gd with
  | none => rfl
  | some t =>
    cases t with
    | false => cases d <;> first | rfl | (cases hs <;> rfl)
    | true =>
      cases d with
      | pu =>
        cases hs with
        | nil => rfl
        | cons M r =>
          show evK p.io ck f M _ = _
          rw [evK_eq hc]
          simp only
          cases p.io.ev call f M with
          | none => rfl
          | some x => obtain ⟨m, M'⟩ := x; rfl
      | rd b =>
        simp only
        cases hs[b]? with
        | none => rfl
        | some M =>
          show evK p.io ck f M _ = _
          rw [evK_eq hc]
          simp only
          cases p.io.ev call f M with
          | none => rfl
          | some x => obtain ⟨m, M'⟩ := x; rfl
      | ad =>
        cases hs with
        | nil => rfl
        | cons M r =>
          obtain ⟨h, n, lo⟩ := M
          show evK p.io ck f ⟨h, n, n⟩ _ = _
          rw [evK_eq hc]
          simp only [MH.lift]
          cases p.io.ev call f ⟨h, n, n⟩ with
          | none => rfl
          | some x => obtain ⟨m, M'⟩ := x; obtain ⟨h', n', lo'⟩ := M'; rfl
      | md =>
        cases hs with
        | nil => rfl
        | cons M r =>
          show evK p.io ck f M _ = _
          rw [evK_eq hc]
          simp only
          cases p.io.ev call f M with
          | none => rfl
          | some x => obtain ⟨m, M'⟩ := x; rfl
      | ma js =>
        cases hs with
        | nil => rfl
        | cons M r =>
          show oR (pickL pd b0 js) _ = _
          simp only
          cases pickL pd b0 js with
          | none => rfl
          | some as =>
            simp only [oR_some, adoptK_eq]
            rw [evK_eq hc]
            cases p.io.ev call f (adoptM as M) with
            | none => rfl
            | some x => obtain ⟨m, M'⟩ := x; rfl
      | fl j =>
        show fNat (b0 + j) _ = _
        rw [fNat_eq, flK_eq]
        simp only
        cases floatEv p.io f (b0 + j) with
        | none => rfl
        | some x => obtain ⟨m, mo⟩ := x; rfl
noncomputable def evDK (call : Callk) (b0 : Nat) (l : List (IOper × DK)) : Fr → List MH → List (Nat × MO) → (Fr → List MH → List (Nat × MO) → R) → R :=
  List.rec (motive := fun _ => Fr → List MH → List (Nat × MO) → (Fr → List MH → List (Nat × MO) → R) → R) (fun f hs _ k => k f hs []) (fun p _ ih f hs pd k => Prod.rec (motive := fun _ => R) (fun o d => evD1K call b0 f hs pd o d fun m hs' os1 => setDK f o.dst m fun f => hL (pd ++ os1) fun pd => ih f hs' pd fun f hs os => k f hs (os1 ++ os)) p) l
def onD (r : Option (Fr × List MH × List (Nat × MO))) (k : Fr → List MH → List (Nat × MO) → R) : R := match r with
  | some (f, hs, o) => k f hs o
  | none => none
theorem evDK_eq {ck : Callk} {call : CallM} (hc : CallEq ck call) (b0 : Nat) : ∀ (l : List (IOper × DK)) (f : Fr) (hs : List MH) (pd : List (Nat × MO)) (k : Fr → List MH → List (Nat × MO) → R), evDK ck b0 l f hs pd k = onD (evD call b0 l f hs pd) k
  | [], f, hs, pd, k => rfl
  | (o, d) :: l, f, hs, pd, k => by
    show evD1K ck b0 f hs pd o d (fun m hs' os1 => setDK f o.dst m fun f => hL (pd ++ os1) fun pd => evDK ck b0 l f hs' pd fun f hs os => k f hs (os1 ++ os)) = _
    rw [evD1K_eq hc, evD_cons]
    simp only
    cases evD1 call b0 f hs pd o d with
    | none => rfl
    | some x =>
      obtain ⟨m, hs', os1⟩ := x
      simp only [onD1, setDK_eq, hL_eq]
      rw [evDK_eq hc b0 l]
      cases evD call b0 l (setD f o.dst m) hs' (pd ++ os1) with
      | none => rfl
      | some y => obtain ⟨f', hs'', os⟩ := y; rfl
noncomputable def argsFK (l : List MV) : Nat → Fr → (Fr → R) → R :=
  List.rec (motive := fun _ => Nat → Fr → (Fr → R) → R) (fun _ f k => k f) (fun x _ ih i f k => setK (pathQ i) (some x) f fun f => ih (Nat.succ i) f k) l
theorem argsFK_eq : ∀ (l : List MV) (i : Nat) (f : Fr) (k : Fr → R), argsFK l i f k = k (argsF l i f)
  | [], i, f, k => rfl
  | x :: l, i, f, k => by
    show setK (pathQ i) (some x) f (fun f => argsFK l (i + 1) f k) = _
    rw [setK_eq, pathQ_eq, argsFK_eq l]
    rfl
/-! Code. -/
noncomputable def iresK (f : Fr) (M : MH) (r : IRes) (k : MV → R) : R := IRes.rec (motive := fun _ => R) (fun p => oR (tget f p) k) (fun p => oR (IRes.ev f M (.c1 p)) k) (fun p n => oR (IRes.ev f M (.cN p n)) fun m => fMV m k) r
theorem iresK_eq (f : Fr) (M : MH) (r : IRes) (k : MV → R) : iresK f M r k = oR (r.ev f M) k := by
  cases r with
  | tmp p => show oR (tget f p) k = _; rw [tget_eq]; rfl
  | c1 p => rfl
  | cN p n => show oR _ (fun m => fMV m k) = _; simp only [fMV_eq]
noncomputable def resLK (f : Fr) (M : MH) (l : List IRes) : (List MV → R) → R := List.rec (motive := fun _ => (List MV → R) → R) (fun k => k []) (fun r _ ih k => iresK f M r fun m => ih fun l => k (m :: l)) l
theorem resLK_eq (f : Fr) (M : MH) : ∀ (l : List IRes) (k : List MV → R), resLK f M l k = oR (resL f M l) k
  | [], k => rfl
  | r :: l, k => by
    show iresK f M r (fun m => resLK f M l fun l => k (m :: l)) = _
    rw [iresK_eq, resL]
    cases r.ev f M with
    | none => rfl
    | some m =>
      rw [oR_some, resLK_eq f M l]
      cases resL f M l <;> rfl
abbrev RunT := IC → Fr → MH → (Ex → Fr → MH → R) → R
noncomputable def callStep (fns : Nat → Option IFn) (ih : RunT) : Callk := fun g args M k => oR (fns g) fun fn => IFn.rec (motive := fun _ => R) (fun sz res body => bR (Nat.ble (lenQ args) sz) (argsFK args 0 .lf fun f => ih body f M fun ex f' M' =>
  Ex.rec (motive := fun _ => R) (resLK f' M' res fun l => hMV (packM l) fun m => k m M') (fun _ => none) (resLK f' M' res fun l => hMV (packM l) fun m => k m M') ex)) fn
noncomputable def stepK (fns : Nat → Option IFn) (ih : RunT) : RunT := fun c => IC.rec (motive := fun _ => Fr → MH → (Ex → Fr → MH → R) → R)
  (fun f M k => k .norm f M)
  (fun l f M k => evLK (callStep fns ih) l f M fun f M => k .norm f M)
  (fun r l lB xs f M k => mhR M fun h n lo => bR (Nat.ble lo n) (fNat (n + r) fun n' => evDK (callStep fns ih) n l f [⟨h, n', lo⟩] [] fun f1 hs os => hdR hs fun M1 tl => bR (apartL xs l n f1 (M1 :: tl)) (hL (lateL l n os) fun os => adoptK os M1 fun M1 => evLK (callStep fns ih) lB f1 M1 fun f M => k .norm f M)))
  (fun _ _ _ => none)
  (fun a b _ _ f M k => ih a f M fun ex f' M' => Ex.rec (motive := fun _ => R) (ih b f' M' k) (fun i => k (.exit i) f' M') (k .ret f' M') ex)
  (fun x a b _ _ f M k => xK x f fun x => asB x fun t => Bool.rec (motive := fun _ => R) (ih b f M k) (ih a f M k) t)
  (fun id a _ f M k => ih a f M fun ex f' M' => Ex.rec (motive := fun _ => R) (k .norm f' M') (fun i => Bool.rec (motive := fun _ => R) (k (.exit i) f' M') (k .norm f' M') (i == id)) (k .ret f' M') ex)
  (fun a _ f M k => ih a f M fun ex f' M' => Ex.rec (motive := fun _ => R) (ih (.loop a) f' M' k) (fun i => k (.exit i) f' M') (k .ret f' M') ex)
  (fun id f M k => k (.exit id) f M)
  (fun f M k => k .ret f M) c
noncomputable def runK (fns : Nat → Option IFn) (fuel : Nat) : RunT := Nat.rec (motive := fun _ => RunT) (fun _ _ _ _ => none) (fun _ ih => stepK fns ih) fuel
noncomputable def callK (fns : Nat → Option IFn) (fuel : Nat) : Callk := callStep fns (runK fns fuel)
def onX (r : Option (Ex × Fr × MH)) (k : Ex → Fr → MH → R) : R := match r with
  | some (e, f, M) => k e f M
  | none => none
theorem callK_of {fns : Nat → Option IFn} {n : Nat} (ih : ∀ c f M k, runK fns n c f M k = onX (run fns n c f M) k) : CallEq (callStep fns (runK fns n)) (callF fns n) := by
  intro g args M k
  unfold callStep callF
  cases fns g with
  | none => rfl
  | some fn =>
    obtain ⟨sz, res, body⟩ := fn
    simp only [oR_some, bR_eq, argsFK_eq, ih, lenQ_eq]
    cases Nat.ble args.length sz with
    | false => rfl
    | true =>
      simp only [cond_true]
      cases run fns n body (argsF args 0 .lf) M with
      | none => rfl
      | some x =>
        obtain ⟨ex, f', M'⟩ := x
        cases ex with
        | exit i => rfl
        | norm =>
          simp only [onX, resLK_eq, hMV_eq]
          cases resL f' M' res <;> rfl
        | ret =>
          simp only [onX, resLK_eq, hMV_eq]
          cases resL f' M' res <;> rfl
theorem runK_eq (fns : Nat → Option IFn) : ∀ (n : Nat) (c : IC) (f : Fr) (M : MH) (k : Ex → Fr → MH → R), runK fns n c f M k = onX (run fns n c f M) k
  | 0, c, f, M, k => rfl
  | n + 1, c, f, M, k => by
    have ih := runK_eq fns n
    have hc := callK_of ih
    rw [run_succ]
    cases c with
    | skip => rfl
    | bad => rfl
    | exit id => rfl
    | ret => rfl
    | reg l =>
      show evLK (callStep fns (runK fns n)) l f M _ = _
      rw [evLK_eq hc]
      simp only
      cases evL (callF fns n) l f M with
      | none => rfl
      | some x => obtain ⟨f', M'⟩ := x; rfl
    | dreg r l lB xs =>
      obtain ⟨h, q, lo⟩ := M
      show bR (Nat.ble lo q) (fNat (q + r) _) = _
      rw [bR_eq, fNat_eq]
      simp only [MH.room]
      cases Nat.ble lo q with
      | false => rfl
      | true =>
        simp only [cond_true]
        refine (evDK_eq hc _ _ _ _ _ _).trans ?_
        cases evD (callF fns n) q l f [⟨h, q + r, lo⟩] [] with
        | none => rfl
        | some x =>
          obtain ⟨f1, hs, os⟩ := x
          cases hs with
          | nil => rfl
          | cons M1 t =>
            show bR (apartL xs l q f1 (M1 :: t)) (hL (lateL l q os) fun os => adoptK os M1 _) = _
            rw [bR_eq, hL_eq, adoptK_eq]
            show _ = onX (bif apartL xs l q f1 (M1 :: t) then (match evL (callF fns n) lB f1 (adoptM (lateL l q os) M1) with
              | some (f', M') => some (Ex.norm, f', M')
              | none => none) else none) k
            cases apartL xs l q f1 (M1 :: t) with
            | false => rfl
            | true =>
            simp only [cond_true]
            refine (evLK_eq hc _ _ _ _).trans ?_
            cases evL (callF fns n) lB f1 (adoptM (lateL l q os) M1) with
            | none => rfl
            | some y => obtain ⟨f', M'⟩ := y; rfl
    | seq a b =>
      show runK fns n a f M _ = _
      rw [ih]
      simp only
      cases run fns n a f M with
      | none => rfl
      | some x =>
        obtain ⟨ex, f', M'⟩ := x
        cases ex with
        | norm => exact ih b f' M' k
        | exit i => rfl
        | ret => rfl
    | cond x a b =>
      show xK x f _ = _
      simp only [xK_eq, asB]
      cases x.ev f <;> try rfl
      rename_i t
      cases t
      · exact ih b f M k
      · exact ih a f M k
    | block id a =>
      show runK fns n a f M _ = _
      rw [ih]
      simp only
      cases run fns n a f M with
      | none => rfl
      | some x =>
        obtain ⟨ex, f', M'⟩ := x
        cases ex with
        | norm => rfl
        | ret => rfl
        | exit i =>
          simp only [onX]
          cases (i == id) <;> rfl
    | loop a =>
      show runK fns n a f M _ = _
      rw [ih]
      simp only
      cases run fns n a f M with
      | none => rfl
      | some x =>
        obtain ⟨ex, f', M'⟩ := x
        cases ex with
        | norm => exact ih (.loop a) f' M' k
        | exit i => rfl
        | ret => rfl
/-- A quick run of a call is a run of a call. -/
theorem callK_eq (fns : Nat → Option IFn) (n g : Nat) (args : List MV) (M : MH) : callK fns n g args M (fun m M => some (m, M)) = callF fns n g args M := by
  unfold callK
  rw [callK_of (runK_eq fns n) g args M]
  cases callF fns n g args M with
  | none => rfl
  | some x => obtain ⟨m, M'⟩ := x; rfl
/-! Texts of functions, laid in a tree. -/
noncomputable def mkT (l : List (Nat × IFn)) : T IFn := List.rec (motive := fun _ => T IFn) .lf (fun x _ ih => T.set (path x.1) (some x.2) ih) l
theorem mkT_get : ∀ (l : List (Nat × IFn)) (g : Nat) (fn : IFn), (mkT l).get (path g) = some fn → (g, fn) ∈ l
  | [], g, fn, h => by cases (T.get_lf (α := IFn) (path g)).symm.trans h
  | (n, F) :: l, g, fn, h => by
    have e : mkT ((n, F) :: l) = T.set (path n) (some F) (mkT l) := rfl
    rw [e, T.get_set] at h
    by_cases hp : path n = path g
    · rw [if_pos hp] at h
      injection h with h
      rw [← h, path_inj hp]
      exact List.mem_cons_self
    · rw [if_neg hp] at h
      exact List.mem_cons_of_mem _ (mkT_get l g fn h)
theorem fits_of {P : Program} {l : List (Nat × IFn)} {t : T IFn} (ht : t = mkT l) (h : ∀ x ∈ l, FitsF P x.1 x.2) : ∀ g fn, idK t g = some fn → FitsF P g fn := fun g fn e => by
  subst ht
  unfold idK at e
  rw [tget_eq, pathQ_eq] at e
  exact h (g, fn) (mkT_get l g fn e)
def q0 : List Bool := []
def q1 : List Bool := [true]
def q2 : List Bool := [false]
def q3 : List Bool := [true, true]
def q4 : List Bool := [false, true]
def q5 : List Bool := [true, false]
def q6 : List Bool := [false, false]
def q7 : List Bool := [true, true, true]
def q8 : List Bool := [false, true, true]
def q9 : List Bool := [true, false, true]
def q10 : List Bool := [false, false, true]
def q11 : List Bool := [true, true, false]
def q12 : List Bool := [false, true, false]
def q13 : List Bool := [true, false, false]
def q14 : List Bool := [false, false, false]
def q15 : List Bool := [true, true, true, true]
def q16 : List Bool := [false, true, true, true]
def q17 : List Bool := [true, false, true, true]
def q18 : List Bool := [false, false, true, true]
def q19 : List Bool := [true, true, false, true]
def q20 : List Bool := [false, true, false, true]
def q21 : List Bool := [true, false, false, true]
def q22 : List Bool := [false, false, false, true]
def q23 : List Bool := [true, true, true, false]
def q24 : List Bool := [false, true, true, false]
def q25 : List Bool := [true, false, true, false]
def q26 : List Bool := [false, false, true, false]
def q27 : List Bool := [true, true, false, false]
def q28 : List Bool := [false, true, false, false]
def q29 : List Bool := [true, false, false, false]
def q30 : List Bool := [false, false, false, false]
def q31 : List Bool := [true, true, true, true, true]
def q32 : List Bool := [false, true, true, true, true]
def q33 : List Bool := [true, false, true, true, true]
def q34 : List Bool := [false, false, true, true, true]
def q35 : List Bool := [true, true, false, true, true]
def q36 : List Bool := [false, true, false, true, true]
def q37 : List Bool := [true, false, false, true, true]
def q38 : List Bool := [false, false, false, true, true]
def q39 : List Bool := [true, true, true, false, true]
def q40 : List Bool := [false, true, true, false, true]
def q41 : List Bool := [true, false, true, false, true]
def q42 : List Bool := [false, false, true, false, true]
def q43 : List Bool := [true, true, false, false, true]
def q44 : List Bool := [false, true, false, false, true]
def q45 : List Bool := [true, false, false, false, true]
def q46 : List Bool := [false, false, false, false, true]
def q47 : List Bool := [true, true, true, true, false]
def q48 : List Bool := [false, true, true, true, false]
def q49 : List Bool := [true, false, true, true, false]
def q50 : List Bool := [false, false, true, true, false]
def q51 : List Bool := [true, true, false, true, false]
def q52 : List Bool := [false, true, false, true, false]
def q53 : List Bool := [true, false, false, true, false]
def q54 : List Bool := [false, false, false, true, false]
def q55 : List Bool := [true, true, true, false, false]
def q56 : List Bool := [false, true, true, false, false]
def q57 : List Bool := [true, false, true, false, false]
def q58 : List Bool := [false, false, true, false, false]
def q59 : List Bool := [true, true, false, false, false]
def q60 : List Bool := [false, true, false, false, false]
def q61 : List Bool := [true, false, false, false, false]
def q62 : List Bool := [false, false, false, false, false]
def q63 : List Bool := [true, true, true, true, true, true]
def q64 : List Bool := [false, true, true, true, true, true]
def q65 : List Bool := [true, false, true, true, true, true]
def q66 : List Bool := [false, false, true, true, true, true]
def q67 : List Bool := [true, true, false, true, true, true]
def q68 : List Bool := [false, true, false, true, true, true]
def q69 : List Bool := [true, false, false, true, true, true]
def q70 : List Bool := [false, false, false, true, true, true]
def q71 : List Bool := [true, true, true, false, true, true]
def q72 : List Bool := [false, true, true, false, true, true]
def q73 : List Bool := [true, false, true, false, true, true]
def q74 : List Bool := [false, false, true, false, true, true]
def q75 : List Bool := [true, true, false, false, true, true]
def q76 : List Bool := [false, true, false, false, true, true]
def q77 : List Bool := [true, false, false, false, true, true]
def q78 : List Bool := [false, false, false, false, true, true]
def q79 : List Bool := [true, true, true, true, false, true]
def q80 : List Bool := [false, true, true, true, false, true]
def q81 : List Bool := [true, false, true, true, false, true]
def q82 : List Bool := [false, false, true, true, false, true]
def q83 : List Bool := [true, true, false, true, false, true]
def q84 : List Bool := [false, true, false, true, false, true]
def q85 : List Bool := [true, false, false, true, false, true]
def q86 : List Bool := [false, false, false, true, false, true]
def q87 : List Bool := [true, true, true, false, false, true]
def q88 : List Bool := [false, true, true, false, false, true]
def q89 : List Bool := [true, false, true, false, false, true]
def q90 : List Bool := [false, false, true, false, false, true]
def q91 : List Bool := [true, true, false, false, false, true]
def q92 : List Bool := [false, true, false, false, false, true]
def q93 : List Bool := [true, false, false, false, false, true]
def q94 : List Bool := [false, false, false, false, false, true]
def q95 : List Bool := [true, true, true, true, true, false]
def q96 : List Bool := [false, true, true, true, true, false]
def q97 : List Bool := [true, false, true, true, true, false]
def q98 : List Bool := [false, false, true, true, true, false]
def q99 : List Bool := [true, true, false, true, true, false]
def q100 : List Bool := [false, true, false, true, true, false]
def q101 : List Bool := [true, false, false, true, true, false]
def q102 : List Bool := [false, false, false, true, true, false]
def q103 : List Bool := [true, true, true, false, true, false]
def q104 : List Bool := [false, true, true, false, true, false]
def q105 : List Bool := [true, false, true, false, true, false]
def q106 : List Bool := [false, false, true, false, true, false]
def q107 : List Bool := [true, true, false, false, true, false]
def q108 : List Bool := [false, true, false, false, true, false]
def q109 : List Bool := [true, false, false, false, true, false]
def q110 : List Bool := [false, false, false, false, true, false]
def q111 : List Bool := [true, true, true, true, false, false]
def q112 : List Bool := [false, true, true, true, false, false]
def q113 : List Bool := [true, false, true, true, false, false]
def q114 : List Bool := [false, false, true, true, false, false]
def q115 : List Bool := [true, true, false, true, false, false]
def q116 : List Bool := [false, true, false, true, false, false]
def q117 : List Bool := [true, false, false, true, false, false]
def q118 : List Bool := [false, false, false, true, false, false]
def q119 : List Bool := [true, true, true, false, false, false]
def q120 : List Bool := [false, true, true, false, false, false]
def q121 : List Bool := [true, false, true, false, false, false]
def q122 : List Bool := [false, false, true, false, false, false]
def q123 : List Bool := [true, true, false, false, false, false]
def q124 : List Bool := [false, true, false, false, false, false]
def q125 : List Bool := [true, false, false, false, false, false]
def q126 : List Bool := [false, false, false, false, false, false]
def q127 : List Bool := [true, true, true, true, true, true, true]
def q128 : List Bool := [false, true, true, true, true, true, true]
def q129 : List Bool := [true, false, true, true, true, true, true]
def q130 : List Bool := [false, false, true, true, true, true, true]
def q131 : List Bool := [true, true, false, true, true, true, true]
def q132 : List Bool := [false, true, false, true, true, true, true]
def q133 : List Bool := [true, false, false, true, true, true, true]
def q134 : List Bool := [false, false, false, true, true, true, true]
def q135 : List Bool := [true, true, true, false, true, true, true]
def q136 : List Bool := [false, true, true, false, true, true, true]
def q137 : List Bool := [true, false, true, false, true, true, true]
def q138 : List Bool := [false, false, true, false, true, true, true]
def q139 : List Bool := [true, true, false, false, true, true, true]
def q140 : List Bool := [false, true, false, false, true, true, true]
def q141 : List Bool := [true, false, false, false, true, true, true]
def q142 : List Bool := [false, false, false, false, true, true, true]
def q143 : List Bool := [true, true, true, true, false, true, true]
def q144 : List Bool := [false, true, true, true, false, true, true]
def q145 : List Bool := [true, false, true, true, false, true, true]
def q146 : List Bool := [false, false, true, true, false, true, true]
def q147 : List Bool := [true, true, false, true, false, true, true]
def q148 : List Bool := [false, true, false, true, false, true, true]
def q149 : List Bool := [true, false, false, true, false, true, true]
def q150 : List Bool := [false, false, false, true, false, true, true]
def q151 : List Bool := [true, true, true, false, false, true, true]
def q152 : List Bool := [false, true, true, false, false, true, true]
def q153 : List Bool := [true, false, true, false, false, true, true]
def q154 : List Bool := [false, false, true, false, false, true, true]
def q155 : List Bool := [true, true, false, false, false, true, true]
def q156 : List Bool := [false, true, false, false, false, true, true]
def q157 : List Bool := [true, false, false, false, false, true, true]
def q158 : List Bool := [false, false, false, false, false, true, true]
def q159 : List Bool := [true, true, true, true, true, false, true]
def q160 : List Bool := [false, true, true, true, true, false, true]
def q161 : List Bool := [true, false, true, true, true, false, true]
def q162 : List Bool := [false, false, true, true, true, false, true]
def q163 : List Bool := [true, true, false, true, true, false, true]
def q164 : List Bool := [false, true, false, true, true, false, true]
def q165 : List Bool := [true, false, false, true, true, false, true]
def q166 : List Bool := [false, false, false, true, true, false, true]
def q167 : List Bool := [true, true, true, false, true, false, true]
def q168 : List Bool := [false, true, true, false, true, false, true]
def q169 : List Bool := [true, false, true, false, true, false, true]
def q170 : List Bool := [false, false, true, false, true, false, true]
def q171 : List Bool := [true, true, false, false, true, false, true]
def q172 : List Bool := [false, true, false, false, true, false, true]
def q173 : List Bool := [true, false, false, false, true, false, true]
def q174 : List Bool := [false, false, false, false, true, false, true]
def q175 : List Bool := [true, true, true, true, false, false, true]
def q176 : List Bool := [false, true, true, true, false, false, true]
def q177 : List Bool := [true, false, true, true, false, false, true]
def q178 : List Bool := [false, false, true, true, false, false, true]
def q179 : List Bool := [true, true, false, true, false, false, true]
def q180 : List Bool := [false, true, false, true, false, false, true]
def q181 : List Bool := [true, false, false, true, false, false, true]
def q182 : List Bool := [false, false, false, true, false, false, true]
def q183 : List Bool := [true, true, true, false, false, false, true]
def q184 : List Bool := [false, true, true, false, false, false, true]
def q185 : List Bool := [true, false, true, false, false, false, true]
def q186 : List Bool := [false, false, true, false, false, false, true]
def q187 : List Bool := [true, true, false, false, false, false, true]
def q188 : List Bool := [false, true, false, false, false, false, true]
def q189 : List Bool := [true, false, false, false, false, false, true]
def q190 : List Bool := [false, false, false, false, false, false, true]
def q191 : List Bool := [true, true, true, true, true, true, false]
def q192 : List Bool := [false, true, true, true, true, true, false]
def q193 : List Bool := [true, false, true, true, true, true, false]
def q194 : List Bool := [false, false, true, true, true, true, false]
def q195 : List Bool := [true, true, false, true, true, true, false]
def q196 : List Bool := [false, true, false, true, true, true, false]
def q197 : List Bool := [true, false, false, true, true, true, false]
def q198 : List Bool := [false, false, false, true, true, true, false]
def q199 : List Bool := [true, true, true, false, true, true, false]
end Go.Proofs.Ytjlhopfmhhafoaa.Ev
