/-
  What the claim leans on, part 3: What single operations do, told for simp. Conditions: none. What comes in, read into the model's memory as it lies: numbers, bools, strings, slices, structs and arrays of these, of whatever depth. Conditions: none. Arguments of whatever types, read into the model; functions that are known by a contract that hangs on nothing. Conditions: none. Stores into rows, and what stays. Conditions: none. Patterns in memory, their sizes, and what a survey of them knows. Conditions: none. Texts of functions, laid in a tree; names of slots. Conditions: none. The functions that a run comes to, as the model r
-/
import Derived.Test.YtcajphnjiepbaaaMP2
import Derived.Deep.Slices
import Derived.Deep.Strs
import Derived.OpenShut
import Derived.DataReads
import Derived.ChangeArms
import Derived.WideShapes
import Derived.KernelRfl
import Derived.Test.YtcajphnjiepbaaaProg
set_option linter.unusedSimpArgs false
set_option linter.unusedVariables false
namespace Go.Proofs.Ytcajphnjiepbaaa.Ev
open Go
variable {c : CallM} {f : Fr} {M : MH}
def o1 (r : Option MV) (M : MH) : Option (MV × MH) := match r with
  | some m => some (m, M)
  | none => none
theorem o1_some (m : MV) (M : MH) : o1 (some m) M = some (m, M) := rfl
def binV (op : BinOp) (x y : MV) : Option MV := match x, y with
  | .i k a, .i k' b => Ev.binI op k a k' b
  | _, _ => none
def lenV (x : MV) : Option MV := match x with
  | .nils => some (.i .i64 0)
  | .sl _ _ n _ => some (.i .i64 n)
  | _ => none
def ixV (s : Nat) (x i : MV) : Option MV := match x, i with
  | .sl id off ln _, .i _ (.ofNat j) => bif Nat.blt j ln then some (.p id (off + j * s)) else none
  | _, _ => none
def ixAV (n s : Nat) (x i : MV) : Option MV := match x, i with
  | .p id off, .i _ (.ofNat j) => bif Nat.blt j n then some (.p id (off + j * s)) else none
  | _, _ => none
noncomputable def ld1V (M : MH) (x : MV) : Option MV := match x with
  | .p id off => match M.get id with
    | some (.cs _ _ c) => cget c off
    | _ => none
  | _ => none
noncomputable def ldNV (M : MH) (n : Nat) (x : MV) : Option MV := match x with
  | .p id off => match M.get id with
    | some (.cs _ _ c) => match getN c n off with
      | some l => some (.ag l)
      | none => none
    | _ => none
  | _ => none
def faV (o : Nat) (x : MV) : Option MV := match x with
  | .p id off => some (.p id (off + o))
  | _ => none
def nckV (x : MV) : Option MV := match x with
  | .p id off => some (.p id off)
  | _ => none
def fld1V (o : Nat) (x : MV) : Option MV := match x with
  | .ag l => l[o]?
  | _ => none
def fldNV (o n : Nat) (x : MV) : Option MV := match x with
  | .ag l => some (.ag ((l.drop o).take n))
  | _ => none
def extV (i : Nat) (x : MV) : Option MV := match x with
  | .tp l => l[i]?
  | _ => none
def binBV (op : BinOp) (x y : MV) : Option MV := match x, y with
  | .b a, .b b => eqM op (a == b)
  | _, _ => none
def binNV (n : NilKind) (op : BinOp) (x y : MV) : Option MV := match nilR n x y with
  | some r => eqM op r
  | none => none
def pickV (c a b : MV) : Option MV := match c with
  | .b true => some a
  | .b false => some b
  | _ => none
def mnV (x y : MV) : Option MV := match x, y with
  | .i k a, .i _ b => some (.i k (bif decide (b < a) then b else a))
  | _, _ => none
def mxV (x y : MV) : Option MV := match x, y with
  | .i k a, .i _ b => some (.i k (bif decide (a < b) then b else a))
  | _, _ => none
def cvIV (k : IntKind) (x : MV) : Option MV := match x with
  | .i _ n => some (.i k (wrapF k n))
  | _ => none
noncomputable def stV (M : MH) (n : Nat) (x y : MV) : Option (MV × MH) := match x with
  | .p id off => match M.get id with
    | some (.cs false sz c) => bif y.cells.length == n && !isU y && allOne y.cells && Nat.ble M.lo id && hasB c n off then some (.u, M.set id (some (.cs false sz (setN y.cells off c)))) else none
    | _ => none
  | _ => none
noncomputable def pushV (M : MH) (m : MV) (o : MO) : Option (MV × MH) := bif Nat.ble M.lo M.n then some (m, M.push o) else none
theorem ev_mov (x : X) : Iop.ev c f M (.mov x) = some (x.ev f, M) := rfl
theorem ev_pick (a b d : X) : Iop.ev c f M (.pick a b d) = o1 (pickV (a.ev f) (b.ev f) (d.ev f)) M := by
  simp only [Iop.ev, pickV]
  cases a.ev f <;> try rfl
  rename_i t; cases t <;> rfl
theorem ev_new (l : List MV) : Iop.ev c f M (.new l) = pushV M (.p M.n 0) (.cs false l.length (ofL l 0)) := rfl
theorem ev_box (x : X) : Iop.ev c f M (.box x) = if isU (x.ev f) = true then none else pushV M (.p M.n 0) (.cs false (x.ev f).cells.length (ofL (x.ev f).cells 0)) := by
  simp only [Iop.ev, pushV]
  cases isU (x.ev f) <;> simp
theorem ev_build (zs : List MV) (ps : List (Nat × Nat × X)) : Iop.ev c f M (.build zs ps) = o1 ((fillM (ps.map fun x => (x.1, x.2.1, x.2.2.ev f)) zs).map .ag) M := by
  simp only [Iop.ev]
  cases fillM (ps.map fun x => (x.1, x.2.1, x.2.2.ev f)) zs <;> rfl
theorem ev_bsl (sz n : Nat) (zs : List MV) (ps : List (Nat × Nat × X)) : Iop.ev c f M (.bsl sz n zs ps) = bif Nat.ble M.lo M.n then (match fillM (ps.map fun x => (x.1, x.2.1, x.2.2.ev f)) (zrow zs n) with
    | some l => some (.sl M.n 0 n 0, M.push (.cs false sz (ofL l 0)))
    | none => none) else none := rfl
theorem ev_ld1 (x : X) : Iop.ev c f M (.ld1 x) = o1 (ld1V M (x.ev f)) M := by
  simp only [Iop.ev, ld1V]
  cases x.ev f <;> try rfl
  rename_i id off
  simp only
  cases M.get id with
  | none => rfl
  | some o =>
    cases o with
    | mp _ _ => rfl
    | cs r s c => simp only; cases cget c off <;> rfl
theorem ev_ldN (n : Nat) (x : X) : Iop.ev c f M (.ldN n x) = o1 (ldNV M n (x.ev f)) M := by
  simp only [Iop.ev, ldNV]
  cases x.ev f <;> try rfl
  rename_i id off
  simp only
  cases M.get id with
  | none => rfl
  | some o =>
    cases o with
    | mp _ _ => rfl
    | cs r s c => simp only; cases getN c n off <;> rfl
theorem ev_st (n : Nat) (x y : X) : Iop.ev c f M (.st n x y) = stV M n (x.ev f) (y.ev f) := rfl
theorem ev_nck (x : X) : Iop.ev c f M (.nck x) = o1 (nckV (x.ev f)) M := by
  simp only [Iop.ev, nckV]; cases x.ev f <;> rfl
theorem ev_binI (op : BinOp) (x y : X) : Iop.ev c f M (.binI op x y) = o1 (binV op (x.ev f) (y.ev f)) M := by
  simp only [Iop.ev, binV]
  cases x.ev f <;> try rfl
  cases y.ev f <;> try rfl
theorem ev_binB (op : BinOp) (x y : X) : Iop.ev c f M (.binB op x y) = o1 (binBV op (x.ev f) (y.ev f)) M := by
  simp only [Iop.ev, binBV]
  cases x.ev f <;> try rfl
  cases y.ev f <;> try rfl
theorem ev_binN (n : NilKind) (op : BinOp) (x y : X) : Iop.ev c f M (.binN n op x y) = o1 (binNV n op (x.ev f) (y.ev f)) M := by
  simp only [Iop.ev, binNV]
  cases nilR n (x.ev f) (y.ev f) with
  | none => rfl
  | some r => simp only; cases eqM op r <;> rfl
theorem ev_un (op : UnOp) (x : X) : Iop.ev c f M (.un op x) = o1 (unM op (x.ev f)) M := by
  simp only [Iop.ev]; cases unM op (x.ev f) <;> rfl
theorem ev_cvI (k : IntKind) (x : X) : Iop.ev c f M (.cvI k x) = o1 (cvIV k (x.ev f)) M := by
  simp only [Iop.ev, cvIV]; cases x.ev f <;> rfl
theorem ev_fld1 (o : Nat) (x : X) : Iop.ev c f M (.fld1 o x) = o1 (fld1V o (x.ev f)) M := by
  simp only [Iop.ev, fld1V]
  cases x.ev f <;> try rfl
theorem ev_fldN (o n : Nat) (x : X) : Iop.ev c f M (.fldN o n x) = o1 (fldNV o n (x.ev f)) M := by
  simp only [Iop.ev, fldNV]; cases x.ev f <;> rfl
theorem ev_fa (o : Nat) (x : X) : Iop.ev c f M (.fa o x) = o1 (faV o (x.ev f)) M := by
  simp only [Iop.ev, faV]; cases x.ev f <;> rfl
theorem ev_ixA (n s : Nat) (x i : X) : Iop.ev c f M (.ixA n s x i) = o1 (ixAV n s (x.ev f) (i.ev f)) M := by
  simp only [Iop.ev, ixAV]
  cases x.ev f <;> try rfl
  cases i.ev f <;> try rfl
  rename_i id off k z
  cases z with
  | negSucc j => rfl
  | ofNat j => simp only; cases Nat.blt j n <;> rfl
theorem ev_ixS (s : Nat) (x i : X) : Iop.ev c f M (.ixS s x i) = o1 (ixV s (x.ev f) (i.ev f)) M := by
  simp only [Iop.ev, ixV]
  cases x.ev f <;> try rfl
  cases i.ev f <;> try rfl
  rename_i id off ln e k z
  cases z with
  | negSucc j => rfl
  | ofNat j => simp only; cases Nat.blt j ln <;> rfl
theorem ev_ext (x : X) (i : Nat) : Iop.ev c f M (.ext x i) = o1 (extV i (x.ev f)) M := by
  simp only [Iop.ev, extV]
  cases x.ev f <;> try rfl
theorem ev_mkm : Iop.ev c f M .mkm = pushV M (.m M.n) (.mp [] 0) := rfl
theorem ev_cut (sz : Nat) (x : X) (lo hi : Option X) : Iop.ev c f M (.cut sz x lo hi) = o1 (cutM sz (x.ev f) (lo.map (X.ev f)) (hi.map (X.ev f))) M := by
  simp only [Iop.ev]; cases cutM sz (x.ev f) (lo.map (X.ev f)) (hi.map (X.ev f)) <;> rfl
theorem ev_app (sz bytes : Nat) (x y : X) : Iop.ev c f M (.app sz bytes x y) = appM M sz bytes (x.ev f) (y.ev f) := rfl
theorem ev_len (x : X) : Iop.ev c f M (.len x) = o1 (lenV (x.ev f)) M := by
  simp only [Iop.ev, lenV]; cases x.ev f <;> rfl
theorem ev_mn (x y : X) : Iop.ev c f M (.mn x y) = o1 (mnV (x.ev f) (y.ev f)) M := by
  simp only [Iop.ev, mnV]
  cases x.ev f <;> try rfl
  cases y.ev f <;> rfl
theorem ev_mx (x y : X) : Iop.ev c f M (.mx x y) = o1 (mxV (x.ev f) (y.ev f)) M := by
  simp only [Iop.ev, mxV]
  cases x.ev f <;> try rfl
  cases y.ev f <;> rfl
theorem ev_call (g : Nat) (l : List X) : Iop.ev c f M (.call g l) = c g (l.map (X.ev f)) M := rfl
theorem ev_mkf (g : Fn) (a d : List X) : Iop.ev c f M (.mkf g a d) = some (.fn g (a.map (X.ev f)) (d.map (X.ev f)), M) := rfl
theorem ev_pu2 (g : PG) (x y : X) : Iop.ev c f M (.pu2 g x y) = o1 (puM g (x.ev f) (y.ev f)) M := by
  simp only [Iop.ev]; cases puM g (x.ev f) (y.ev f) <;> rfl
theorem ev_rdm (g : RG) (x y : X) : Iop.ev c f M (.rdm g x y) = o1 (rdF g M (x.ev f) (y.ev f)) M := by
  simp only [Iop.ev]; cases rdF g M (x.ev f) (y.ev f) <;> rfl
theorem bin_add (k : IntKind) (a b : Int) : binV .add (.i k a) (.i k b) = some (.i k (wrapF k (a + b))) := by cases k <;> rfl
theorem bin_sub (k : IntKind) (a b : Int) : binV .sub (.i k a) (.i k b) = some (.i k (wrapF k (a - b))) := by cases k <;> rfl
theorem bin_mul (k : IntKind) (a b : Int) : binV .mul (.i k a) (.i k b) = some (.i k (wrapF k (a * b))) := by cases k <;> rfl
theorem bin_eql (k : IntKind) (a b : Int) : binV .eql (.i k a) (.i k b) = some (.b (decide (a = b))) := by cases k <;> rfl
theorem bin_neq (k : IntKind) (a b : Int) : binV .neq (.i k a) (.i k b) = some (.b (decide (a ≠ b))) := by
  have : (a != b) = decide (a ≠ b) := by rw [Bool.eq_iff_iff]; simp
  cases k <;> exact congrArg (fun t => some (MV.b t)) this
theorem bin_lss (k : IntKind) (a b : Int) : binV .lss (.i k a) (.i k b) = some (.b (decide (a < b))) := by cases k <;> rfl
theorem bin_leq (k : IntKind) (a b : Int) : binV .leq (.i k a) (.i k b) = some (.b (decide (a ≤ b))) := by cases k <;> rfl
theorem bin_gtr (k : IntKind) (a b : Int) : binV .gtr (.i k a) (.i k b) = some (.b (decide (b < a))) := by cases k <;> rfl
theorem bin_geq (k : IntKind) (a b : Int) : binV .geq (.i k a) (.i k b) = some (.b (decide (b ≤ a))) := by cases k <;> rfl
theorem binB_eql (a b : Bool) : binBV .eql (.b a) (.b b) = some (.b (a == b)) := rfl
theorem binB_neq (a b : Bool) : binBV .neq (.b a) (.b b) = some (.b (!(a == b))) := rfl
theorem un_not (a : Bool) : unM .not (.b a) = some (.b (!a)) := rfl
theorem not_dec (p : Prop) [Decidable p] : (!decide p) = decide (¬ p) := by
  rw [Bool.eq_iff_iff]; simp
theorem pick_t (a b : MV) : pickV (.b true) a b = some a := rfl
theorem pick_f (a b : MV) : pickV (.b false) a b = some b := rfl
def isSl : MV → Bool
  | .nils => true
  | .sl _ _ _ _ => true
  | _ => false
def sid : MV → Nat
  | .sl id _ _ _ => id
  | _ => 0
def soff : MV → Nat
  | .sl _ o _ _ => o
  | _ => 0
def slen : MV → Nat
  | .sl _ _ n _ => n
  | _ => 0
theorem len_sl {v : MV} (h : isSl v = true) : lenV v = some (.i .i64 (slen v : Int)) := by cases v <;> first | rfl | cases h
theorem ix_sl {s : Nat} {v : MV} {k : IntKind} {i : Nat} (h : isSl v = true) (hi : i < slen v) : ixV s v (.i k (i : Int)) = some (.p (sid v) (soff v + i * s)) := by
  cases v <;> first | (simp [slen] at hi; done) | skip
  rename_i id off n e
  show (bif Nat.blt i n then some (MV.p id (off + i * s)) else none) = _
  rw [blt_t (show i < n from hi)]; rfl
theorem ixA_p {n s id off : Nat} {k : IntKind} {i : Nat} (hi : i < n) : ixAV n s (.p id off) (.i k (i : Int)) = some (.p id (off + i * s)) := by
  show (bif Nat.blt i n then some (MV.p id (off + i * s)) else none) = _
  rw [blt_t hi]; rfl
theorem fa_p (o id off : Nat) : faV o (.p id off) = some (.p id (off + o)) := rfl
theorem nck_p (id off : Nat) : nckV (.p id off) = some (.p id off) := rfl
theorem push_ok {m : MV} {o : MO} (h : M.lo ≤ M.n) : pushV M m o = some (m, M.push o) := by unfold pushV; rw [ble_t' h]; rfl
theorem hasB_of : ∀ {t : T MV} {n off : Nat}, (∀ j, j < n → (cget t (off + j)).isSome = true) → hasB t n off = true
  | t, 0, off, h => rfl
  | t, n + 1, off, h => by
    show (match cget t off with
      | some _ => hasB t n (off + 1)
      | none => false) = true
    have h0 := h 0 (by omega)
    rw [Nat.add_zero] at h0
    cases hc : cget t off with
    | none => rw [hc] at h0; cases h0
    | some v => exact hasB_of fun j hj => by rw [show off + 1 + j = off + (j + 1) from by omega]; exact h (j + 1) (by omega)
theorem At.has {t : T MV} {off : Nat} {l : List MV} (h : At t off l) : hasB t l.length off = true := hasB_of fun j hj => by rw [h j l[j] (List.getElem?_eq_getElem hj)]; rfl
noncomputable def stW (M : MH) (n id off : Nat) (y : MV) (o : Option MO) : Option (MV × MH) := match o with
  | some (.cs false sz c) => bif y.cells.length == n && !isU y && allOne y.cells && Nat.ble M.lo id && hasB c n off then some (.u, M.set id (some (.cs false sz (setN y.cells off c)))) else none
  | _ => none
theorem st_w (n id off : Nat) (y : MV) : stV M n (.p id off) y = stW M n id off y (M.get id) := rfl
theorem stW_cs {n id off sz : Nat} {t : T MV} {y : MV} (hlo : M.lo ≤ id) (hn : y.cells.length = n) (hu : isU y = false) (ho : allOne y.cells = true) (hb : hasB t n off = true) : stW M n id off y (some (.cs false sz t)) = some (.u, M.set id (some (.cs false sz (setN y.cells off t)))) := by
  simp only [stW, hn, beq_self_eq_true, hu, ho, ble_t' hlo, hb, Bool.not_false, Bool.and_true, cond_true]
noncomputable def ldW (off : Nat) (o : Option MO) : Option MV := match o with
  | some (.cs _ _ c) => cget c off
  | _ => none
noncomputable def ldNW (n off : Nat) (o : Option MO) : Option MV := match o with
  | some (.cs _ _ c) => (getN c n off).map .ag
  | _ => none
theorem ld1_w (id off : Nat) : ld1V M (.p id off) = ldW off (M.get id) := by
  simp only [ld1V, ldW]
theorem ldN_w (n id off : Nat) : ldNV M n (.p id off) = ldNW n off (M.get id) := by
  simp only [ldNV, ldNW]
  cases M.get id with
  | none => rfl
  | some o =>
    cases o with
    | mp _ _ => rfl
    | cs r s c => simp only; cases getN c n off <;> rfl
theorem ldW_cs (off : Nat) (r : Bool) (s : Nat) (t : T MV) : ldW off (some (.cs r s t)) = cget t off := rfl
theorem ldNW_cs (n off : Nat) (r : Bool) (s : Nat) (t : T MV) : ldNW n off (some (.cs r s t)) = (getN t n off).map .ag := rfl
theorem map_ag (l : List MV) : (some l).map MV.ag = some (.ag l) := rfl
theorem cells_ag (l : List MV) : (MV.ag l).cells = l := rfl
theorem at_setN (l : List MV) (off : Nat) (t : T MV) : At (setN l off t) off l := fun j x hj => by
  rw [cget_setN, if_pos ⟨by omega, by have := (List.getElem?_eq_some_iff.1 hj).1; omega⟩, show off + j - off = j from by omega, hj]
theorem getN_setN (l : List MV) (off : Nat) (t : T MV) : getN (setN l off t) l.length off = some l := (at_setN l off t).getN
theorem getN_setN' {l : List MV} {n off : Nat} {t : T MV} (h : l.length = n) : getN (setN l off t) n off = some l := by subst h; exact getN_setN l off t
theorem cells_i (k : IntKind) (z : Int) : (MV.i k z).cells = [.i k z] := rfl
theorem cells_b (t : Bool) : (MV.b t).cells = [.b t] := rfl
theorem cells_s (t : ByteArray) : (MV.s t).cells = [.s t] := rfl
theorem cells_p (a b : Nat) : (MV.p a b).cells = [.p a b] := rfl
theorem cells_nilp : (MV.nilp).cells = [.nilp] := rfl
theorem cells_nils : (MV.nils).cells = [.nils] := rfl
theorem cells_m (a : Nat) : (MV.m a).cells = [.m a] := rfl
theorem cells_sl (a b n d : Nat) : (MV.sl a b n d).cells = [.sl a b n d] := rfl
theorem cells_fn (g : Fn) (a b : List MV) : (MV.fn g a b).cells = [.fn g a b] := rfl
theorem one_i (k : IntKind) (z : Int) : (MV.i k z).one = true := rfl
theorem one_b (t : Bool) : (MV.b t).one = true := rfl
theorem one_s (t : ByteArray) : (MV.s t).one = true := rfl
theorem one_p (a b : Nat) : (MV.p a b).one = true := rfl
theorem one_nilp : (MV.nilp).one = true := rfl
theorem one_nils : (MV.nils).one = true := rfl
theorem one_m (a : Nat) : (MV.m a).one = true := rfl
theorem one_sl (a b n d : Nat) : (MV.sl a b n d).one = true := rfl
theorem one_fn (g : Fn) (a b : List MV) : (MV.fn g a b).one = true := rfl
theorem isU_i (k : IntKind) (z : Int) : isU (.i k z) = false := rfl
theorem isU_b (t : Bool) : isU (.b t) = false := rfl
theorem isU_s (t : ByteArray) : isU (.s t) = false := rfl
theorem isU_p (a b : Nat) : isU (.p a b) = false := rfl
theorem isU_nilp : isU .nilp = false := rfl
theorem isU_nils : isU .nils = false := rfl
theorem isU_m (a : Nat) : isU (.m a) = false := rfl
theorem isU_sl (a b n d : Nat) : isU (.sl a b n d) = false := rfl
theorem isU_ag (l : List MV) : isU (.ag l) = false := rfl
theorem isU_fn (g : Fn) (a b : List MV) : isU (.fn g a b) = false := rfl
theorem isSl_one {v : MV} (h : isSl v = true) : v.one = true := by cases v <;> first | rfl | cases h
theorem all_nil : allOne [] = true := rfl
theorem all_cons (x : MV) (l : List MV) : allOne (x :: l) = (x.one && allOne l) := rfl
theorem has_ofL (l : List MV) (n off : Nat) (h : off + n ≤ l.length) : hasB (ofL l 0) n off = true := hasB_of fun j hj => by
  rw [cget_ofL, if_pos (Nat.zero_le _), List.getElem?_eq_getElem (by omega)]; rfl
theorem hasB_iff {t : T MV} : ∀ {n off : Nat}, hasB t n off = true → ∀ j, j < n → (cget t (off + j)).isSome = true
  | 0, off, h, j, hj => by omega
  | n + 1, off, h, j, hj => by
    have h' : (match cget t off with
      | some _ => hasB t n (off + 1)
      | none => false) = true := h
    cases hc : cget t off with
    | none => rw [hc] at h'; cases h'
    | some v =>
      rw [hc] at h'
      cases j with
      | zero => rw [Nat.add_zero, hc]; rfl
      | succ j => rw [show off + (j + 1) = off + 1 + j from by omega]; exact hasB_iff h' j (by omega)
theorem has_setN {t : T MV} (l : List MV) (o n off : Nat) (h : hasB t n off = true) : hasB (setN l o t) n off = true := hasB_of fun j hj => by
  rw [cget_setN]
  split
  · rw [List.getElem?_eq_getElem (by omega)]; rfl
  · exact hasB_iff h j hj
def stOk (n : Nat) (y : MV) : Bool := (y.cells.length == n) && (!isU y && allOne y.cells)
theorem stW_ok {n id off sz : Nat} {t : T MV} {y : MV} (hlo : M.lo ≤ id) (hy : stOk n y = true) (hb : hasB t n off = true) : stW M n id off y (some (.cs false sz t)) = some (.u, M.set id (some (.cs false sz (setN y.cells off t)))) := by
  unfold stOk at hy
  simp only [Bool.and_eq_true, Bool.not_eq_true'] at hy
  exact stW_cs hlo (by simpa using hy.1) hy.2.1 hy.2.2 hb
noncomputable def bslW (M : MH) (sz n : Nat) (o : Option (List MV)) : Option (MV × MH) := match o with
  | some l => pushV M (.sl M.n 0 n 0) (.cs false sz (ofL l 0))
  | none => none
theorem bslW_some (sz n : Nat) (l : List MV) : bslW M sz n (some l) = pushV M (.sl M.n 0 n 0) (.cs false sz (ofL l 0)) := rfl
theorem ev_bslW (sz n : Nat) (zs : List MV) (ps : List (Nat × Nat × X)) : Iop.ev c f M (.bsl sz n zs ps) = bslW M sz n (fillM (ps.map fun x => (x.1, x.2.1, x.2.2.ev f)) (zrow zs n)) := by
  simp only [ev_bsl, bslW, pushV]
  cases fillM (ps.map fun x => (x.1, x.2.1, x.2.2.ev f)) (zrow zs n) <;> cases Nat.ble M.lo M.n <;> rfl
theorem zrow_one (zs : List MV) : zrow zs 1 = zs := by
  rw [zrow_succ, zrow_zero, List.append_nil]
theorem fill_nil (l : List MV) : fillM [] l = some l := rfl
theorem fill_ag {n : Nat} {e zs : List MV} (h : e.length = n) (hz : zs.length = n) : fillM [(0, n, .ag e)] zs = some e := by
  rw [fillM_cons]
  simp only [cells_ag, h, beq_self_eq_true, Bool.true_and, Nat.zero_add, hz, ble_t' (Nat.le_refl n), isU, Bool.not_false, cond_true, fill_nil, splice, List.take_zero, List.nil_append]
  rw [List.drop_eq_nil_of_le (by omega), List.append_nil]
theorem fill_one {x z : MV} (h : x.cells = [x]) (hu : isU x = false) : fillM [(0, 1, x)] [z] = some [x] := by
  rw [fillM_cons, h, hu]
  rfl
theorem row_one {M : MH} {sz : Nat} {e : List MV} (he : e.length = sz) : RowAt (M.push (.cs false sz (ofL e 0))) sz (.sl M.n 0 1 0) [e] :=
  ⟨fun x hx => by rw [List.mem_singleton.1 hx]; exact he, .inr ⟨M.n, 0, 0, false, sz, ofL e 0, rfl, push_new _, Nat.lt_succ_self _, by simpa using at_ofL e⟩⟩
theorem puM_eqA (n : Nat) (neg : Bool) (a b : List MV) : puM (.eqA n neg) (.ag a) (.ag b) = bif a.length == n then (match eqAg a b with
    | some r => some (.b (bif neg then !r else r))
    | none => none) else none := rfl
theorem eqAg_nil : eqAg [] [] = some true := rfl
theorem eqAg_i (k : IntKind) (x y : Int) (a b : List MV) : eqAg (.i k x :: a) (.i k y :: b) = match eqAg a b with
    | some t => some (bif x == y then t else false)
    | none => none := by cases k <;> rfl
theorem resL_1 (r : IRes) : resL f M [r] = match r.ev f M with
    | some m => some [m]
    | none => none := by
  show (match r.ev f M, resL f M [] with
    | some m, some l => some (m :: l)
    | _, _ => none) = _
  cases r.ev f M <;> rfl
theorem RowAt.sl {sz : Nat} {v : MV} {es : List (List MV)} (h : RowAt M sz v es) : isSl v = true ∧ slen v = es.length := by
  obtain ⟨_, ⟨rfl, rfl⟩ | ⟨id, off, e, ro, s, c, rfl, _⟩⟩ := h <;> exact ⟨rfl, rfl⟩
theorem RowAt.read {sz : Nat} {v : MV} {es : List (List MV)} (h : RowAt M sz v es) {i : Nat} {e : List MV} (he : es[i]? = some e) : ∃ ro s c, M.get (sid v) = some (.cs ro s c) ∧ sid v < M.n ∧ At c (soff v + i * sz) e := by
  obtain ⟨hs, ⟨rfl, rfl⟩ | ⟨id, off, ed, ro, s, c, rfl, h2, h3, h4⟩⟩ := h
  · simp at he
  · exact ⟨ro, s, c, h2, h3, h4.elem hs he⟩
def consO : Option MV → Option (List MV) → Option (List MV)
  | some m, some l => some (m :: l)
  | _, _ => none
theorem resL_c (r s : IRes) (rs : List IRes) : resL f M (r :: s :: rs) = consO (r.ev f M) (resL f M (s :: rs)) := by
  show (match r.ev f M, resL f M (s :: rs) with
    | some m, some l => some (m :: l)
    | _, _ => none) = _
  cases r.ev f M <;> cases resL f M (s :: rs) <;> rfl
theorem consO_some (m : MV) (l : List MV) : consO (some m) (some l) = some (m :: l) := rfl
theorem pack1 (x : MV) : packM [x] = x := rfl
theorem pack2 (x y : MV) : packM [x, y] = .tp [x, y] := rfl
theorem pack3 (x y z : MV) : packM [x, y, z] = .tp [x, y, z] := rfl
theorem ext_tp (i : Nat) (l : List MV) : extV i (.tp l) = l[i]? := rfl
end Go.Proofs.Ytcajphnjiepbaaa.Ev
set_option linter.unusedSimpArgs false
set_option linter.unusedVariables false
namespace Go.Proofs.Ytcajphnjiepbaaa.Ev
open Go Go.Deep
def TypedFs (T : TypeId → List MV → Prop) : List Field → List MV → Prop
  | [], cs => cs = []
  | f :: fs, cs => ∃ a b, cs = a ++ b ∧ T f.type a ∧ TypedFs T fs b
def TypedN (T : TypeId → List MV → Prop) (e : TypeId) : Nat → List MV → Prop
  | 0, cs => cs = []
  | n + 1, cs => ∃ a b, cs = a ++ b ∧ T e a ∧ TypedN T e n b
def Typed (P : Program) (M : MH) : Nat → TypeId → List MV → Prop
  | 0, _, _ => False
  | n + 1, t, cs => match P.underlying t with
    | some .bool => ∃ b, cs = [.b b]
    | some (.int k) => ∃ z, cs = [.i k z] ∧ (Lit.int k z).wf = true
    | some .string => ∃ s, cs = [.s s] ∧ s.size ≤ maxLen
    | some (.slice e) => ∃ v es, cs = [v] ∧ RowAt M (P.cellsOf e) v es ∧ es.length ≤ maxLen ∧ ∀ x ∈ es, Typed P M n e x
    | some (.struct fs) => TypedFs (Typed P M n) fs.toList cs
    | some (.array m e) => TypedN (Typed P M n) e m cs
    | _ => False
theorem TypedFs.mono {T T' : TypeId → List MV → Prop} (h : ∀ t cs, T t cs → T' t cs) : ∀ {fs : List Field} {cs : List MV}, TypedFs T fs cs → TypedFs T' fs cs
  | [], cs, k => k
  | f :: fs, cs, ⟨a, b, h1, h2, h3⟩ => ⟨a, b, h1, h _ _ h2, TypedFs.mono h h3⟩
theorem TypedN.mono {T T' : TypeId → List MV → Prop} (h : ∀ t cs, T t cs → T' t cs) {e : TypeId} : ∀ {n : Nat} {cs : List MV}, TypedN T e n cs → TypedN T' e n cs
  | 0, cs, k => k
  | n + 1, cs, ⟨a, b, h1, h2, h3⟩ => ⟨a, b, h1, h _ _ h2, TypedN.mono h h3⟩
theorem Typed.ext {P : Program} {M M' : MH} (k : Ext M M') : ∀ {n : Nat} {t : TypeId} {cs : List MV}, Typed P M n t cs → Typed P M' n t cs
  | 0, t, cs, h => h
  | n + 1, t, cs, h => by
    have ih : ∀ t cs, Typed P M n t cs → Typed P M' n t cs := fun t cs h => Typed.ext k h
    unfold Typed at h ⊢
    cases hu : P.underlying t with
    | none => rw [hu] at h; exact h.elim
    | some d =>
      rw [hu] at h
      cases d <;> simp only at h ⊢ <;> first | exact h | skip
      · obtain ⟨v, es, h1, h2, h3, h4⟩ := h
        exact ⟨v, es, h1, h2.ext k, h3, fun x hx => ih _ _ (h4 x hx)⟩
      · exact h.mono ih
      · exact h.mono ih
def fieldsOk (P : Program) (S : List TypeId) : List Field → Nat → Bool
  | [], _ => true
  | f :: r, o => (S.contains f.type && Nat.beq f.offset o) && fieldsOk P S r (o + P.cellsOf f.type)
def sumF (P : Program) : List Field → Nat → Nat
  | [], o => o
  | f :: r, o => sumF P r (o + P.cellsOf f.type)
def typeOk (P : Program) (S : List TypeId) (t : TypeId) : Bool := match P.underlying t with
  | some .bool => Nat.beq (P.cellsOf t) 1
  | some (.int _) => Nat.beq (P.cellsOf t) 1
  | some .string => Nat.beq (P.cellsOf t) 1
  | some (.slice e) => (S.contains e && Nat.blt 0 (P.cellsOf e)) && Nat.beq (P.cellsOf t) 1
  | some (.struct fs) => fieldsOk P S fs.toList 0 && Nat.beq (sumF P fs.toList 0) (P.cellsOf t)
  | some (.array m e) => S.contains e && Nat.beq (m * P.cellsOf e) (P.cellsOf t)
  | _ => false
def Closed (P : Program) (S : List TypeId) : Prop := ∀ t ∈ S, typeOk P S t = true
structure Opened (P : Program) (w : World) (β : BM) (M : MH) : Prop where
  inv : Inv β M w
  glob : GlobOk β
  ro : ∀ id o, M.get id = some o → o.rw = false
  lo : M.lo ≤ M.n
  zero : 0 < w.heap.size ∨ (M.get 0 = some thinO ∧ 0 < M.n ∧ β 0 = some ⟨0, 0, 0⟩)
theorem DenL.take {β : BM} {l : List MV} {vs : List Value} (h : DenL β l vs) (n : Nat) : DenL β (l.take n) (vs.take n) := by
  refine ⟨by rw [List.length_take, List.length_take, h.1], fun j x hj => ?_⟩
  rw [List.getElem?_take] at hj
  split at hj
  · rename_i hlt
    obtain ⟨v, h1, h2⟩ := h.2 j x hj
    exact ⟨v, by rw [List.getElem?_take, if_pos hlt]; exact h1, h2⟩
  · cases hj
theorem Opened.push {P : Program} {w : World} {β : BM} {M : MH} (h : Opened P w β M) (sz : Nat) (c : T MV) (B : Bl) (hB : B.blk < w.heap.size) (hc : ∀ i x, cget c i = some x → ∃ v, w.cell? ⟨B.blk, B.off + i, none⟩ = some v ∧ Den β x v) :
    ∃ β', Opened P w β' (M.push (.cs true sz c)) ∧ β.le β' ∧ β' M.n = some B := by
  have hle : β.le fun id => if id = M.n then some B else β id := fun id B' e => by
    by_cases h1 : id = M.n
    · subst h1; rw [h.inv.fresh M.n (Nat.le_refl _)] at e; cases e
    · show (if id = M.n then some B else β id) = some B'
      rw [if_neg h1]; exact e
  refine ⟨fun id => if id = M.n then some B else β id, ⟨⟨fun id hid => ?_, fun id B' e => ?_, fun id o ho => ?_, fun id id' o o' B1 B2 ho ho' hr e1 e2 hne => ?_⟩, h.glob.mono hle, fun id o ho => ?_, ?_, ?_⟩, hle, if_pos rfl⟩
  · have hid : M.n + 1 ≤ id := hid
    show (if id = M.n then some B else β id) = none
    rw [if_neg (by omega)]
    exact h.inv.fresh id (by omega)
  · by_cases h1 : id = M.n
    · have e' : some B = some B' := by rw [← e]; exact (if_pos h1).symm
      injection e' with e'; subst e'; exact .inl hB
    · have e' : β id = some B' := by rw [← e]; exact (if_neg h1).symm
      rcases h.inv.old id B' e' with h2 | ⟨rfl, h2⟩
      · exact .inl h2
      · exact .inr ⟨rfl, by rw [MH.get_push, if_neg fun x => h1 x.symm]; exact h2⟩
  · rw [MH.get_push] at ho
    by_cases h1 : M.n = id
    · rw [if_pos h1] at ho
      injection ho with ho
      subst ho
      exact ⟨B, if_pos h1.symm, fun i x hx => let ⟨v, a, b⟩ := hc i x hx; ⟨v, a, b.mono hle⟩⟩
    · rw [if_neg h1] at ho
      obtain ⟨B', e, hk⟩ := h.inv.obj id o ho
      exact ⟨B', hle _ _ e, hk.mono hle rfl⟩
  · exfalso
    rw [MH.get_push] at ho
    by_cases h1 : M.n = id
    · rw [if_pos h1] at ho; injection ho with ho; subst ho; cases hr
    · rw [if_neg h1] at ho; rw [h.ro id o ho] at hr; cases hr
  · rw [MH.get_push] at ho
    by_cases h1 : M.n = id
    · rw [if_pos h1] at ho; injection ho with ho; subst ho; rfl
    · rw [if_neg h1] at ho; exact h.ro id o ho
  · exact Nat.le_succ_of_le h.lo
  · exact .inl (Nat.lt_of_le_of_lt (Nat.zero_le _) hB)
def OpenAs (P : Program) (w : World) (n : Nat) (t : TypeId) (vs : List Value) : Prop := ∀ β M, Opened P w β M → ∃ β' M' cs, Opened P w β' M' ∧ β.le β' ∧ Ext M M' ∧ DenL β' cs vs ∧ Typed P M' n t cs
variable {H : Type} {enc : TypeId × Value → H} {P : Program} {w : World} {held : Bool}
theorem open_fields {T : TypeId → List Value → Prop} {n : Nat} {S : List TypeId} (hT : ∀ t vs, t ∈ S → T t vs → OpenAs P w n t vs) : ∀ (fs : List Field) (o : Nat) (vs : List Value), fieldsOk P S fs o = true → o + vs.length = sumF P fs o → (∀ f ∈ fs, T f.type (((vs.drop (f.offset - o)).take (P.cellsOf f.type)))) →
    ∀ β M, Opened P w β M → ∃ β' M' cs, Opened P w β' M' ∧ β.le β' ∧ Ext M M' ∧ DenL β' cs vs ∧ TypedFs (Typed P M' n) fs cs
  | [], o, vs, hk, hl, hf, β, M, hO => by
    have : vs = [] := List.length_eq_zero_iff.1 (by have : o + vs.length = o := hl; omega)
    subst this
    exact ⟨β, M, [], hO, .refl β, .refl M, .nil β, rfl⟩
  | f :: fs, o, vs, hk, hl, hf, β, M, hO => by
    simp only [fieldsOk, Bool.and_eq_true] at hk
    obtain ⟨⟨hS, ho⟩, hr⟩ := hk
    have ho : f.offset = o := Nat.eq_of_beq_eq_true ho
    have hS : f.type ∈ S := by simpa using hS
    have hle : ∀ (fs : List Field) (o : Nat), o ≤ sumF P fs o := by
      intro fs
      induction fs with
      | nil => exact fun o => Nat.le_refl _
      | cons f fs ih => exact fun o => Nat.le_trans (Nat.le_add_right _ _) (ih (o + P.cellsOf f.type))
    have hl' : o + vs.length = sumF P fs (o + P.cellsOf f.type) := hl
    have h0 := hle fs (o + P.cellsOf f.type)
    have hoff : ∀ (fs : List Field) (o : Nat), fieldsOk P S fs o = true → ∀ f ∈ fs, o ≤ f.offset := by
      intro fs
      induction fs with
      | nil => exact fun o _ f hf => by cases hf
      | cons f fs ih =>
        intro o hk g hg
        simp only [fieldsOk, Bool.and_eq_true] at hk
        rcases List.mem_cons.1 hg with rfl | hg
        · exact Nat.le_of_eq (Nat.eq_of_beq_eq_true hk.1.2).symm
        · exact Nat.le_trans (Nat.le_add_right _ _) (ih _ hk.2 g hg)
    have h1 := hf f List.mem_cons_self
    rw [ho, Nat.sub_self, List.drop_zero] at h1
    obtain ⟨β1, M1, a, hO1, hb1, hx1, hd1, ht1⟩ := hT _ _ hS h1 β M hO
    obtain ⟨β2, M2, b, hO2, hb2, hx2, hd2, ht2⟩ := open_fields hT fs (o + P.cellsOf f.type) (vs.drop (P.cellsOf f.type)) hr (by rw [List.length_drop]; omega) (fun g hg => by
      have := hf g (List.mem_cons_of_mem _ hg)
      have hge := hoff fs _ hr g hg
      rw [List.drop_drop, show P.cellsOf f.type + (g.offset - (o + P.cellsOf f.type)) = g.offset - o from by omega]
      exact this) β1 M1 hO1
    refine ⟨β2, M2, a ++ b, hO2, hb1.trans hb2, hx1.trans hx2, ?_, a, b, rfl, Typed.ext hx2 ht1, ht2⟩
    have := (hd1.mono hb2).append hd2
    rwa [List.take_append_drop] at this
theorem open_cells {T : TypeId → List Value → Prop} {n : Nat} {e : TypeId} (hT : ∀ vs, T e vs → OpenAs P w n e vs) : ∀ (m : Nat) (vs : List Value), vs.length = m * P.cellsOf e → (∀ i, i < m → T e ((vs.drop (i * P.cellsOf e)).take (P.cellsOf e))) →
    ∀ β M, Opened P w β M → ∃ β' M' cs, Opened P w β' M' ∧ β.le β' ∧ Ext M M' ∧ DenL β' cs vs ∧ TypedN (Typed P M' n) e m cs
  | 0, vs, hl, hf, β, M, hO => by
    have : vs = [] := List.length_eq_zero_iff.1 (by rw [hl, Nat.zero_mul])
    subst this
    exact ⟨β, M, [], hO, .refl β, .refl M, .nil β, rfl⟩
  | m + 1, vs, hl, hf, β, M, hO => by
    have h1 := hf 0 (Nat.succ_pos _)
    rw [Nat.zero_mul, List.drop_zero] at h1
    rw [Nat.succ_mul] at hl
    obtain ⟨β1, M1, a, hO1, hb1, hx1, hd1, ht1⟩ := hT _ h1 β M hO
    obtain ⟨β2, M2, b, hO2, hb2, hx2, hd2, ht2⟩ := open_cells hT m (vs.drop (P.cellsOf e)) (by rw [List.length_drop]; omega) (fun i hi => by
      have := hf (i + 1) (by omega)
      rw [List.drop_drop, show P.cellsOf e + i * P.cellsOf e = (i + 1) * P.cellsOf e from by rw [Nat.succ_mul]; omega]
      exact this) β1 M1 hO1
    refine ⟨β2, M2, a ++ b, hO2, hb1.trans hb2, hx1.trans hx2, ?_, a, b, rfl, Typed.ext hx2 ht1, ht2⟩
    have := (hd1.mono hb2).append hd2
    rwa [List.take_append_drop] at this
theorem open_elems {n L : Nat} {e : TypeId} {a : Addr} (hT : ∀ i, i < L → OpenAs P w n e ((w.cells? 0 (a.add (i * P.cellsOf e)) (P.cellsOf e)).getD [])) : ∀ (m i : Nat), i + m ≤ L → ∀ β M, Opened P w β M → ∃ (β' : BM) (M' : MH) (es : List (List MV)), Opened P w β' M' ∧ β.le β' ∧ Ext M M' ∧ es.length = m ∧ (∀ x ∈ es, Typed P M' n e x) ∧ ∀ j x, es[j]? = some x → DenL β' x ((w.cells? 0 (a.add ((i + j) * P.cellsOf e)) (P.cellsOf e)).getD [])
  | 0, i, _, β, M, hO => ⟨β, M, [], hO, .refl β, .refl M, rfl, fun x hx => (by cases hx), fun j x hj => (by simp at hj)⟩
  | m + 1, i, hL, β, M, hO => by
    obtain ⟨β1, M1, c, hO1, hb1, hx1, hd1, ht1⟩ := hT i (by omega) β M hO
    obtain ⟨β2, M2, es, hO2, hb2, hx2, hl2, ht2, hd2⟩ := open_elems hT m (i + 1) (by omega) β1 M1 hO1
    refine ⟨β2, M2, c :: es, hO2, hb1.trans hb2, hx1.trans hx2, by rw [List.length_cons, hl2], fun x hx => ?_, fun j x hj => ?_⟩
    · rcases List.mem_cons.1 hx with rfl | hx
      · exact Typed.ext hx2 ht1
      · exact ht2 x hx
    · cases j with
      | zero =>
        simp only [List.getElem?_cons_zero, Option.some.injEq] at hj
        subst hj
        exact hd1.mono hb2
      | succ j =>
        rw [show i + (j + 1) = i + 1 + j from by omega]
        exact hd2 j x (by simpa using hj)
theorem add_at (a : Addr) (k : Nat) (h : a.spot = none) : a.add k = ⟨a.block, a.off + k, none⟩ := by
  obtain ⟨b, o, s⟩ := a
  simp only at h
  subst h
  unfold Addr.add
  split
  · rename_i hk; subst hk; rfl
  · rfl
theorem spot_none {a : Addr} {v : Value} (h : w.cell? a = some v) : a.spot = none := by
  obtain ⟨B, o, sp⟩ := a
  cases sp with
  | none => rfl
  | some q =>
    simp only [World.cell?, Option.isSome_some, if_true] at h
    split at h <;> simp at h
theorem Sized.at {sz : Nat} : ∀ {es : List (List MV)} {i : Nat} {x : MV}, Sized sz es → es.flatten[i]? = some x → ∃ j r c, i = j * sz + r ∧ r < sz ∧ es[j]? = some c ∧ c[r]? = some x
  | [], i, x, hs, h => by simp at h
  | e :: es, i, x, hs, h => by
    have he : e.length = sz := hs e List.mem_cons_self
    rw [List.flatten_cons] at h
    by_cases hi : i < e.length
    · rw [List.getElem?_append_left hi] at h
      exact ⟨0, i, e, by omega, by omega, rfl, h⟩
    · rw [List.getElem?_append_right (by omega)] at h
      obtain ⟨j, r, c, h1, h2, h3, h4⟩ := Sized.at (fun y hy => hs y (List.mem_cons_of_mem _ hy)) h
      exact ⟨j + 1, r, c, by rw [Nat.succ_mul]; omega, h2, by simpa using h3, h4⟩
theorem open_any {S : List TypeId} (hS : Closed P S) : ∀ (n : Nat) (t : TypeId) (vs : List Value) (x : DataW H × List MemPlace), t ∈ S → DataW.trod enc P w 0 (fun _ => true) held n t vs = some x → OpenAs P w n t vs
  | 0, t, vs, x, ht, h => by simp [DataW.trod] at h
  | n + 1, t, vs, x, ht, h => by
    have ih : ∀ t vs x, t ∈ S → DataW.trod enc P w 0 (fun _ => true) held n t vs = some x → OpenAs P w n t vs := open_any hS n
    have hk := hS t ht
    unfold typeOk at hk
    intro β M hO
    cases hu : P.underlying t with
    | none => rw [hu] at hk; cases hk
    | some d =>
      rw [hu] at hk
      cases d <;> simp only [Bool.and_eq_true] at hk <;> first | (cases hk; done) | skip
      · obtain ⟨b, rfl, _⟩ := DataW.trod_bool hu h
        exact ⟨β, M, [.b b], hO, .refl β, .refl M, .cons (.b b) (.nil β), by simp only [Typed, hu]; exact ⟨b, rfl⟩⟩
      · obtain ⟨z, rfl, _, hz⟩ := DataW.trod_int hu h
        exact ⟨β, M, [.i _ z], hO, .refl β, .refl M, .cons (.i _ z) (.nil β), by simp only [Typed, hu]; exact ⟨z, rfl, hz⟩⟩
      · obtain ⟨s, rfl, _, hs⟩ := DataW.trod_string hu h
        exact ⟨β, M, [.s s], hO, .refl β, .refl M, .cons (.s s) (.nil β), by simp only [Typed, hu]; exact ⟨s, rfl, hs⟩⟩
      · rename_i e
        obtain ⟨⟨hc, hz⟩, h1⟩ := hk
        have hc : e ∈ S := by simpa using hc
        have hz : 0 < P.cellsOf e := Nat.le_of_ble_eq_true hz
        rcases DataW.trod_slice hu h with ⟨rfl, _⟩ | ⟨a, len, cap, elems, rest, q, e1, rfl, _, hb, hl, hm, hlen, hel, hsp, hns⟩
        · exact ⟨β, M, [.nils], hO, .refl β, .refl M, .cons .nils (.nil β), by simp only [Typed, hu]; exact ⟨.nils, [], rfl, ⟨fun x hx => (by cases hx), .inl ⟨rfl, rfl⟩⟩, Nat.zero_le _, fun x hx => (by cases hx)⟩⟩
        injection e1 with e1
        subst e1
        have hone : ∀ i, i < len → ∃ cs, w.cells? 0 (a.add (i * P.cellsOf e)) (P.cellsOf e) = some cs ∧ OpenAs P w n e cs := fun i hi => by
          have := hel i hi
          rw [List.getElem?_eq_getElem (by omega), Option.bind_eq_some_iff] at this
          obtain ⟨cs, g1, g2⟩ := this
          exact ⟨cs, g1, ih e cs _ hc g2⟩
        have hcap : 0 < cap → a.spot = none ∧ a.block < w.heap.size := fun hcap => by
          have hfirst : ∃ cs, w.cells? 0 a (P.cellsOf e) = some cs := by
            by_cases h0 : 0 < len
            · obtain ⟨cs, g, _⟩ := hone 0 h0
              rw [Nat.zero_mul] at g
              exact ⟨cs, g⟩
            · have := (hsp rfl).2 0 (by omega)
              rw [List.getElem?_eq_getElem (by have := (hsp rfl).1; omega), Option.bind_eq_some_iff] at this
              obtain ⟨cs, g, _⟩ := this
              rw [show len + 0 = 0 from by omega, Nat.zero_mul] at g
              exact ⟨cs, g⟩
          obtain ⟨cs, g⟩ := hfirst
          obtain ⟨_, gl, gat⟩ := World.cells?_some g
          have g0 := gat 0 hz
          have : cs[0]? = some cs[0] := List.getElem?_eq_getElem (by omega)
          rw [this] at g0
          exact ⟨spot_none (a := a) g0, World.block_lt_of_cell? w a g0⟩
        obtain ⟨β1, M1, es, hO1, hb1, hx1, hl1, ht1, hd1⟩ := open_elems (P := P) (w := w) (n := n) (L := len) (e := e) (a := a) (fun i hi => by
          obtain ⟨cs, g1, g2⟩ := hone i hi
          rw [g1]
          exact g2) len 0 (by omega) β M hO
        have hsz : Sized (P.cellsOf e) es := fun x hx => by
          obtain ⟨j, hj, rfl⟩ := List.mem_iff_getElem.1 hx
          obtain ⟨cs, g1, g2⟩ := hone j (by omega)
          have := hd1 j _ (List.getElem?_eq_getElem hj)
          rw [Nat.zero_add, g1] at this
          rw [this.1]
          exact (World.cells?_some g1).2.1
        have hcell : ∀ i x, cget (ofL es.flatten 0) i = some x → ∃ v, w.cell? ⟨a.block, a.off + i, none⟩ = some v ∧ Den β1 x v := fun i x hx => by
          rw [cget_ofL, if_pos (Nat.zero_le _), Nat.sub_zero] at hx
          obtain ⟨j, r, c, rfl, hr, hj, hcr⟩ := hsz.at hx
          have hjl : j < len := by have := (List.getElem?_eq_some_iff.1 hj).1; omega
          obtain ⟨cs, g1, g2⟩ := hone j hjl
          have hd := hd1 j c hj
          rw [Nat.zero_add, g1] at hd
          obtain ⟨v, g3, g4⟩ := hd.2 r x hcr
          obtain ⟨_, gl, gat⟩ := World.cells?_some g1
          have g5 := gat r hr
          have hsp0 := (hcap (by omega)).1
          rw [add_at a _ hsp0, add_at _ _ rfl] at g5
          rw [← Nat.add_assoc]
          exact ⟨v, g5.trans g3, g4⟩
        by_cases h0 : 0 < cap
        · obtain ⟨hsp0, hblk⟩ := hcap h0
          obtain ⟨β2, hO2, hb2, hβ⟩ := hO1.push (P.cellsOf e) (ofL es.flatten 0) ⟨a.block, a.off, cap⟩ hblk hcell
          refine ⟨β2, _, [.sl M1.n 0 len 0], hO2, hb1.trans hb2, hx1.trans (.push M1 _), .cons (.sl M1.n 0 len 0 _ a hβ (by simpa using hl) fun _ => ?_) (.nil _), ?_⟩
          · obtain ⟨b, o, sp⟩ := a
            simp only at hsp0
            subst hsp0
            rfl
          · simp only [Typed, hu]
            refine ⟨_, es, rfl, ⟨hsz, .inr ⟨M1.n, 0, 0, true, _, _, by rw [hl1], push_new _, Nat.lt_succ_self _, at_ofL _⟩⟩, by rw [hl1]; omega, fun x hx => Typed.ext (.push M1 _) (ht1 x hx)⟩
        · have hc0 : cap = 0 := by omega
          have hl0 : len = 0 := by omega
          subst hc0 hl0
          have he0 : es = [] := List.length_eq_zero_iff.1 hl1
          subst he0
          rcases hO1.zero with hw | ⟨z1, z2, z3⟩
          · obtain ⟨β2, hO2, hb2, hβ⟩ := hO1.push (P.cellsOf e) (ofL [] 0) ⟨0, 0, 0⟩ hw (fun i x hx => by rw [cget_ofL] at hx; simp at hx)
            refine ⟨β2, _, [.sl M1.n 0 0 0], hO2, hb1.trans hb2, hx1.trans (.push M1 _), .cons (.sl M1.n 0 0 0 _ a hβ (Nat.le_refl _) fun h => absurd h (Nat.lt_irrefl _)) (.nil _), ?_⟩
            simp only [Typed, hu]
            exact ⟨_, [], rfl, ⟨hsz, .inr ⟨M1.n, 0, 0, true, _, _, rfl, push_new _, Nat.lt_succ_self _, at_ofL _⟩⟩, Nat.zero_le _, fun x hx => (by cases hx)⟩
          · refine ⟨β1, M1, [.sl 0 0 0 0], hO1, hb1, hx1, .cons (.sl 0 0 0 0 ⟨0, 0, 0⟩ a z3 (Nat.le_refl _) fun h => absurd h (Nat.lt_irrefl _)) (.nil _), ?_⟩
            simp only [Typed, hu]
            exact ⟨_, [], rfl, ⟨hsz, .inr ⟨0, 0, 0, true, 0, .lf, rfl, z1, z2, .nil _ _⟩⟩, Nat.zero_le _, fun x hx => (by cases hx)⟩
      · rename_i m e
        obtain ⟨hc, hz⟩ := hk
        obtain ⟨xs, q, e1, _, hl, hlen, hf⟩ := DataW.trod_array hu h
        injection e1 with e1
        subst e1
        have hz := Nat.eq_of_beq_eq_true hz
        have hc : e ∈ S := by simpa using hc
        obtain ⟨β', M', cs, k1, k2, k3, k4, k5⟩ := open_cells (P := P) (w := w) (n := n) (e := e) (T := fun t vs => ∃ x, DataW.trod enc P w 0 (fun _ => true) held n t vs = some x) (fun vs ⟨x, hx⟩ => ih e vs x hc hx) m vs (by rw [hl, hz]) (fun i hi => by
          have := hf i hi
          rw [List.getElem?_eq_getElem (by omega)] at this
          exact ⟨_, this⟩) β M hO
        exact ⟨β', M', cs, k1, k2, k3, k4, by simp only [Typed, hu]; exact k5⟩
      · rename_i fs
        obtain ⟨hf, hz⟩ := hk
        have hz := Nat.eq_of_beq_eq_true hz
        obtain ⟨xs, q, e1, _, hl, hlen, hg⟩ := DataW.trod_struct hu h
        injection e1 with e1
        subst e1
        obtain ⟨β', M', cs, k1, k2, k3, k4, k5⟩ := open_fields (P := P) (w := w) (n := n) (S := S) (T := fun t vs => ∃ x, DataW.trod enc P w 0 (fun _ => true) held n t vs = some x) (fun t vs ht ⟨x, hx⟩ => ih t vs x ht hx) fs.toList 0 vs hf (by rw [Nat.zero_add, hl, hz]) (fun f hf => by
          obtain ⟨i, hi, rfl⟩ := List.mem_iff_getElem.1 hf
          have := hg i fs.toList[i] (by simp)
          rw [List.getElem?_eq_getElem (by rw [hlen]; simpa using hi)] at this
          rw [Nat.sub_zero]
          exact ⟨_, this⟩) β M hO
        exact ⟨β', M', cs, k1, k2, k3, k4, by simp only [Typed, hu]; exact k5⟩
end Go.Proofs.Ytcajphnjiepbaaa.Ev
set_option linter.unusedSimpArgs false
set_option linter.unusedVariables false
namespace Go.Proofs.Ytcajphnjiepbaaa.Ev
open Go Go.Deep Go.RowKit Go.WideShapes Kit
def ArgTyped (P : Program) (M : MH) (t : TypeId) (m : MV) : Prop := ∃ n cs, Typed P M n t cs ∧ match P.underlying t with
  | some (.struct _) => m = .ag cs
  | some (.array _ _) => m = .ag cs
  | _ => cs = [m]
def ArgsTyped (P : Program) (M : MH) : List TypeId → List MV → Prop
  | [], ms => ms = []
  | t :: ts, ms => ∃ m r, ms = m :: r ∧ ArgTyped P M t m ∧ ArgsTyped P M ts r
theorem ArgTyped.ext {P : Program} {M M' : MH} (k : Ext M M') {t : TypeId} {m : MV} (h : ArgTyped P M t m) : ArgTyped P M' t m :=
  let ⟨n, cs, h1, h2⟩ := h
  ⟨n, cs, Typed.ext k h1, h2⟩
variable {H : Type} {enc : TypeId × Value → H} {P : Program} {w : World}
theorem open_arg {S : List TypeId} (hS : Closed P S) {t : TypeId} {v : Value} {d : DataW H} {ps : List MemPlace} {r : Reach} {base : Nat} (ht : t ∈ S) (h : DataW.Trod enc P w 0 (fun _ => true) true t v d ps) (hv : Value.okWide P w r base t v) :
    ∀ β M, Opened P w β M → ∃ β' M' m, Opened P w β' M' ∧ β.le β' ∧ Ext M M' ∧ Den β' m v ∧ ArgTyped P M' t m := by
  intro β M hO
  obtain ⟨n, hn⟩ := h
  obtain ⟨β', M', cs, h1, h2, h3, h4, h5⟩ := open_any hS n t v.cells.toList _ ht hn β M hO
  have hk := hS t ht
  unfold typeOk at hk
  have one : (∀ xs, v ≠ .agg xs) → (∀ cs, Typed P M' n t cs → ∃ x, cs = [x]) → ∃ m, Den β' m v ∧ cs = [m] := fun hne hc => by
    obtain ⟨x, rfl⟩ := hc cs h5
    have hcell : v.cells.toList = [v] := by
      cases v <;> first | rfl | exact absurd rfl (hne _)
    rw [hcell] at h4
    obtain ⟨v', ws, e, hd, hr⟩ := h4.inv
    injection e with e1 e2
    subst e1
    exact ⟨x, hd, rfl⟩
  cases n with
  | zero => exact h5.elim
  | succ n =>
  cases hu : P.underlying t with
  | none => rw [hu] at hk; cases hk
  | some k =>
    rw [hu] at hk
    cases k <;> simp only [Bool.and_eq_true] at hk <;> first | (cases hk; done) | skip
    · obtain ⟨b, rfl⟩ := okWide_bool hu hv
      obtain ⟨m, hm, rfl⟩ := one (fun xs e => by cases e) fun cs hc => by simp only [Typed, hu] at hc; obtain ⟨b, rfl⟩ := hc; exact ⟨_, rfl⟩
      exact ⟨β', M', m, h1, h2, h3, hm, n + 1, [m], h5, by simp only [hu]⟩
    · obtain ⟨b, rfl⟩ := okWide_int hu hv
      obtain ⟨m, hm, rfl⟩ := one (fun xs e => by cases e) fun cs hc => by simp only [Typed, hu] at hc; obtain ⟨b, rfl, _⟩ := hc; exact ⟨_, rfl⟩
      exact ⟨β', M', m, h1, h2, h3, hm, n + 1, [m], h5, by simp only [hu]⟩
    · obtain ⟨b, rfl⟩ := okWide_string hu hv
      obtain ⟨m, hm, rfl⟩ := one (fun xs e => by cases e) fun cs hc => by simp only [Typed, hu] at hc; obtain ⟨b, rfl, _⟩ := hc; exact ⟨_, rfl⟩
      exact ⟨β', M', m, h1, h2, h3, hm, n + 1, [m], h5, by simp only [hu]⟩
    · obtain ⟨a, l, c, rfl⟩ := okWide_slice hu hv
      obtain ⟨m, hm, rfl⟩ := one (fun xs e => by cases e) fun cs hc => by simp only [Typed, hu] at hc; obtain ⟨v, es, rfl, _⟩ := hc; exact ⟨_, rfl⟩
      exact ⟨β', M', m, h1, h2, h3, hm, n + 1, [m], h5, by simp only [hu]⟩
    · unfold Value.okWide at hv
      rw [hu] at hv
      obtain ⟨xs, rfl, _⟩ := hv
      exact ⟨β', M', .ag cs, h1, h2, h3, DenL.agg h4, n + 1, cs, h5, by simp only [hu]⟩
    · obtain ⟨xs, rfl, _⟩ := okWide_struct hu hv
      exact ⟨β', M', .ag cs, h1, h2, h3, DenL.agg h4, n + 1, cs, h5, by simp only [hu]⟩
theorem open_args {S : List TypeId} (hS : Closed P S) {r : Reach} {base : Nat} : ∀ (ts : List TypeId) (vs : List Value) (ds : List (DataW H)) (ps : List MemPlace), (∀ t ∈ ts, t ∈ S) → DataW.TrodAll enc P w 0 (fun _ => true) true ts vs ds ps → (∀ (j : Nat) t v, ts[j]? = some t → vs[j]? = some v → Value.okWide P w r base t v) →
    ∀ β M, Opened P w β M → ∃ β' M' ms, Opened P w β' M' ∧ β.le β' ∧ Ext M M' ∧ DenL β' ms vs ∧ ArgsTyped P M' ts ms
  | [], [], [], ps, hin, h, hv, β, M, hO => ⟨β, M, [], hO, .refl β, .refl M, .nil β, rfl⟩
  | t :: ts, v :: vs, d :: ds, ps, hin, h, hv, β, M, hO => by
    obtain ⟨p, q, h1, h2, _⟩ := h
    obtain ⟨β1, M1, m, a1, a2, a3, a4, a5⟩ := open_arg hS (hin t List.mem_cons_self) h1 (hv 0 t v rfl rfl) β M hO
    obtain ⟨β2, M2, ms, b1, b2, b3, b4, b5⟩ := open_args hS ts vs ds q (fun t ht => hin t (List.mem_cons_of_mem _ ht)) h2 (fun j t v h h' => hv (j + 1) t v (by simpa using h) (by simpa using h')) β1 M1 a1
    exact ⟨β2, M2, m :: ms, b1, a2.trans b2, a3.trans b3, .cons (a4.mono b2) b4, m, ms, rfl, a5.ext b3, b5⟩
theorem law_in (hm : P.follows .mixedOrders = true) {fns : Nat → Option IFn} (hfns : ∀ g fn, fns g = some fn → FitsF P g fn) {S : List TypeId} (hS : Closed P S) {r : Reach} {base g : Nat} {ts : List TypeId} {vs : List Value} {ds : List (DataW H)} {ps : List MemPlace} (hin : ∀ t ∈ ts, t ∈ S)
    (h : DataW.TrodAll enc P w 0 (fun _ => true) true ts vs ds ps) (hv : ∀ (j : Nat) t v, ts[j]? = some t → vs[j]? = some v → Value.okWide P w r base t v) {β0 : BM} {M0 : MH} (hO : Opened P w β0 M0)
    (law : ∀ M ms, Ext M0 M → M.lo ≤ M.n → ArgsTyped P M ts ms → Cp fns g ms M fun m _ => m = .b true) :
    Calls P g vs.toArray w fun e w' => e = .returned (.bool true) ∧ Kept w w' := by
  obtain ⟨β, M, ms, h1, h2, h3, h4, h5⟩ := open_args hS ts vs ds ps hin h hv β0 M0 hO
  obtain ⟨m, M', h6, rfl⟩ := law M ms h3 h1.lo h5
  obtain ⟨n, h7⟩ := callA_ex h6
  refine (calls_run_at hm hfns n g ms vs (.b true) β M M' w h1.glob h1.inv h1.ro h7 h4).mono ?_
  rintro e w' ⟨v, β', rfl, hd, hk⟩
  cases hd
  exact ⟨rfl, hk⟩
theorem callF_inv {fns : Nat → Option IFn} {n g : Nat} {fn : IFn} {args : List MV} {M M' : MH} {m : MV} (hg : fns g = some fn) (h : callF fns n g args M = some (m, M')) : args.length ≤ fn.sz ∧ Wp fns fn.body (argsF args 0 .lf) M (retQ fn fun m' M3 => m' = m ∧ M3 = M') := by
  unfold callF at h
  rw [hg] at h
  simp only at h
  cases hb : Nat.ble args.length fn.sz with
  | false => rw [hb] at h; cases h
  | true =>
    rw [hb] at h
    simp only [cond_true] at h
    refine ⟨Nat.le_of_ble_eq_true hb, ?_⟩
    cases h1 : run fns n fn.body (argsF args 0 .lf) M with
    | none => rw [h1] at h; cases h
    | some x =>
      obtain ⟨ex, f, M1⟩ := x
      rw [h1] at h
      refine ⟨n, ex, f, M1, h1, ?_⟩
      cases ex with
      | exit i => cases h
      | norm =>
        simp only at h
        cases h2 : resL f M1 fn.res with
        | none => rw [h2] at h; cases h
        | some l =>
          rw [h2] at h
          injection h with h; injection h with h3 h4
          exact ⟨l, h2, h3, h4⟩
      | ret =>
        simp only at h
        cases h2 : resL f M1 fn.res with
        | none => rw [h2] at h; cases h
        | some l =>
          rw [h2] at h
          injection h with h; injection h with h3 h4
          exact ⟨l, h2, h3, h4⟩
theorem Step.of_kept {β : BM} {M : MH} {w w' : World} (h : Inv β M w) (k : Kept w w') : Step β β M M w w' := by
  obtain ⟨k1, k2, k3, k4, k5⟩ := k
  refine ⟨⟨h.fresh, fun id B e => (h.old id B e).imp (fun x => Nat.lt_of_lt_of_le x k4) (fun x => x), fun id o ho => h.keep (.refl β) (fun b hb => k5 b hb) ho, h.inj⟩, .refl β, k4, k1, k2, k3, fun b hb _ => k5 b hb, fun b hb => .inl hb, Nat.le_refl _, rfl, fun _ _ => rfl, fun _ _ h => h, fun _ _ => rfl, fun _ _ h _ => h⟩
def Ftrue : IFn := ⟨0, [.tmp (.k1 .d0)], .reg [⟨some (.k1 .d0), none, .mov (.c (.b true))⟩]⟩
theorem sem_true {g : Nat} {fn : Func} {c : Code} (h1 : P.funcs[g]? = some fn) (h2 : (fn.name == "runtime.NumGoroutine") = false) (h3 : fn.body = some c) (h : ∀ w, Calls P g #[] w fun e w' => e = .returned (.bool true) ∧ Kept w w') : SemF P g Ftrue := by
  intro fns n hg _ args M M' m hc
  refine ⟨⟨fn, c, h1, h2, h3⟩, fun β w vs hgl hi hd => ?_⟩
  obtain ⟨ha, hW⟩ := callF_inv hg hc
  have ha : args = [] := List.length_eq_zero_iff.1 (Nat.le_zero.1 ha)
  subst ha
  cases hd.inv0
  have hW : Wp fns (.reg [⟨some (.k1 .d0), none, .mov (.c (.b true))⟩]) (argsF [] 0 .lf) M (retQ Ftrue fun m' M3 => m' = m ∧ M3 = M') := hW
  simp only [Wp_reg_iff, Wl_op_iff, Wl_nil_iff, bindP_some, ev_mov, ev_c, setD_some, ev_args, retQ_norm, show Ftrue.res = [.tmp (.k1 .d0)] from rfl, resL_1, res_set, if_true] at hW
  obtain ⟨rfl, rfl⟩ := hW
  refine (h w).mono ?_
  rintro e w' ⟨rfl, hk⟩
  exact ⟨_, β, rfl, .b true, Step.of_kept hi hk⟩
noncomputable def Mz : MH := ⟨T.set (path 0) (some thinO) .lf, 1, 0⟩
def Bz : BM := fun id => if id = 0 then some ⟨0, 0, 0⟩ else none
theorem Mz_get (id : Nat) : Mz.get id = if id = 0 then some thinO else none := by
  unfold Mz MH.get
  show (T.set (path 0) (some thinO) .lf).get (path id) = _
  rw [T.get_set]
  by_cases h : id = 0
  · subst h; simp
  · have hp : ¬ path 0 = path id := fun e => h (path_inj e).symm
    simp [h, hp, T.get_lf]
theorem opened_none (hg : ∀ g, gtab g = none) : Opened P w Bz Mz := by
  refine ⟨⟨fun id hid => ?_, fun id B hB => ?_, fun id o ho => ?_, fun id id' o o' B B' ho _ hr => ?_⟩, fun g id cap e => ?_, fun id o ho => ?_, Nat.zero_le _, .inr ⟨by rw [Mz_get, if_pos rfl], Nat.one_pos, rfl⟩⟩
  · have : (1 : Nat) ≤ id := hid
    unfold Bz; rw [if_neg (by omega)]
  · unfold Bz at hB
    split at hB
    · rename_i h
      exact .inr ⟨h, by rw [Mz_get, if_pos rfl]⟩
    · cases hB
  · rw [Mz_get] at ho
    split at ho
    · rename_i e
      subst e
      injection ho with ho
      subst ho
      exact ⟨⟨0, 0, 0⟩, rfl, .thin _ _ _⟩
    · cases ho
  · rw [Mz_get] at ho
    split at ho
    · injection ho with ho
      subst ho
      cases hr
    · cases ho
  · rw [hg g] at e; cases e
  · rw [Mz_get] at ho
    split at ho
    · injection ho with ho
      subst ho
      rfl
    · cases ho
end Go.Proofs.Ytcajphnjiepbaaa.Ev
set_option linter.unusedSimpArgs false
set_option linter.unusedVariables false
namespace Go.Proofs.Ytcajphnjiepbaaa.Ev
open Go
theorem At.set {c : T MV} {off : Nat} {l : List MV} (h : At c off l) (j : Nat) (x : MV) (hj : j < l.length) : At (setN [x] (off + j) c) off (l.set j x) := fun i y hi => by
  rw [cget_setN]
  rw [List.getElem?_set] at hi
  by_cases e : j = i
  · subst e
    rw [if_pos rfl, if_pos hj] at hi
    rw [if_pos ⟨Nat.le_refl _, by simp⟩, Nat.sub_self]
    exact hi
  · rw [if_neg e] at hi
    rw [if_neg (by simp only [List.length_singleton]; omega)]
    exact h i y hi
theorem At.set' {c : T MV} {off k : Nat} {l : List MV} (h : At c off l) (j : Nat) (x : MV) (hj : j < l.length) (hk : k = off + j) : At (setN [x] k c) off (l.set j x) := by subst hk; exact h.set j x hj
theorem flat_set {sz : Nat} : ∀ {es : List (List MV)} {i o : Nat} {e : List MV} {x : MV}, Sized sz es → es[i]? = some e → o < sz → es.flatten.set (i * sz + o) x = (es.set i (e.set o x)).flatten
  | [], i, o, e, x, hs, he, ho => by simp at he
  | a :: es, 0, o, e, x, hs, he, ho => by
    simp only [List.getElem?_cons_zero, Option.some.injEq] at he
    subst he
    have hl : a.length = sz := hs a List.mem_cons_self
    rw [List.flatten_cons, List.set_cons_zero, List.flatten_cons, Nat.zero_mul, Nat.zero_add, List.set_append_left _ _ (by omega)]
  | a :: es, i + 1, o, e, x, hs, he, ho => by
    have hl : a.length = sz := hs a List.mem_cons_self
    rw [List.flatten_cons, List.set_cons_succ, List.flatten_cons, List.set_append_right _ _ (by rw [hl, Nat.succ_mul]; omega), hl, Nat.succ_mul, show i * sz + sz + o - sz = i * sz + o from by omega]
    rw [flat_set (fun y hy => hs y (List.mem_cons_of_mem _ hy)) (by simpa using he) ho]
theorem Sized.set {sz : Nat} {es : List (List MV)} (h : Sized sz es) (i : Nat) {e : List MV} (he : e.length = sz) : Sized sz (es.set i e) := fun x hx => by
  rcases List.mem_or_eq_of_mem_set hx with h1 | h1
  · exact h x h1
  · rw [h1]; exact he
theorem At.elem_set {c : T MV} {sz : Nat} {es : List (List MV)} (hs : Sized sz es) (h : At c 0 es.flatten) {i o : Nat} {e : List MV} {x : MV} (he : es[i]? = some e) (ho : o < sz) {k : Nat} (hk : k = i * sz + o) : At (setN [x] k c) 0 (es.set i (e.set o x)).flatten := by
  rw [← flat_set hs he ho]
  have hi := (List.getElem?_eq_some_iff.1 he).1
  refine h.set' _ x ?_ (by rw [hk, Nat.zero_add])
  rw [hs.flat]
  have : (i + 1) * sz ≤ es.length * sz := Nat.mul_le_mul_right sz hi
  rw [Nat.succ_mul] at this
  omega
theorem has_at {c : T MV} {off : Nat} {l : List MV} (h : At c off l) {k n : Nat} (hk : off ≤ k) (hn : k + n ≤ off + l.length) : hasB c n k = true := hasB_of fun j hj => by
  rw [show k + j = off + (k - off + j) from by omega, h (k - off + j) _ (List.getElem?_eq_getElem (by omega))]
  rfl
theorem OwnRow.keep {lo : Nat} {M M' : MH} {sz : Nat} {v : MV} {es : List (List MV)} (h : OwnRow lo M sz v es) (hn : M.n ≤ M'.n) (k : ∀ a b n d, v = .sl a b n d → M'.get a = M.get a) : OwnRow lo M' sz v es := by
  obtain ⟨hs, h | ⟨id, c, h1, h2, h3, h4, h5⟩⟩ := h
  · exact ⟨hs, .inl h⟩
  · exact ⟨hs, .inr ⟨id, c, h1, (k _ _ _ _ h1).trans h2, h3, Nat.lt_of_lt_of_le h4 hn, h5⟩⟩
end Go.Proofs.Ytcajphnjiepbaaa.Ev
set_option linter.unusedSimpArgs false
set_option linter.unusedVariables false
namespace Go.Proofs.Ytcajphnjiepbaaa.Ev
open Go
inductive Rx where
  | mk (op : Int) (a b c d : Int) (kids : List Rx)
def Rx.op : Rx → Int
  | .mk op _ _ _ _ _ => op
def Rx.kids : Rx → List Rx
  | .mk _ _ _ _ _ k => k
def Rx.lk : Rx → List Rx
  | .mk op _ _ _ _ k => if op = 2 ∨ op = 3 then k else if op = 4 ∨ op = 5 ∨ op = 6 then k.take 1 else []
mutual
def cnt : Rx → Nat
  | .mk op _ _ _ _ kids => if op = 1 then 1 else if op = 2 ∨ op = 3 then cntL kids else if op = 4 ∨ op = 5 ∨ op = 6 then cnt1 kids else 0
def cntL : List Rx → Nat
  | [] => 0
  | k :: r => cnt k + cntL r
def cnt1 : List Rx → Nat
  | [] => 0
  | k :: _ => cnt k
end
mutual
def deep : Rx → Nat
  | .mk op _ _ _ _ kids => (if op = 2 ∨ op = 3 then deepL kids else if op = 4 ∨ op = 5 ∨ op = 6 then deep1 kids else 0) + 1
def deepL : List Rx → Nat
  | [] => 0
  | k :: r => max (deep k) (deepL r)
def deep1 : List Rx → Nat
  | [] => 0
  | k :: _ => deep k
end
mutual
def wei : Rx → Nat
  | .mk _ _ _ _ _ kids => 2 + weiL kids
def weiL : List Rx → Nat
  | [] => 0
  | k :: r => wei k + weiL r
end
theorem lk_mk (op a b c d : Int) (k : List Rx) : (Rx.mk op a b c d k).lk = if op = 2 ∨ op = 3 then k else if op = 4 ∨ op = 5 ∨ op = 6 then k.take 1 else [] := rfl
theorem op_mk (op a b c d : Int) (k : List Rx) : (Rx.mk op a b c d k).op = op := rfl
theorem cnt_lk {x : Rx} (h : x.lk ≠ []) : cnt x = cntL x.lk := by
  obtain ⟨op, a, b, c, d, k⟩ := x
  unfold cnt
  rw [lk_mk] at h ⊢
  by_cases h2 : op = 2 ∨ op = 3
  · rw [if_pos h2] at h
    rw [if_pos h2, if_neg (by omega), if_pos h2]
  · rw [if_neg h2] at h
    by_cases h4 : op = 4 ∨ op = 5 ∨ op = 6
    · rw [if_pos h4] at h
      rw [if_neg h2, if_pos h4, if_neg (by omega), if_neg h2, if_pos h4]
      cases k with
      | nil => simp at h
      | cons x r => simp [cnt1, cntL]
    · rw [if_neg h4] at h
      exact (h rfl).elim
theorem cnt_leaf {x : Rx} (h : x.lk = []) : cnt x = if x.op = 1 then 1 else 0 := by
  obtain ⟨op, a, b, c, d, k⟩ := x
  unfold cnt
  rw [lk_mk] at h
  rw [show (if (Rx.mk op a b c d k).op = 1 then 1 else 0) = if op = 1 then 1 else 0 from rfl]
  by_cases h1 : op = 1
  · rw [if_pos h1, if_pos h1]
  · rw [if_neg h1, if_neg h1]
    by_cases h2 : op = 2 ∨ op = 3
    · rw [if_pos h2] at h
      rw [if_pos h2, h]; rfl
    · rw [if_neg h2] at h
      rw [if_neg h2]
      by_cases h4 : op = 4 ∨ op = 5 ∨ op = 6
      · rw [if_pos h4] at h
        rw [if_pos h4]
        cases k with
        | nil => rfl
        | cons x r => simp at h
      · rw [if_neg h4]
theorem deep_lk (x : Rx) : deep x = deepL x.lk + 1 := by
  obtain ⟨op, a, b, c, d, k⟩ := x
  rw [lk_mk]
  unfold deep
  by_cases h2 : op = 2 ∨ op = 3
  · rw [if_pos h2, if_pos h2]
  · rw [if_neg h2, if_neg h2]
    by_cases h4 : op = 4 ∨ op = 5 ∨ op = 6
    · rw [if_pos h4, if_pos h4]
      cases k with
      | nil => rfl
      | cons x r => simp [deep1, deepL]
    · rw [if_neg h4, if_neg h4]; rfl
theorem wei_lk (x : Rx) : weiL x.lk + 2 ≤ wei x := by
  obtain ⟨op, a, b, c, d, k⟩ := x
  rw [lk_mk]
  unfold wei
  split
  · omega
  · split
    · cases k with
      | nil => simp [weiL]
      | cons x r => simp [weiL]; omega
    · simp [weiL]
theorem cntL_app : ∀ (l r : List Rx), cntL (l ++ r) = cntL l + cntL r
  | [], r => by simp [cntL]
  | x :: l, r => by rw [List.cons_append, cntL, cntL, cntL_app l r]; omega
theorem deepL_app : ∀ (l r : List Rx), deepL (l ++ r) = max (deepL l) (deepL r)
  | [], r => by simp [deepL]
  | x :: l, r => by rw [List.cons_append, deepL, deepL, deepL_app l r]; omega
theorem weiL_drop : ∀ {l : List Rx} {i : Nat} {x : Rx}, l[i]? = some x → weiL (l.drop i) = wei x + weiL (l.drop (i + 1))
  | [], i, x, h => by simp at h
  | a :: l, 0, x, h => by simp at h; subst h; simp [weiL]
  | a :: l, i + 1, x, h => by simp at h; simpa using weiL_drop h
theorem wei_mem {l : List Rx} {i : Nat} {x : Rx} (h : l[i]? = some x) : wei x ≤ weiL l := by
  induction l generalizing i with
  | nil => simp at h
  | cons a l ih =>
    cases i with
    | zero => simp at h; subst h; rw [weiL]; omega
    | succ i => have := ih (i := i) (by simpa using h); rw [weiL]; omega
mutual
def NodeAt (M : MH) : Rx → Nat → Nat → Prop
  | .mk op a b c d kids, id, off => ∃ t kv, M.get id = some (.cs false 6 t) ∧ id < M.n ∧ At t off [.i .i64 op, .i .u64 a, .i .u64 b, .i .u64 c, .i .u64 d, kv] ∧ isSl kv = true ∧ slen kv = kids.length ∧ NodesAt M kids (sid kv) (soff kv)
def NodesAt (M : MH) : List Rx → Nat → Nat → Prop
  | [], _, _ => True
  | x :: r, id, off => NodeAt M x id off ∧ NodesAt M r id (off + 6)
end
structure Sub (M M' : MH) : Prop where
  n : M.n ≤ M'.n
  old : ∀ id, id < M.n → M'.get id = M.get id
theorem Ext.sub {M M' : MH} (k : Ext M M') : Sub M M' := ⟨k.n, k.old⟩
theorem Sub.lift (M : MH) : Sub M M.lift := ⟨Nat.le_refl _, fun _ _ => rfl⟩
theorem Sub.down (M : MH) (lo : Nat) : Sub M (M.down lo) := ⟨Nat.le_refl _, fun _ _ => rfl⟩
theorem Sub.trans {a b c : MH} (h : Sub a b) (k : Sub b c) : Sub a c := ⟨Nat.le_trans h.n k.n, fun j hj => (k.old j (Nat.lt_of_lt_of_le hj h.n)).trans (h.old j hj)⟩
theorem Sub.ext {a b : MH} (h : Sub a b) (e : b.lo = a.lo) : Ext a b := ⟨h.n, e, h.old⟩
theorem RowAt.sub {M M' : MH} {sz : Nat} {v : MV} {es : List (List MV)} (h : RowAt M sz v es) (k : Sub M M') : RowAt M' sz v es := by
  obtain ⟨hs, h | ⟨id, off, e, ro, s, c, h1, h2, h3, h4⟩⟩ := h
  · exact ⟨hs, .inl h⟩
  · exact ⟨hs, .inr ⟨id, off, e, ro, s, c, h1, (k.old id h3).trans h2, Nat.lt_of_lt_of_le h3 k.n, h4⟩⟩
mutual
theorem NodeAt.sub {M M' : MH} (k : Sub M M') : ∀ {x : Rx} {id off : Nat}, NodeAt M x id off → NodeAt M' x id off
  | .mk op a b c d kids, id, off, h => by
    unfold NodeAt at h ⊢
    obtain ⟨t, kv, h1, h2, h3, h4, h5, h6⟩ := h
    exact ⟨t, kv, (k.old id h2).trans h1, Nat.lt_of_lt_of_le h2 k.n, h3, h4, h5, NodesAt.sub k h6⟩
theorem NodesAt.sub {M M' : MH} (k : Sub M M') : ∀ {l : List Rx} {id off : Nat}, NodesAt M l id off → NodesAt M' l id off
  | [], id, off, h => trivial
  | x :: r, id, off, h => by
    unfold NodesAt at h ⊢
    exact ⟨NodeAt.sub k h.1, NodesAt.sub k h.2⟩
end
theorem NodeAt.ext {M M' : MH} (k : Ext M M') {x : Rx} {id off : Nat} (h : NodeAt M x id off) : NodeAt M' x id off := NodeAt.sub k.sub h
theorem NodesAt.ext {M M' : MH} (k : Ext M M') {l : List Rx} {id off : Nat} (h : NodesAt M l id off) : NodesAt M' l id off := NodesAt.sub k.sub h
theorem NodesAt.get {M : MH} : ∀ {l : List Rx} {id off i : Nat} {x : Rx}, NodesAt M l id off → l[i]? = some x → NodeAt M x id (off + i * 6)
  | [], id, off, i, x, h, hi => by simp at hi
  | a :: l, id, off, 0, x, h, hi => by
    unfold NodesAt at h
    simp at hi; subst hi; simpa using h.1
  | a :: l, id, off, i + 1, x, h, hi => by
    unfold NodesAt at h
    have := NodesAt.get (i := i) (x := x) h.2 (by simpa using hi)
    rwa [show off + 6 + i * 6 = off + (i + 1) * 6 from by omega] at this
theorem NodesAt.take {M : MH} : ∀ {l : List Rx} {id off : Nat} (n : Nat), NodesAt M l id off → NodesAt M (l.take n) id off
  | l, id, off, 0, h => by simp only [List.take_zero]; unfold NodesAt; trivial
  | [], id, off, n + 1, h => by simpa using h
  | a :: l, id, off, n + 1, h => by
    rw [List.take_succ_cons]
    unfold NodesAt at h ⊢
    exact ⟨h.1, NodesAt.take n h.2⟩
mutual
theorem NodeAt.uniq {M : MH} : ∀ {x y : Rx} {id off : Nat}, NodeAt M x id off → NodeAt M y id off → x = y
  | .mk op a b c d kids, .mk op' a' b' c' d' kids', id, off, h, h' => by
    unfold NodeAt at h h'
    obtain ⟨t, kv, h1, h2, h3, h4, h5, h6⟩ := h
    obtain ⟨t', kv', h1', h2', h3', h4', h5', h6'⟩ := h'
    obtain rfl : t = t' := by rw [h1] at h1'; injection h1' with e; injection e
    have e0 := (h3 0 _ rfl).symm.trans (h3' 0 _ rfl)
    have e1 := (h3 1 _ rfl).symm.trans (h3' 1 _ rfl)
    have e2 := (h3 2 _ rfl).symm.trans (h3' 2 _ rfl)
    have e3 := (h3 3 _ rfl).symm.trans (h3' 3 _ rfl)
    have e4 := (h3 4 _ rfl).symm.trans (h3' 4 _ rfl)
    have e5 := (h3 5 _ rfl).symm.trans (h3' 5 _ rfl)
    simp only [Option.some.injEq, MV.i.injEq, true_and] at e0 e1 e2 e3 e4 e5
    subst e0 e1 e2 e3 e4 e5
    rw [NodesAt.uniq (by rw [← h5, ← h5']) h6 h6']
theorem NodesAt.uniq {M : MH} : ∀ {l r : List Rx} {id off : Nat}, l.length = r.length → NodesAt M l id off → NodesAt M r id off → l = r
  | [], [], id, off, _, h, h' => rfl
  | [], _ :: _, id, off, e, h, h' => by simp at e
  | _ :: _, [], id, off, e, h, h' => by simp at e
  | x :: l, y :: r, id, off, e, h, h' => by
    unfold NodesAt at h h'
    rw [NodeAt.uniq h.1 h'.1, NodesAt.uniq (by simpa using e) h.2 h'.2]
end
end Go.Proofs.Ytcajphnjiepbaaa.Ev
set_option linter.unusedSimpArgs false
set_option linter.unusedVariables false
namespace Go.Proofs.Ytcajphnjiepbaaa.Ev
open Go
noncomputable def idK {α : Type} (h : T α) (id : Nat) : Option α := h.get (path id)
noncomputable def mkT (l : List (Nat × IFn)) : T IFn := List.rec (motive := fun _ => T IFn) .lf (fun x _ ih => T.set (path x.1) (some x.2) ih) l
theorem mkT_get : ∀ (l : List (Nat × IFn)) (g : Nat) (fn : IFn), (mkT l).get (path g) = some fn → (g, fn) ∈ l
  | [], g, fn, h => by cases (T.get_lf (α := IFn) (path g)).symm.trans h
  | (n, F) :: l, g, fn, h => by
    have e : mkT ((n, F) :: l) = T.set (path n) (some F) (mkT l) := rfl
    rw [e, T.get_set] at h
    by_cases hp : path n = path g
    · rw [if_pos hp] at h
      injection h with h
      rw [← h, path_inj hp]
      exact List.mem_cons_self
    · rw [if_neg hp] at h
      exact List.mem_cons_of_mem _ (mkT_get l g fn h)
theorem fits_of {P : Program} {l : List (Nat × IFn)} {t : T IFn} (ht : t = mkT l) (h : ∀ x ∈ l, FitsF P x.1 x.2) : ∀ g fn, idK t g = some fn → FitsF P g fn := fun g fn e => by
  subst ht
  unfold idK at e
  exact h (g, fn) (mkT_get l g fn e)
def q0 : Ky := .k1 .d0
def q1 : Ky := .k1 .d1
def q2 : Ky := .k1 .d2
def q3 : Ky := .k1 .d3
def q4 : Ky := .k1 .d4
def q5 : Ky := .k1 .d5
def q6 : Ky := .k1 .d6
def q7 : Ky := .k1 .d7
def q8 : Ky := .k1 .d8
def q9 : Ky := .k1 .d9
def q10 : Ky := .k1 .d10
def q11 : Ky := .k1 .d11
def q12 : Ky := .k1 .d12
def q13 : Ky := .k1 .d13
def q14 : Ky := .k1 .d14
def q15 : Ky := .k1 .d15
def q16 : Ky := .k2 .d1 .d0
def q17 : Ky := .k2 .d1 .d1
def q18 : Ky := .k2 .d1 .d2
def q19 : Ky := .k2 .d1 .d3
def q20 : Ky := .k2 .d1 .d4
def q21 : Ky := .k2 .d1 .d5
def q22 : Ky := .k2 .d1 .d6
def q23 : Ky := .k2 .d1 .d7
def q24 : Ky := .k2 .d1 .d8
def q25 : Ky := .k2 .d1 .d9
def q26 : Ky := .k2 .d1 .d10
def q27 : Ky := .k2 .d1 .d11
def q28 : Ky := .k2 .d1 .d12
def q29 : Ky := .k2 .d1 .d13
def q30 : Ky := .k2 .d1 .d14
def q31 : Ky := .k2 .d1 .d15
def q32 : Ky := .k2 .d2 .d0
def q33 : Ky := .k2 .d2 .d1
def q34 : Ky := .k2 .d2 .d2
def q35 : Ky := .k2 .d2 .d3
def q36 : Ky := .k2 .d2 .d4
def q37 : Ky := .k2 .d2 .d5
def q38 : Ky := .k2 .d2 .d6
def q39 : Ky := .k2 .d2 .d7
def q40 : Ky := .k2 .d2 .d8
def q41 : Ky := .k2 .d2 .d9
def q42 : Ky := .k2 .d2 .d10
def q43 : Ky := .k2 .d2 .d11
def q44 : Ky := .k2 .d2 .d12
def q45 : Ky := .k2 .d2 .d13
def q46 : Ky := .k2 .d2 .d14
def q47 : Ky := .k2 .d2 .d15
def q48 : Ky := .k2 .d3 .d0
def q49 : Ky := .k2 .d3 .d1
def q50 : Ky := .k2 .d3 .d2
def q51 : Ky := .k2 .d3 .d3
def q52 : Ky := .k2 .d3 .d4
def q53 : Ky := .k2 .d3 .d5
def q54 : Ky := .k2 .d3 .d6
def q55 : Ky := .k2 .d3 .d7
def q56 : Ky := .k2 .d3 .d8
def q57 : Ky := .k2 .d3 .d9
def q58 : Ky := .k2 .d3 .d10
def q59 : Ky := .k2 .d3 .d11
def q60 : Ky := .k2 .d3 .d12
def q61 : Ky := .k2 .d3 .d13
def q62 : Ky := .k2 .d3 .d14
def q63 : Ky := .k2 .d3 .d15
def q64 : Ky := .k2 .d4 .d0
def q65 : Ky := .k2 .d4 .d1
def q66 : Ky := .k2 .d4 .d2
def q67 : Ky := .k2 .d4 .d3
def q68 : Ky := .k2 .d4 .d4
def q69 : Ky := .k2 .d4 .d5
def q70 : Ky := .k2 .d4 .d6
def q71 : Ky := .k2 .d4 .d7
def q72 : Ky := .k2 .d4 .d8
def q73 : Ky := .k2 .d4 .d9
def q74 : Ky := .k2 .d4 .d10
def q75 : Ky := .k2 .d4 .d11
def q76 : Ky := .k2 .d4 .d12
def q77 : Ky := .k2 .d4 .d13
def q78 : Ky := .k2 .d4 .d14
def q79 : Ky := .k2 .d4 .d15
def q80 : Ky := .k2 .d5 .d0
def q81 : Ky := .k2 .d5 .d1
def q82 : Ky := .k2 .d5 .d2
def q83 : Ky := .k2 .d5 .d3
def q84 : Ky := .k2 .d5 .d4
def q85 : Ky := .k2 .d5 .d5
def q86 : Ky := .k2 .d5 .d6
def q87 : Ky := .k2 .d5 .d7
def q88 : Ky := .k2 .d5 .d8
def q89 : Ky := .k2 .d5 .d9
def q90 : Ky := .k2 .d5 .d10
def q91 : Ky := .k2 .d5 .d11
def q92 : Ky := .k2 .d5 .d12
def q93 : Ky := .k2 .d5 .d13
def q94 : Ky := .k2 .d5 .d14
def q95 : Ky := .k2 .d5 .d15
def q96 : Ky := .k2 .d6 .d0
def q97 : Ky := .k2 .d6 .d1
def q98 : Ky := .k2 .d6 .d2
def q99 : Ky := .k2 .d6 .d3
def q100 : Ky := .k2 .d6 .d4
def q101 : Ky := .k2 .d6 .d5
def q102 : Ky := .k2 .d6 .d6
def q103 : Ky := .k2 .d6 .d7
def q104 : Ky := .k2 .d6 .d8
def q105 : Ky := .k2 .d6 .d9
def q106 : Ky := .k2 .d6 .d10
def q107 : Ky := .k2 .d6 .d11
def q108 : Ky := .k2 .d6 .d12
def q109 : Ky := .k2 .d6 .d13
def q110 : Ky := .k2 .d6 .d14
def q111 : Ky := .k2 .d6 .d15
def q112 : Ky := .k2 .d7 .d0
def q113 : Ky := .k2 .d7 .d1
def q114 : Ky := .k2 .d7 .d2
def q115 : Ky := .k2 .d7 .d3
def q116 : Ky := .k2 .d7 .d4
def q117 : Ky := .k2 .d7 .d5
def q118 : Ky := .k2 .d7 .d6
def q119 : Ky := .k2 .d7 .d7
def q120 : Ky := .k2 .d7 .d8
def q121 : Ky := .k2 .d7 .d9
def q122 : Ky := .k2 .d7 .d10
def q123 : Ky := .k2 .d7 .d11
def q124 : Ky := .k2 .d7 .d12
def q125 : Ky := .k2 .d7 .d13
def q126 : Ky := .k2 .d7 .d14
def q127 : Ky := .k2 .d7 .d15
def q128 : Ky := .k2 .d8 .d0
def q129 : Ky := .k2 .d8 .d1
def q130 : Ky := .k2 .d8 .d2
def q131 : Ky := .k2 .d8 .d3
def q132 : Ky := .k2 .d8 .d4
def q133 : Ky := .k2 .d8 .d5
def q134 : Ky := .k2 .d8 .d6
def q135 : Ky := .k2 .d8 .d7
def q136 : Ky := .k2 .d8 .d8
def q137 : Ky := .k2 .d8 .d9
def q138 : Ky := .k2 .d8 .d10
def q139 : Ky := .k2 .d8 .d11
def q140 : Ky := .k2 .d8 .d12
def q141 : Ky := .k2 .d8 .d13
def q142 : Ky := .k2 .d8 .d14
def q143 : Ky := .k2 .d8 .d15
def q144 : Ky := .k2 .d9 .d0
def q145 : Ky := .k2 .d9 .d1
def q146 : Ky := .k2 .d9 .d2
def q147 : Ky := .k2 .d9 .d3
def q148 : Ky := .k2 .d9 .d4
def q149 : Ky := .k2 .d9 .d5
def q150 : Ky := .k2 .d9 .d6
def q151 : Ky := .k2 .d9 .d7
def q152 : Ky := .k2 .d9 .d8
def q153 : Ky := .k2 .d9 .d9
def q154 : Ky := .k2 .d9 .d10
def q155 : Ky := .k2 .d9 .d11
def q156 : Ky := .k2 .d9 .d12
def q157 : Ky := .k2 .d9 .d13
def q158 : Ky := .k2 .d9 .d14
def q159 : Ky := .k2 .d9 .d15
def q160 : Ky := .k2 .d10 .d0
def q161 : Ky := .k2 .d10 .d1
def q162 : Ky := .k2 .d10 .d2
def q163 : Ky := .k2 .d10 .d3
def q164 : Ky := .k2 .d10 .d4
def q165 : Ky := .k2 .d10 .d5
def q166 : Ky := .k2 .d10 .d6
def q167 : Ky := .k2 .d10 .d7
def q168 : Ky := .k2 .d10 .d8
def q169 : Ky := .k2 .d10 .d9
def q170 : Ky := .k2 .d10 .d10
def q171 : Ky := .k2 .d10 .d11
def q172 : Ky := .k2 .d10 .d12
def q173 : Ky := .k2 .d10 .d13
def q174 : Ky := .k2 .d10 .d14
def q175 : Ky := .k2 .d10 .d15
def q176 : Ky := .k2 .d11 .d0
def q177 : Ky := .k2 .d11 .d1
def q178 : Ky := .k2 .d11 .d2
def q179 : Ky := .k2 .d11 .d3
def q180 : Ky := .k2 .d11 .d4
def q181 : Ky := .k2 .d11 .d5
def q182 : Ky := .k2 .d11 .d6
def q183 : Ky := .k2 .d11 .d7
def q184 : Ky := .k2 .d11 .d8
def q185 : Ky := .k2 .d11 .d9
def q186 : Ky := .k2 .d11 .d10
def q187 : Ky := .k2 .d11 .d11
def q188 : Ky := .k2 .d11 .d12
def q189 : Ky := .k2 .d11 .d13
def q190 : Ky := .k2 .d11 .d14
def q191 : Ky := .k2 .d11 .d15
def q192 : Ky := .k2 .d12 .d0
def q193 : Ky := .k2 .d12 .d1
def q194 : Ky := .k2 .d12 .d2
def q195 : Ky := .k2 .d12 .d3
def q196 : Ky := .k2 .d12 .d4
def q197 : Ky := .k2 .d12 .d5
def q198 : Ky := .k2 .d12 .d6
def q199 : Ky := .k2 .d12 .d7
def q200 : Ky := .k2 .d12 .d8
def q201 : Ky := .k2 .d12 .d9
def q202 : Ky := .k2 .d12 .d10
def q203 : Ky := .k2 .d12 .d11
def q204 : Ky := .k2 .d12 .d12
def q205 : Ky := .k2 .d12 .d13
def q206 : Ky := .k2 .d12 .d14
def q207 : Ky := .k2 .d12 .d15
def q208 : Ky := .k2 .d13 .d0
def q209 : Ky := .k2 .d13 .d1
def q210 : Ky := .k2 .d13 .d2
def q211 : Ky := .k2 .d13 .d3
def q212 : Ky := .k2 .d13 .d4
def q213 : Ky := .k2 .d13 .d5
def q214 : Ky := .k2 .d13 .d6
def q215 : Ky := .k2 .d13 .d7
def q216 : Ky := .k2 .d13 .d8
def q217 : Ky := .k2 .d13 .d9
def q218 : Ky := .k2 .d13 .d10
def q219 : Ky := .k2 .d13 .d11
def q220 : Ky := .k2 .d13 .d12
def q221 : Ky := .k2 .d13 .d13
def q222 : Ky := .k2 .d13 .d14
def q223 : Ky := .k2 .d13 .d15
def q224 : Ky := .k2 .d14 .d0
def q225 : Ky := .k2 .d14 .d1
def q226 : Ky := .k2 .d14 .d2
def q227 : Ky := .k2 .d14 .d3
def q228 : Ky := .k2 .d14 .d4
def q229 : Ky := .k2 .d14 .d5
end Go.Proofs.Ytcajphnjiepbaaa.Ev
set_option maxRecDepth 100000
namespace Go.Proofs.Ytcajphnjiepbaaa.K
open Go Ev
def K3_0 : IC := .seq (.dreg 0 [(⟨some q43, none, .ldN 5 (.t q9)⟩, .rd 0), (⟨some q44, none, .mov (.t q1)⟩, .pu), (⟨some q45, none, .call 11 [.t q43, .t q44]⟩, .ad), (⟨some q46, none, .ldN 6 (.t q6)⟩, .rd 1), (⟨some q47, none, .mov (.t q1)⟩, .pu)] [⟨some q48, none, .call 12 [.t q46, .t q47, .c (.i .i64 100)]⟩, ⟨some q49, none, .binB .eql (.t q45) (.t q48)⟩, ⟨some q4, none, .mov (.t q49)⟩] []) .ret
def K3_1 : IC := .seq (.reg [⟨some q36, none, .ldN 6 (.t q6)⟩, ⟨some q37, none, .call 9 [.t q36]⟩, ⟨some q35, none, .mov (.t q37)⟩, ⟨some q38, none, .ext (.t q35) 0⟩, ⟨some q39, none, .ext (.t q35) 1⟩, ⟨some q9, none, .new [.nils, .b false, .nils, .nils, .nils]⟩, ⟨none, none, .st 5 (.t q9) (.t q38)⟩, ⟨some q10, none, .mov (.t q39)⟩]) (.seq (.seq (.reg [⟨some q40, none, .mov (.t q10)⟩, ⟨some q41, none, .call 10 [.t q40]⟩, ⟨some q42, none, .binI .neq (.t q41) (.c (.i .i64 0))⟩]) (.cond (.t q42) (.seq (.reg [⟨some q4, none, .mov (.c (.b true))⟩]) .ret) .skip)) K3_0)
def B3 : IC := .seq (.reg [⟨some q4, none, .mov (.c (.b false))⟩]) (.seq (.reg [⟨some q11, none, .call 7 []⟩, ⟨some q5, none, .mov (.t q11)⟩]) (.seq (.reg [⟨some q13, none, .mov (.t q0)⟩, ⟨some q14, none, .call 8 [.t q13]⟩, ⟨some q12, none, .mov (.t q14)⟩, ⟨some q15, none, .ext (.t q12) 0⟩, ⟨some q16, none, .ext (.t q12) 1⟩, ⟨some q17, none, .ext (.t q12) 2⟩, ⟨some q6, none, .new [.i .i64 0, .i .u64 0, .i .u64 0, .i .u64 0, .i .u64 0, .nils]⟩, ⟨none, none, .st 6 (.t q6) (.t q15)⟩, ⟨some q7, none, .mov (.t q16)⟩, ⟨some q8, none, .mov (.t q17)⟩]) (.seq (.seq (.reg [⟨some q18, none, .mov (.t q5)⟩, ⟨some q19, none, .un .not (.t q18)⟩, ⟨some q20, none, .mov (.t q19)⟩, ⟨some q21, some (q20, false), .mov (.t q8)⟩, ⟨some q22, some (q20, false), .binI .neq (.t q21) (.c (.i .i64 0))⟩, ⟨some q23, none, .pick (.t q20) (.c (.b true)) (.t q22)⟩, ⟨some q24, none, .mov (.t q23)⟩, ⟨some q25, some (q24, false), .mov (.t q1)⟩, ⟨some q26, some (q24, false), .len (.t q25)⟩, ⟨some q27, some (q24, false), .binI .gtr (.t q26) (.c (.i .i64 6))⟩, ⟨some q28, none, .pick (.t q24) (.c (.b true)) (.t q27)⟩, ⟨some q29, none, .mov (.t q28)⟩, ⟨some q30, some (q29, false), .mov (.t q0)⟩, ⟨some q31, some (q29, false), .lenT (.t q30)⟩, ⟨some q32, some (q29, false), .binI .gtr (.t q31) (.c (.i .i64 14))⟩, ⟨some q33, none, .pick (.t q29) (.c (.b true)) (.t q32)⟩]) (.cond (.t q33) (.seq (.reg [⟨some q34, none, .mov (.t q5)⟩, ⟨some q4, none, .mov (.t q34)⟩]) .ret) .skip)) K3_1)))
def F3 : IFn := ⟨50, [.tmp q4], B3⟩
theorem R3 : F3.res = [.tmp q4] := rfl
theorem fits3 : FitsF Try.prog 3 F3 := cmpF_fits (pol := fun _ => false) Try.func3 (by kernel_rfl)
def B7 : IC := .seq (.reg [⟨some q0, none, .mov (.c (.b false))⟩]) (.seq (.reg [⟨some q6, none, .build [.i .i64 0, .i .u64 0, .i .u64 0, .i .u64 0, .i .u64 0, .nils] []⟩, ⟨some q7, none, .call 9 [.t q6]⟩, ⟨some q5, none, .mov (.t q7)⟩, ⟨some q8, none, .ext (.t q5) 0⟩, ⟨some q9, none, .ext (.t q5) 1⟩, ⟨some q1, none, .new [.nils, .b false, .nils, .nils, .nils]⟩, ⟨none, none, .st 5 (.t q1) (.t q8)⟩, ⟨some q2, none, .mov (.t q9)⟩]) (.seq (.reg [⟨some q11, none, .build [.i .u64 0, .i .u64 0, .i .u64 0, .i .u64 0] [(0, 1, .c (.i .u64 0)), (1, 1, .c (.i .u64 8589934592))]⟩, ⟨some q12, none, .build [.i .i64 0, .i .u64 0, .i .u64 0, .i .u64 0, .i .u64 0, .nils] [(0, 1, .c (.i .i64 1)), (1, 4, .t q11)]⟩, ⟨some q13, none, .call 9 [.t q12]⟩, ⟨some q10, none, .mov (.t q13)⟩, ⟨some q14, none, .ext (.t q10) 0⟩, ⟨some q15, none, .ext (.t q10) 1⟩, ⟨some q3, none, .new [.nils, .b false, .nils, .nils, .nils]⟩, ⟨none, none, .st 5 (.t q3) (.t q14)⟩, ⟨some q4, none, .mov (.t q15)⟩]) (.seq (.reg [⟨some q16, none, .mov (.t q2)⟩, ⟨some q17, none, .call 10 [.t q16]⟩, ⟨some q18, none, .binI .eql (.t q17) (.c (.i .i64 0))⟩, ⟨some q19, none, .mov (.t q18)⟩, ⟨some q20, some (q19, true), .fa 0 (.t q1)⟩, ⟨some q21, some (q19, true), .ld1 (.t q20)⟩, ⟨some q22, some (q19, true), .len (.t q21)⟩, ⟨some q23, some (q19, true), .binI .eql (.t q22) (.c (.i .i64 0))⟩, ⟨some q24, none, .pick (.t q19) (.t q23) (.c (.b false))⟩, ⟨some q25, none, .mov (.t q24)⟩, ⟨some q26, some (q25, true), .fa 1 (.t q1)⟩, ⟨some q27, some (q25, true), .ld1 (.t q26)⟩, ⟨some q28, none, .pick (.t q25) (.t q27) (.c (.b false))⟩, ⟨some q29, none, .mov (.t q28)⟩, ⟨some q30, some (q29, true), .mov (.t q4)⟩, ⟨some q31, some (q29, true), .call 10 [.t q30]⟩, ⟨some q32, some (q29, true), .binI .eql (.t q31) (.c (.i .i64 0))⟩, ⟨some q33, none, .pick (.t q29) (.t q32) (.c (.b false))⟩, ⟨some q34, none, .mov (.t q33)⟩, ⟨some q35, some (q34, true), .fa 0 (.t q3)⟩, ⟨some q36, some (q34, true), .ld1 (.t q35)⟩, ⟨some q37, some (q34, true), .len (.t q36)⟩, ⟨some q38, some (q34, true), .binI .eql (.t q37) (.c (.i .i64 1))⟩, ⟨some q39, none, .pick (.t q34) (.t q38) (.c (.b false))⟩, ⟨some q40, none, .mov (.t q39)⟩, ⟨some q41, some (q40, true), .ldN 5 (.t q3)⟩, ⟨some q42, some (q40, true), .bsl 1 1 [.i .u8 0] [(0, 1, .c (.i .u8 97))]⟩, ⟨some q43, some (q40, true), .cvS (.t q42)⟩, ⟨some q44, some (q40, true), .call 11 [.t q41, .t q43]⟩, ⟨some q45, none, .pick (.t q40) (.t q44) (.c (.b false))⟩, ⟨some q0, none, .mov (.t q45)⟩]) .ret)))
def F7 : IFn := ⟨46, [.tmp q0], B7⟩
theorem fits7 : FitsF Try.prog 7 F7 := cmpF_fits (pol := fun _ => false) Try.func7 (by kernel_rfl)
def K8_0 : IC := .seq (.reg [⟨some q46, none, .ldN 6 (.t q6)⟩, ⟨some q47, none, .mov (.t q0)⟩, ⟨some q48, none, .lenT (.t q47)⟩, ⟨none, none, .st 6 (.t q2) (.t q46)⟩, ⟨some q3, none, .mov (.t q48)⟩, ⟨some q4, none, .mov (.c (.i .i64 0))⟩]) .ret
def K8_1 : IC := .seq (.seq (.reg [⟨some q32, none, .mov (.t q5)⟩, ⟨some q33, none, .nck (.t q32)⟩, ⟨some q34, none, .fa 2 (.t q33)⟩, ⟨some q35, none, .ld1 (.t q34)⟩, ⟨some q36, none, .binI .neq (.t q35) (.c (.i .i64 0))⟩]) (.cond (.t q36) (.seq (.dreg 0 [(⟨some q37, none, .build [.i .i64 0, .i .u64 0, .i .u64 0, .i .u64 0, .i .u64 0, .nils] []⟩, .pu), (⟨some q38, none, .mov (.t q5)⟩, .pu), (⟨some q39, none, .nck (.t q38)⟩, .pu), (⟨some q40, none, .fa 3 (.t q39)⟩, .pu), (⟨some q41, none, .ld1 (.t q40)⟩, .rd 0), (⟨some q42, none, .mov (.t q5)⟩, .pu), (⟨some q43, none, .nck (.t q42)⟩, .pu), (⟨some q44, none, .fa 2 (.t q43)⟩, .pu), (⟨some q45, none, .ld1 (.t q44)⟩, .rd 0), (⟨none, none, .st 6 (.t q2) (.t q37)⟩, .md), (⟨some q3, none, .mov (.t q41)⟩, .pu)] [⟨some q4, none, .mov (.t q45)⟩] [(9, 4), (9, 8)]) .ret) .skip)) K8_0
def K8_2 : IC := .seq (.reg [⟨some q11, none, .mov (.t q0)⟩, ⟨some q12, none, .build [.s (ByteArray.mk (Array.mk [])), .i .i64 0, .i .i64 0, .i .i64 0] [(0, 1, .t q11)]⟩, ⟨some q13, none, .box (.t q12)⟩, ⟨some q5, none, .mov (.t q13)⟩]) (.seq (.reg [⟨some q14, none, .mov (.t q5)⟩, ⟨some q15, none, .call 19 [.t q14, .c (.i .i64 0)]⟩, ⟨some q6, none, .new [.i .i64 0, .i .u64 0, .i .u64 0, .i .u64 0, .i .u64 0, .nils]⟩, ⟨none, none, .st 6 (.t q6) (.t q15)⟩]) (.seq (.seq (.reg [⟨some q16, none, .mov (.t q5)⟩, ⟨some q17, none, .nck (.t q16)⟩, ⟨some q18, none, .fa 2 (.t q17)⟩, ⟨some q19, none, .ld1 (.t q18)⟩, ⟨some q20, none, .binI .eql (.t q19) (.c (.i .i64 0))⟩, ⟨some q21, none, .mov (.t q20)⟩, ⟨some q22, some (q21, true), .mov (.t q5)⟩, ⟨some q23, some (q21, true), .call 20 [.t q22]⟩, ⟨some q24, some (q21, true), .un .not (.t q23)⟩, ⟨some q25, none, .pick (.t q21) (.t q24) (.c (.b false))⟩]) (.cond (.t q25) (.reg [⟨some q26, none, .mov (.t q5)⟩, ⟨some q27, none, .mov (.t q5)⟩, ⟨some q28, none, .nck (.t q27)⟩, ⟨some q29, none, .fa 1 (.t q28)⟩, ⟨some q30, none, .ld1 (.t q29)⟩, ⟨some q31, none, .call 21 [.t q26, .c (.i .i64 2), .t q30]⟩]) .skip)) K8_1))
def B8 : IC := .seq (.reg [⟨some q2, none, .new [.i .i64 0, .i .u64 0, .i .u64 0, .i .u64 0, .i .u64 0, .nils]⟩, ⟨some q3, none, .mov (.c (.i .i64 0))⟩, ⟨some q4, none, .mov (.c (.i .i64 0))⟩]) (.seq (.seq (.reg [⟨some q7, none, .mov (.t q0)⟩, ⟨some q8, none, .lenT (.t q7)⟩, ⟨some q9, none, .binI .gtr (.t q8) (.c (.i .i64 200))⟩]) (.cond (.t q9) (.seq (.reg [⟨some q10, none, .build [.i .i64 0, .i .u64 0, .i .u64 0, .i .u64 0, .i .u64 0, .nils] []⟩, ⟨none, none, .st 6 (.t q2) (.t q10)⟩, ⟨some q3, none, .mov (.c (.i .i64 0))⟩, ⟨some q4, none, .mov (.c (.i .i64 3))⟩]) .ret) .skip)) K8_2)
def F8 : IFn := ⟨49, [.cN q2 6, .tmp q3, .tmp q4], B8⟩
theorem R8 : F8.res = [.cN q2 6, .tmp q3, .tmp q4] := rfl
theorem fits8 : FitsF Try.prog 8 F8 := cmpF_fits (pol := fun _ => false) Try.func8 (by kernel_rfl)
def K9_0 : IC := .seq (.reg [⟨some q20, none, .ldN 3 (.t q4)⟩, ⟨some q21, none, .build [.nilm, .nils, .nils, .nils, .nils] [(0, 3, .t q20)]⟩, ⟨some q6, none, .new [.nilm, .nils, .nils, .nils, .nils]⟩, ⟨none, none, .st 5 (.t q6) (.t q21)⟩]) (.seq (.reg [⟨some q22, none, .call 25 [.t q6, .t q1]⟩, ⟨some q23, none, .call 24 [.t q6, .t q22]⟩, ⟨none, none, .st 5 (.t q2) (.t q23)⟩, ⟨some q3, none, .mov (.c (.i .i64 0))⟩]) .ret)
def B9 : IC := .seq (.reg [⟨some q1, none, .box (.t q0)⟩, ⟨some q2, none, .new [.nils, .b false, .nils, .nils, .nils]⟩, ⟨some q3, none, .mov (.c (.i .i64 0))⟩]) (.seq (.reg [⟨some q7, none, .build [.nilm, .nils, .nils] []⟩, ⟨some q4, none, .new [.nilm, .nils, .nils]⟩, ⟨none, none, .st 3 (.t q4) (.t q7)⟩]) (.seq (.reg [⟨some q8, none, .call 22 [.t q4, .t q1]⟩]) (.seq (.seq (.reg [⟨some q9, none, .call 23 [.t q4, .t q1]⟩, ⟨some q5, none, .new [.i .i64 0, .i .i64 0]⟩, ⟨none, none, .st 2 (.t q5) (.t q9)⟩]) (.block 0 (.seq (.reg [⟨some q11, none, .fa 0 (.t q5)⟩, ⟨some q12, none, .ld1 (.t q11)⟩, ⟨some q13, none, .binI .gtr (.t q12) (.c (.i .i64 150))⟩, ⟨some q10, none, .mov (.t q13)⟩]) (.cond (.t q10) (.seq (.reg [⟨some q14, none, .build [.nils, .b false, .nils, .nils, .nils] []⟩, ⟨none, none, .st 5 (.t q2) (.t q14)⟩, ⟨some q3, none, .mov (.c (.i .i64 3))⟩]) .ret) (.seq (.reg [⟨some q16, none, .fa 1 (.t q5)⟩, ⟨some q17, none, .ld1 (.t q16)⟩, ⟨some q18, none, .binI .gtr (.t q17) (.c (.i .i64 200))⟩, ⟨some q15, none, .mov (.t q18)⟩]) (.cond (.t q15) (.seq (.reg [⟨some q19, none, .build [.nils, .b false, .nils, .nils, .nils] []⟩, ⟨none, none, .st 5 (.t q2) (.t q19)⟩, ⟨some q3, none, .mov (.c (.i .i64 4))⟩]) .ret) .skip)))))) K9_0)))
def F9 : IFn := ⟨24, [.cN q2 5, .tmp q3], B9⟩
theorem R9 : F9.res = [.cN q2 5, .tmp q3] := rfl
theorem fits9 : FitsF Try.prog 9 F9 := cmpF_fits (pol := fun _ => false) Try.func9 (by kernel_rfl)
def B10 : IC := .seq (.reg [⟨some q2, none, .mov (.c (.i .i64 0))⟩]) (.seq (.reg [⟨some q3, none, .mov (.t q0)⟩, ⟨some q2, none, .mov (.t q3)⟩]) .ret)
def F10 : IFn := ⟨4, [.tmp q2], B10⟩
theorem R10 : F10.res = [.tmp q2] := rfl
theorem fits10 : FitsF Try.prog 10 F10 := cmpF_fits (pol := fun _ => false) Try.func10 (by kernel_rfl)
def K11_0 : IC := .reg [⟨some q28, none, .binI .add (.t q21) (.c (.i .i64 1))⟩, ⟨some q21, none, .mov (.t q28)⟩]
def K11_1 : IC := .seq (.block 1 (.seq (.reg [⟨some q23, none, .ixS 1 (.t q19) (.t q21)⟩, ⟨some q24, none, .ld1 (.t q23)⟩, ⟨some q7, none, .mov (.t q24)⟩]) (.seq (.reg [⟨some q25, none, .mov (.t q7)⟩, ⟨some q26, none, .call 26 [.t q5, .t q25]⟩, ⟨some q27, none, .un .not (.t q26)⟩]) (.cond (.t q27) (.seq (.reg [⟨some q4, none, .mov (.c (.b false))⟩]) .ret) .skip)))) K11_0
def L11_2 : IC := .seq (.reg [⟨some q22, none, .binI .lss (.t q21) (.t q20)⟩]) (.seq (.cond (.t q22) .skip (.exit 0)) K11_1)
def K11_3 : IC := .seq (.reg [⟨some q29, none, .fa 3 (.t q2)⟩, ⟨some q30, none, .ld1 (.t q29)⟩, ⟨some q31, none, .mkf (.func 28) [.t q5] []⟩, ⟨some q32, none, .call 27 [.t q30, .t q31]⟩, ⟨some q4, none, .mov (.t q32)⟩]) .ret
def K11_4 : IC := .seq (.seq (.reg [⟨some q19, none, .mov (.t q1)⟩, ⟨some q20, none, .len (.t q19)⟩, ⟨some q21, none, .mov (.c (.i .i64 0))⟩]) (.block 0 (.loop L11_2))) K11_3
def K11_5 : IC := .seq (.dreg 2 [(⟨some q13, none, .ldN 5 (.t q2)⟩, .rd 0), (⟨some q14, none, .fa 0 (.t q2)⟩, .pu), (⟨some q15, none, .ld1 (.t q14)⟩, .rd 0), (⟨some q16, none, .len (.t q15)⟩, .pu), (⟨some q17, none, .mks 1 8 [.i .i64 0] (.t q16) (.t q16)⟩, .fl 0), (⟨some q18, none, .build [.nils, .b false, .nils, .nils, .nils, .i .i64 0, .nils, .nils, .nils] [(0, 5, .t q13), (8, 1, .t q17)]⟩, .pu), (⟨some q5, none, .new [.nils, .b false, .nils, .nils, .nils, .i .i64 0, .nils, .nils, .nils]⟩, .fl 1)] [⟨none, none, .st 9 (.t q5) (.t q18)⟩] []) K11_4
def B11 : IC := .seq (.reg [⟨some q2, none, .box (.t q0)⟩, ⟨some q4, none, .mov (.c (.b false))⟩]) (.seq (.seq (.reg [⟨some q8, none, .mov (.t q1)⟩, ⟨some q9, none, .len (.t q8)⟩, ⟨some q10, none, .binI .eql (.t q9) (.c (.i .i64 0))⟩]) (.cond (.t q10) (.seq (.reg [⟨some q11, none, .fa 1 (.t q2)⟩, ⟨some q12, none, .ld1 (.t q11)⟩, ⟨some q4, none, .mov (.t q12)⟩]) .ret) .skip)) K11_5)
def F11 : IFn := ⟨33, [.tmp q4], B11⟩
theorem R11 : F11.res = [.tmp q4] := rfl
theorem fits11 : FitsF Try.prog 11 F11 := cmpF_fits (pol := fun _ => false) Try.func11 (by kernel_rfl)
def K12_0 : IC := .reg [⟨some q34, none, .mov (.t q7)⟩, ⟨some q35, none, .binI .add (.t q34) (.c (.i .i64 1))⟩, ⟨some q7, none, .mov (.t q35)⟩]
def K12_1 : IC := .seq (.block 2 (.seq (.reg [⟨some q36, none, .fa 5 (.t q3)⟩, ⟨some q37, none, .ld1 (.t q36)⟩, ⟨some q38, none, .mov (.t q7)⟩, ⟨some q39, none, .ixS 6 (.t q37) (.t q38)⟩, ⟨some q40, none, .ldN 6 (.t q39)⟩, ⟨some q41, none, .mov (.t q1)⟩, ⟨some q42, none, .mov (.t q2)⟩, ⟨some q43, none, .binI .sub (.t q42) (.c (.i .i64 1))⟩, ⟨some q44, none, .call 12 [.t q40, .t q41, .t q43]⟩]) (.cond (.t q44) (.seq (.reg [⟨some q6, none, .mov (.c (.b true))⟩]) .ret) .skip))) K12_0
def L12_2 : IC := .seq (.seq (.reg [⟨some q29, none, .mov (.t q7)⟩, ⟨some q30, none, .fa 5 (.t q3)⟩, ⟨some q31, none, .ld1 (.t q30)⟩, ⟨some q32, none, .len (.t q31)⟩, ⟨some q33, none, .binI .lss (.t q29) (.t q32)⟩]) (.cond (.t q33) .skip (.exit 1))) K12_1
def K12_3 : IC := .seq (.reg [⟨some q6, none, .mov (.c (.b false))⟩]) .ret
def K12_4 : IC := .cond (.t q86) (.seq (.reg [⟨some q6, none, .mov (.c (.b true))⟩]) .ret) .skip
def K12_5 : IC := .reg [⟨some q63, none, .mov (.t q8)⟩, ⟨some q64, none, .binI .add (.t q63) (.c (.i .i64 1))⟩, ⟨some q8, none, .mov (.t q64)⟩]
def K12_6 : IC := .seq (.block 4 (.seq (.dreg 0 [(⟨some q65, none, .fa 5 (.t q3)⟩, .pu), (⟨some q66, none, .ld1 (.t q65)⟩, .rd 0), (⟨some q67, none, .ixS 6 (.t q66) (.c (.i .i64 0))⟩, .pu), (⟨some q68, none, .ldN 6 (.t q67)⟩, .rd 0), (⟨some q69, none, .mov (.t q1)⟩, .pu), (⟨some q70, none, .mov (.t q8)⟩, .pu), (⟨some q71, none, .cut 1 (.t q69) none (some (.t q70))⟩, .pu), (⟨some q72, none, .mov (.t q2)⟩, .pu), (⟨some q73, none, .binI .sub (.t q72) (.c (.i .i64 1))⟩, .pu), (⟨some q74, none, .call 12 [.t q68, .t q71, .t q73]⟩, .md), (⟨some q75, none, .mov (.t q74)⟩, .pu), (⟨some q76, some (q75, true), .fa 5 (.t q3)⟩, .pu), (⟨some q77, some (q75, true), .ld1 (.t q76)⟩, .rd 0), (⟨some q78, some (q75, true), .cut 6 (.t q77) (some (.c (.i .i64 1))) none⟩, .pu), (⟨some q79, some (q75, true), .build [.i .i64 0, .i .u64 0, .i .u64 0, .i .u64 0, .i .u64 0, .nils] [(0, 1, .c (.i .i64 2)), (5, 1, .t q78)]⟩, .pu), (⟨some q80, some (q75, true), .mov (.t q1)⟩, .pu), (⟨some q81, some (q75, true), .mov (.t q8)⟩, .pu), (⟨some q82, some (q75, true), .cut 1 (.t q80) (some (.t q81)) none⟩, .pu), (⟨some q83, some (q75, true), .mov (.t q2)⟩, .pu), (⟨some q84, some (q75, true), .binI .sub (.t q83) (.c (.i .i64 1))⟩, .pu)] [⟨some q85, some (q75, true), .call 12 [.t q79, .t q82, .t q84]⟩, ⟨some q86, none, .pick (.t q75) (.t q85) (.c (.b false))⟩] []) K12_4)) K12_5
def L12_7 : IC := .seq (.seq (.reg [⟨some q59, none, .mov (.t q8)⟩, ⟨some q60, none, .mov (.t q1)⟩, ⟨some q61, none, .len (.t q60)⟩, ⟨some q62, none, .binI .leq (.t q59) (.t q61)⟩]) (.cond (.t q62) .skip (.exit 3))) K12_6
def K12_8 : IC := .seq (.reg [⟨some q6, none, .mov (.c (.b false))⟩]) .ret
def K12_9 : IC := .seq (.seq (.reg [⟨some q8, none, .mov (.c (.i .i64 0))⟩]) (.block 3 (.loop L12_7))) K12_8
def K12_10 : IC := .cond (.t q153) (.seq (.reg [⟨some q6, none, .mov (.c (.b true))⟩]) .ret) .skip
def K12_11 : IC := .reg [⟨some q125, none, .mov (.t q9)⟩, ⟨some q126, none, .binI .add (.t q125) (.c (.i .i64 1))⟩, ⟨some q9, none, .mov (.t q126)⟩]
def K12_12 : IC := .seq (.block 6 (.seq (.dreg 0 [(⟨some q127, none, .fa 5 (.t q3)⟩, .pu), (⟨some q128, none, .ld1 (.t q127)⟩, .rd 0), (⟨some q129, none, .ixS 6 (.t q128) (.c (.i .i64 0))⟩, .pu), (⟨some q130, none, .ldN 6 (.t q129)⟩, .rd 0), (⟨some q131, none, .mov (.t q1)⟩, .pu), (⟨some q132, none, .mov (.t q9)⟩, .pu), (⟨some q133, none, .cut 1 (.t q131) none (some (.t q132))⟩, .pu), (⟨some q134, none, .mov (.t q2)⟩, .pu), (⟨some q135, none, .binI .sub (.t q134) (.c (.i .i64 1))⟩, .pu), (⟨some q136, none, .call 12 [.t q130, .t q133, .t q135]⟩, .md), (⟨some q137, none, .mov (.t q136)⟩, .pu), (⟨some q138, some (q137, true), .mov (.t q9)⟩, .pu), (⟨some q139, some (q137, true), .mov (.t q1)⟩, .pu), (⟨some q140, some (q137, true), .len (.t q139)⟩, .pu), (⟨some q141, some (q137, true), .binI .eql (.t q138) (.t q140)⟩, .pu), (⟨some q142, some (q137, true), .mov (.t q141)⟩, .pu), (⟨some q143, some (q142, false), .fa 5 (.t q3)⟩, .pu), (⟨some q144, some (q142, false), .ld1 (.t q143)⟩, .rd 0), (⟨some q145, some (q142, false), .build [.i .i64 0, .i .u64 0, .i .u64 0, .i .u64 0, .i .u64 0, .nils] [(0, 1, .c (.i .i64 4)), (5, 1, .t q144)]⟩, .pu), (⟨some q146, some (q142, false), .mov (.t q1)⟩, .pu), (⟨some q147, some (q142, false), .mov (.t q9)⟩, .pu), (⟨some q148, some (q142, false), .cut 1 (.t q146) (some (.t q147)) none⟩, .pu), (⟨some q149, some (q142, false), .mov (.t q2)⟩, .pu), (⟨some q150, some (q142, false), .binI .sub (.t q149) (.c (.i .i64 1))⟩, .pu)] [⟨some q151, some (q142, false), .call 12 [.t q145, .t q148, .t q150]⟩, ⟨some q152, some (q137, true), .pick (.t q142) (.c (.b true)) (.t q151)⟩, ⟨some q153, none, .pick (.t q137) (.t q152) (.c (.b false))⟩] []) K12_10)) K12_11
def L12_13 : IC := .seq (.seq (.reg [⟨some q121, none, .mov (.t q9)⟩, ⟨some q122, none, .mov (.t q1)⟩, ⟨some q123, none, .len (.t q122)⟩, ⟨some q124, none, .binI .leq (.t q121) (.t q123)⟩]) (.cond (.t q124) .skip (.exit 5))) K12_12
def K12_14 : IC := .seq (.reg [⟨some q6, none, .mov (.c (.b false))⟩]) .ret
def K12_15 : IC := .seq (.seq (.reg [⟨some q9, none, .mov (.c (.i .i64 1))⟩]) (.block 5 (.loop L12_13))) K12_14
def K12_16 : IC := .cond (.t q102) (.seq (.seq (.reg [⟨some q105, none, .mov (.t q1)⟩, ⟨some q106, none, .len (.t q105)⟩, ⟨some q107, none, .binI .eql (.t q106) (.c (.i .i64 0))⟩]) (.cond (.t q107) (.seq (.reg [⟨some q108, none, .fa 0 (.t q3)⟩, ⟨some q109, none, .ld1 (.t q108)⟩, ⟨some q110, none, .binI .eql (.t q109) (.c (.i .i64 4))⟩, ⟨some q111, none, .mov (.t q110)⟩, ⟨some q112, some (q111, false), .fa 5 (.t q3)⟩, ⟨some q113, some (q111, false), .ld1 (.t q112)⟩, ⟨some q114, some (q111, false), .ixS 6 (.t q113) (.c (.i .i64 0))⟩, ⟨some q115, some (q111, false), .ldN 6 (.t q114)⟩, ⟨some q116, some (q111, false), .mov (.t q1)⟩, ⟨some q117, some (q111, false), .mov (.t q2)⟩, ⟨some q118, some (q111, false), .binI .sub (.t q117) (.c (.i .i64 1))⟩, ⟨some q119, some (q111, false), .call 12 [.t q115, .t q116, .t q118]⟩, ⟨some q120, none, .pick (.t q111) (.c (.b true)) (.t q119)⟩, ⟨some q6, none, .mov (.t q120)⟩]) .ret) .skip)) K12_15) .skip
def K12_17 : IC := .seq (.reg [⟨some q154, none, .mov (.t q1)⟩, ⟨some q155, none, .len (.t q154)⟩, ⟨some q156, none, .binI .eql (.t q155) (.c (.i .i64 0))⟩, ⟨some q6, none, .mov (.t q156)⟩]) .ret
def K12_18 : IC := .seq (.seq (.reg [⟨some q12, none, .fa 0 (.t q3)⟩, ⟨some q13, none, .ld1 (.t q12)⟩]) (.block 0 (.seq (.reg [⟨some q15, none, .binI .eql (.t q13) (.c (.i .i64 1))⟩, ⟨some q14, none, .mov (.t q15)⟩]) (.cond (.t q14) (.seq (.dreg 0 [(⟨some q16, none, .mov (.t q1)⟩, .pu), (⟨some q17, none, .len (.t q16)⟩, .pu), (⟨some q18, none, .binI .eql (.t q17) (.c (.i .i64 1))⟩, .pu), (⟨some q19, none, .mov (.t q18)⟩, .pu), (⟨some q20, some (q19, true), .fa 1 (.t q3)⟩, .pu), (⟨some q21, some (q19, true), .ldN 4 (.t q20)⟩, .rd 0), (⟨some q22, some (q19, true), .mov (.t q1)⟩, .pu), (⟨some q23, some (q19, true), .ixS 1 (.t q22) (.c (.i .i64 0))⟩, .pu), (⟨some q24, some (q19, true), .ld1 (.t q23)⟩, .rd 0)] [⟨some q25, some (q19, true), .call 29 [.t q21, .t q24]⟩, ⟨some q26, none, .pick (.t q19) (.t q25) (.c (.b false))⟩, ⟨some q6, none, .mov (.t q26)⟩] []) .ret) (.seq (.reg [⟨some q28, none, .binI .eql (.t q13) (.c (.i .i64 3))⟩, ⟨some q27, none, .mov (.t q28)⟩]) (.cond (.t q27) (.seq (.seq (.reg [⟨some q7, none, .mov (.c (.i .i64 0))⟩]) (.block 1 (.loop L12_2))) K12_3) (.seq (.reg [⟨some q46, none, .binI .eql (.t q13) (.c (.i .i64 2))⟩, ⟨some q45, none, .mov (.t q46)⟩]) (.cond (.t q45) (.seq (.seq (.reg [⟨some q47, none, .fa 5 (.t q3)⟩, ⟨some q48, none, .ld1 (.t q47)⟩, ⟨some q49, none, .len (.t q48)⟩, ⟨some q50, none, .binI .eql (.t q49) (.c (.i .i64 1))⟩]) (.cond (.t q50) (.seq (.reg [⟨some q51, none, .fa 5 (.t q3)⟩, ⟨some q52, none, .ld1 (.t q51)⟩, ⟨some q53, none, .ixS 6 (.t q52) (.c (.i .i64 0))⟩, ⟨some q54, none, .ldN 6 (.t q53)⟩, ⟨some q55, none, .mov (.t q1)⟩, ⟨some q56, none, .mov (.t q2)⟩, ⟨some q57, none, .binI .sub (.t q56) (.c (.i .i64 1))⟩, ⟨some q58, none, .call 12 [.t q54, .t q55, .t q57]⟩, ⟨some q6, none, .mov (.t q58)⟩]) .ret) .skip)) K12_9) (.seq (.reg [⟨some q88, none, .binI .eql (.t q13) (.c (.i .i64 6))⟩, ⟨some q87, none, .mov (.t q88)⟩]) (.cond (.t q87) (.seq (.reg [⟨some q89, none, .mov (.t q1)⟩, ⟨some q90, none, .len (.t q89)⟩, ⟨some q91, none, .binI .eql (.t q90) (.c (.i .i64 0))⟩, ⟨some q92, none, .mov (.t q91)⟩, ⟨some q93, some (q92, false), .fa 5 (.t q3)⟩, ⟨some q94, some (q92, false), .ld1 (.t q93)⟩, ⟨some q95, some (q92, false), .ixS 6 (.t q94) (.c (.i .i64 0))⟩, ⟨some q96, some (q92, false), .ldN 6 (.t q95)⟩, ⟨some q97, some (q92, false), .mov (.t q1)⟩, ⟨some q98, some (q92, false), .mov (.t q2)⟩, ⟨some q99, some (q92, false), .binI .sub (.t q98) (.c (.i .i64 1))⟩, ⟨some q100, some (q92, false), .call 12 [.t q96, .t q97, .t q99]⟩, ⟨some q101, none, .pick (.t q92) (.c (.b true)) (.t q100)⟩, ⟨some q6, none, .mov (.t q101)⟩]) .ret) (.seq (.seq (.reg [⟨some q103, none, .binI .eql (.t q13) (.c (.i .i64 4))⟩, ⟨some q102, none, .mov (.t q103)⟩]) (.cond (.t q102) .skip (.reg [⟨some q104, none, .binI .eql (.t q13) (.c (.i .i64 5))⟩, ⟨some q102, none, .mov (.t q104)⟩]))) K12_16))))))))))) K12_17
def B12 : IC := .seq (.reg [⟨some q3, none, .box (.t q0)⟩, ⟨some q6, none, .mov (.c (.b false))⟩]) (.seq (.seq (.reg [⟨some q10, none, .mov (.t q2)⟩, ⟨some q11, none, .binI .lss (.t q10) (.c (.i .i64 0))⟩]) (.cond (.t q11) (.seq (.reg [⟨some q6, none, .mov (.c (.b false))⟩]) .ret) .skip)) K12_18)
def F12 : IFn := ⟨157, [.tmp q6], B12⟩
theorem R12 : F12.res = [.tmp q6] := rfl
theorem fits12 : FitsF Try.prog 12 F12 := cmpF_fits (pol := fun _ => false) Try.func12 (by kernel_rfl)
def K19_0 : IC := .block 1 (.seq (.reg [⟨some q19, none, .mov (.t q0)⟩, ⟨some q20, none, .nck (.t q19)⟩, ⟨some q21, none, .fa 1 (.t q20)⟩, ⟨some q22, none, .ld1 (.t q21)⟩, ⟨some q23, none, .binI .add (.t q22) (.c (.i .i64 1))⟩, ⟨some q24, none, .nck (.t q19)⟩, ⟨some q25, none, .fa 1 (.t q24)⟩, ⟨none, none, .st 1 (.t q25) (.t q23)⟩]) (.reg [⟨some q26, none, .mov (.t q5)⟩, ⟨some q27, none, .mov (.t q0)⟩, ⟨some q28, none, .mov (.t q1)⟩, ⟨some q29, none, .call 38 [.t q27, .t q28]⟩, ⟨some q30, none, .bsl 6 1 [.i .i64 0, .i .u64 0, .i .u64 0, .i .u64 0, .i .u64 0, .nils] [(0, 6, .t q29)]⟩, ⟨some q31, none, .app 6 64 (.t q26) (.t q30)⟩, ⟨some q5, none, .mov (.t q31)⟩]))
def L19_1 : IC := .seq (.seq (.reg [⟨some q10, none, .mov (.t q0)⟩, ⟨some q11, none, .nck (.t q10)⟩, ⟨some q12, none, .fa 2 (.t q11)⟩, ⟨some q13, none, .ld1 (.t q12)⟩, ⟨some q14, none, .binI .eql (.t q13) (.c (.i .i64 0))⟩, ⟨some q15, none, .mov (.t q14)⟩, ⟨some q16, some (q15, true), .mov (.t q0)⟩, ⟨some q17, some (q15, true), .call 39 [.t q16, .c (.i .u8 124)]⟩, ⟨some q18, none, .pick (.t q15) (.t q17) (.c (.b false))⟩]) (.cond (.t q18) .skip (.exit 0))) K19_0
def K19_2 : IC := .seq (.reg [⟨some q38, none, .mov (.t q5)⟩, ⟨some q39, none, .build [.i .i64 0, .i .u64 0, .i .u64 0, .i .u64 0, .i .u64 0, .nils] [(0, 1, .c (.i .i64 3)), (5, 1, .t q38)]⟩, ⟨none, none, .st 6 (.t q4) (.t q39)⟩]) .ret
def K19_3 : IC := .seq (.seq (.reg [⟨some q32, none, .mov (.t q5)⟩, ⟨some q33, none, .len (.t q32)⟩, ⟨some q34, none, .binI .eql (.t q33) (.c (.i .i64 1))⟩]) (.cond (.t q34) (.seq (.reg [⟨some q35, none, .mov (.t q5)⟩, ⟨some q36, none, .ixS 6 (.t q35) (.c (.i .i64 0))⟩, ⟨some q37, none, .ldN 6 (.t q36)⟩, ⟨none, none, .st 6 (.t q4) (.t q37)⟩]) .ret) .skip)) K19_2
def B19 : IC := .seq (.reg [⟨some q4, none, .new [.i .i64 0, .i .u64 0, .i .u64 0, .i .u64 0, .i .u64 0, .nils]⟩]) (.seq (.reg [⟨some q6, none, .mov (.t q0)⟩, ⟨some q7, none, .mov (.t q1)⟩, ⟨some q8, none, .call 38 [.t q6, .t q7]⟩, ⟨some q9, none, .bsl 6 1 [.i .i64 0, .i .u64 0, .i .u64 0, .i .u64 0, .i .u64 0, .nils] [(0, 6, .t q8)]⟩, ⟨some q5, none, .mov (.t q9)⟩]) (.seq (.block 0 (.loop L19_1)) K19_3))
def F19 : IFn := ⟨40, [.cN q4 6], B19⟩
theorem R19 : F19.res = [.cN q4 6] := rfl
theorem fits19 : FitsF Try.prog 19 F19 := cmpF_fits (pol := fun _ => false) Try.func19 (by kernel_rfl)
def B20 : IC := .seq (.reg [⟨some q2, none, .mov (.c (.b false))⟩]) (.seq (.dreg 0 [(⟨some q3, none, .mov (.t q0)⟩, .pu), (⟨some q4, none, .nck (.t q3)⟩, .pu), (⟨some q5, none, .fa 1 (.t q4)⟩, .pu), (⟨some q6, none, .ld1 (.t q5)⟩, .rd 0), (⟨some q7, none, .mov (.t q0)⟩, .pu), (⟨some q8, none, .nck (.t q7)⟩, .pu), (⟨some q9, none, .fa 0 (.t q8)⟩, .pu), (⟨some q10, none, .ld1 (.t q9)⟩, .rd 0), (⟨some q11, none, .lenT (.t q10)⟩, .pu)] [⟨some q12, none, .binI .geq (.t q6) (.t q11)⟩, ⟨some q2, none, .mov (.t q12)⟩] []) .ret)
def F20 : IFn := ⟨13, [.tmp q2], B20⟩
theorem R20 : F20.res = [.tmp q2] := rfl
theorem fits20 : FitsF Try.prog 20 F20 := cmpF_fits (pol := fun _ => false) Try.func20 (by kernel_rfl)
def B21 : IC := .seq (.reg [⟨some q6, none, .mov (.t q0)⟩, ⟨some q7, none, .nck (.t q6)⟩, ⟨some q8, none, .fa 2 (.t q7)⟩, ⟨some q9, none, .ld1 (.t q8)⟩, ⟨some q10, none, .binI .eql (.t q9) (.c (.i .i64 0))⟩]) (.cond (.t q10) (.seq (.reg [⟨some q11, none, .mov (.t q0)⟩, ⟨some q12, none, .mov (.t q1)⟩, ⟨some q13, none, .nck (.t q11)⟩, ⟨some q14, none, .fa 2 (.t q13)⟩, ⟨none, none, .st 1 (.t q14) (.t q12)⟩]) (.reg [⟨some q15, none, .mov (.t q0)⟩, ⟨some q16, none, .mov (.t q2)⟩, ⟨some q17, none, .nck (.t q15)⟩, ⟨some q18, none, .fa 3 (.t q17)⟩, ⟨none, none, .st 1 (.t q18) (.t q16)⟩])) .skip)
def F21 : IFn := ⟨19, [], B21⟩
theorem R21 : F21.res = [] := rfl
theorem fits21 : FitsF Try.prog 21 F21 := cmpF_fits (pol := fun _ => false) Try.func21 (by kernel_rfl)
def K22_0 : IC := .seq (.reg [⟨some q30, none, .mov (.t q0)⟩, ⟨some q31, none, .nck (.t q30)⟩, ⟨some q32, none, .fa 1 (.t q31)⟩, ⟨some q33, none, .ld1 (.t q32)⟩, ⟨some q34, none, .mov (.t q4)⟩, ⟨some q35, none, .ixS 5 (.t q33) (.t q34)⟩, ⟨some q36, none, .fa 2 (.t q35)⟩, ⟨some q37, none, .ld1 (.t q36)⟩, ⟨some q38, none, .len (.t q37)⟩, ⟨some q39, none, .binI .eql (.t q38) (.c (.i .i64 0))⟩]) (.cond (.t q39) (.reg [⟨some q40, none, .mov (.t q0)⟩, ⟨some q41, none, .mov (.t q4)⟩, ⟨some q42, none, .call 41 [.t q40, .t q41]⟩]) (.reg [⟨some q43, none, .mov (.t q0)⟩, ⟨some q44, none, .mov (.t q4)⟩, ⟨some q45, none, .call 42 [.t q43, .t q44]⟩]))
def K22_1 : IC := .block 1 (.seq (.dreg 0 [(⟨some q18, none, .mov (.t q0)⟩, .pu), (⟨some q19, none, .nck (.t q18)⟩, .pu), (⟨some q20, none, .fa 2 (.t q19)⟩, .pu), (⟨some q21, none, .ld1 (.t q20)⟩, .rd 0), (⟨some q22, none, .mov (.t q0)⟩, .pu), (⟨some q23, none, .nck (.t q22)⟩, .pu), (⟨some q24, none, .fa 2 (.t q23)⟩, .pu), (⟨some q25, none, .ld1 (.t q24)⟩, .rd 0), (⟨some q26, none, .len (.t q25)⟩, .pu), (⟨some q27, none, .binI .sub (.t q26) (.c (.i .i64 1))⟩, .pu)] [⟨some q28, none, .ixS 1 (.t q21) (.t q27)⟩, ⟨some q29, none, .ld1 (.t q28)⟩, ⟨some q4, none, .mov (.t q29)⟩] []) K22_0)
def L22_2 : IC := .seq (.seq (.reg [⟨some q12, none, .mov (.t q0)⟩, ⟨some q13, none, .nck (.t q12)⟩, ⟨some q14, none, .fa 2 (.t q13)⟩, ⟨some q15, none, .ld1 (.t q14)⟩, ⟨some q16, none, .len (.t q15)⟩, ⟨some q17, none, .binI .gtr (.t q16) (.c (.i .i64 0))⟩]) (.cond (.t q17) .skip (.exit 0))) K22_1
def B22 : IC := .seq (.reg [⟨some q5, none, .mov (.t q0)⟩, ⟨some q6, none, .mkm⟩, ⟨some q7, none, .nck (.t q5)⟩, ⟨some q8, none, .fa 0 (.t q7)⟩, ⟨none, none, .st 1 (.t q8) (.t q6)⟩]) (.seq (.reg [⟨some q9, none, .mov (.t q0)⟩, ⟨some q10, none, .mov (.t q1)⟩, ⟨some q11, none, .call 40 [.t q9, .t q10]⟩]) (.block 0 (.loop L22_2)))
def F22 : IFn := ⟨46, [], B22⟩
theorem R22 : F22.res = [] := rfl
theorem fits22 : FitsF Try.prog 22 F22 := cmpF_fits (pol := fun _ => false) Try.func22 (by kernel_rfl)
def K23_0 : IC := .seq (.reg [⟨some q30, none, .build [.i .i64 0, .i .i64 0] [(1, 1, .c (.i .i64 1))]⟩, ⟨none, none, .st 2 (.t q4) (.t q30)⟩]) .ret
def B23 : IC := .seq (.reg [⟨some q4, none, .new [.i .i64 0, .i .i64 0]⟩]) (.seq (.block 0 (.seq (.reg [⟨some q6, none, .mov (.t q1)⟩, ⟨some q7, none, .call 43 [.t q6]⟩, ⟨some q8, none, .len (.t q7)⟩, ⟨some q9, none, .binI .gtr (.t q8) (.c (.i .i64 0))⟩, ⟨some q5, none, .mov (.t q9)⟩]) (.cond (.t q5) (.seq (.dreg 0 [(⟨some q10, none, .mov (.t q0)⟩, .pu), (⟨some q11, none, .nck (.t q10)⟩, .pu), (⟨some q12, none, .fa 1 (.t q11)⟩, .pu), (⟨some q13, none, .ld1 (.t q12)⟩, .rd 0), (⟨some q14, none, .mov (.t q0)⟩, .pu), (⟨some q15, none, .nck (.t q14)⟩, .pu), (⟨some q16, none, .fa 0 (.t q15)⟩, .pu), (⟨some q17, none, .ld1 (.t q16)⟩, .rd 0), (⟨some q18, none, .mov (.t q1)⟩, .pu), (⟨some q19, none, .rdm (.lkpP false (.i .i64 0)) (.t q17) (.t q18)⟩, .rd 0)] [⟨some q20, none, .ixS 5 (.t q13) (.t q19)⟩, ⟨some q21, none, .fa 0 (.t q20)⟩, ⟨some q22, none, .ldN 2 (.t q21)⟩, ⟨none, none, .st 2 (.t q4) (.t q22)⟩] []) .ret) (.seq (.reg [⟨some q24, none, .mov (.t q1)⟩, ⟨some q25, none, .nck (.t q24)⟩, ⟨some q26, none, .fa 0 (.t q25)⟩, ⟨some q27, none, .ld1 (.t q26)⟩, ⟨some q28, none, .binI .eql (.t q27) (.c (.i .i64 1))⟩, ⟨some q23, none, .mov (.t q28)⟩]) (.cond (.t q23) (.seq (.reg [⟨some q29, none, .build [.i .i64 0, .i .i64 0] [(0, 1, .c (.i .i64 1)), (1, 1, .c (.i .i64 1))]⟩, ⟨none, none, .st 2 (.t q4) (.t q29)⟩]) .ret) .skip))))) K23_0)
def F23 : IFn := ⟨31, [.cN q4 2], B23⟩
theorem R23 : F23.res = [.cN q4 2] := rfl
theorem fits23 : FitsF Try.prog 23 F23 := cmpF_fits (pol := fun _ => false) Try.func23 (by kernel_rfl)
def K24_0 : IC := .reg [⟨some q37, none, .binI .add (.t q26) (.c (.i .i64 1))⟩, ⟨some q26, none, .mov (.t q37)⟩]
def K24_1 : IC := .seq (.block 1 (.seq (.reg [⟨some q28, none, .ixS 3 (.t q24) (.t q26)⟩, ⟨some q29, none, .ldN 3 (.t q28)⟩, ⟨some q7, none, .new [.i .u64 0, .i .u64 0, .i .u64 0]⟩, ⟨none, none, .st 3 (.t q7) (.t q29)⟩]) (.dreg 0 [(⟨some q30, none, .fa 4 (.t q5)⟩, .pu), (⟨some q31, none, .ld1 (.t q30)⟩, .rd 0), (⟨some q32, none, .ldN 3 (.t q7)⟩, .rd 0), (⟨some q33, none, .call 44 [.t q32]⟩, .ad), (⟨some q34, none, .bsl 1 1 [.nils] [(0, 1, .t q33)]⟩, .ad)] [⟨some q35, none, .app 1 24 (.t q31) (.t q34)⟩, ⟨some q36, none, .fa 4 (.t q5)⟩, ⟨none, none, .st 1 (.t q36) (.t q35)⟩] []))) K24_0
def L24_2 : IC := .seq (.reg [⟨some q27, none, .binI .lss (.t q26) (.t q25)⟩]) (.seq (.cond (.t q27) .skip (.exit 0)) K24_1)
def K24_3 : IC := .seq (.reg [⟨some q38, none, .ldN 5 (.t q5)⟩, ⟨none, none, .st 5 (.t q4) (.t q38)⟩]) .ret
def K24_4 : IC := .seq (.seq (.reg [⟨some q21, none, .mov (.t q0)⟩, ⟨some q22, none, .nck (.t q21)⟩, ⟨some q23, none, .fa 4 (.t q22)⟩, ⟨some q24, none, .ld1 (.t q23)⟩, ⟨some q25, none, .len (.t q24)⟩, ⟨some q26, none, .mov (.c (.i .i64 0))⟩]) (.block 0 (.loop L24_2))) K24_3
def B24 : IC := .seq (.reg [⟨some q3, none, .box (.t q1)⟩, ⟨some q4, none, .new [.nils, .b false, .nils, .nils, .nils]⟩]) (.seq (.dreg 1 [(⟨some q8, none, .mov (.t q0)⟩, .pu), (⟨some q9, none, .nck (.t q8)⟩, .pu), (⟨some q10, none, .fa 3 (.t q9)⟩, .pu), (⟨some q11, none, .ld1 (.t q10)⟩, .rd 0), (⟨some q12, none, .fa 0 (.t q3)⟩, .pu), (⟨some q13, none, .ld1 (.t q12)⟩, .rd 0), (⟨some q14, none, .fa 1 (.t q3)⟩, .pu), (⟨some q15, none, .ldN 3 (.t q14)⟩, .rd 0), (⟨some q16, none, .call 44 [.t q15]⟩, .ad), (⟨some q17, none, .fa 4 (.t q3)⟩, .pu), (⟨some q18, none, .ldN 3 (.t q17)⟩, .rd 1), (⟨some q19, none, .call 44 [.t q18]⟩, .ad), (⟨some q20, none, .build [.nils, .b false, .nils, .nils, .nils] [(0, 1, .t q11), (1, 1, .t q13), (2, 1, .t q16), (3, 1, .t q19)]⟩, .pu), (⟨some q5, none, .new [.nils, .b false, .nils, .nils, .nils]⟩, .fl 0)] [⟨none, none, .st 5 (.t q5) (.t q20)⟩] []) K24_4)
def F24 : IFn := ⟨39, [.cN q4 5], B24⟩
theorem R24 : F24.res = [.cN q4 5] := rfl
theorem fits24 : FitsF Try.prog 24 F24 := cmpF_fits (pol := fun _ => false) Try.func24 (by kernel_rfl)
def K25_0 : IC := .seq (.dreg 0 [(⟨some q41, none, .mov (.t q0)⟩, .pu), (⟨some q42, none, .mov (.t q1)⟩, .pu), (⟨some q43, none, .nck (.t q42)⟩, .pu), (⟨some q44, none, .fa 0 (.t q43)⟩, .pu), (⟨some q45, none, .ld1 (.t q44)⟩, .rd 0), (⟨some q46, none, .mov (.t q1)⟩, .pu), (⟨some q47, none, .nck (.t q46)⟩, .pu), (⟨some q48, none, .fa 5 (.t q47)⟩, .pu), (⟨some q49, none, .ld1 (.t q48)⟩, .rd 0), (⟨some q50, none, .ixS 6 (.t q49) (.c (.i .i64 0))⟩, .pu)] [⟨some q51, none, .call 48 [.t q41, .t q45, .t q50]⟩, ⟨none, none, .st 7 (.t q4) (.t q51)⟩] []) .ret
def K25_1 : IC := .seq (.seq (.reg [⟨some q13, none, .mov (.t q1)⟩, ⟨some q14, none, .nck (.t q13)⟩, ⟨some q15, none, .fa 0 (.t q14)⟩, ⟨some q16, none, .ld1 (.t q15)⟩]) (.block 0 (.seq (.reg [⟨some q18, none, .binI .eql (.t q16) (.c (.i .i64 1))⟩, ⟨some q17, none, .mov (.t q18)⟩]) (.cond (.t q17) (.seq (.reg [⟨some q19, none, .mov (.t q0)⟩, ⟨some q20, none, .mov (.t q1)⟩, ⟨some q21, none, .nck (.t q20)⟩, ⟨some q22, none, .fa 1 (.t q21)⟩, ⟨some q23, none, .ldN 4 (.t q22)⟩, ⟨some q24, none, .call 45 [.t q19, .t q23]⟩, ⟨none, none, .st 7 (.t q4) (.t q24)⟩]) .ret) (.seq (.reg [⟨some q26, none, .binI .eql (.t q16) (.c (.i .i64 2))⟩, ⟨some q25, none, .mov (.t q26)⟩]) (.cond (.t q25) (.seq (.reg [⟨some q27, none, .mov (.t q0)⟩, ⟨some q28, none, .mov (.t q1)⟩, ⟨some q29, none, .nck (.t q28)⟩, ⟨some q30, none, .fa 5 (.t q29)⟩, ⟨some q31, none, .ld1 (.t q30)⟩, ⟨some q32, none, .call 46 [.t q27, .t q31]⟩, ⟨none, none, .st 7 (.t q4) (.t q32)⟩]) .ret) (.seq (.reg [⟨some q34, none, .binI .eql (.t q16) (.c (.i .i64 3))⟩, ⟨some q33, none, .mov (.t q34)⟩]) (.cond (.t q33) (.seq (.reg [⟨some q35, none, .mov (.t q0)⟩, ⟨some q36, none, .mov (.t q1)⟩, ⟨some q37, none, .nck (.t q36)⟩, ⟨some q38, none, .fa 5 (.t q37)⟩, ⟨some q39, none, .ld1 (.t q38)⟩, ⟨some q40, none, .call 47 [.t q35, .t q39]⟩, ⟨none, none, .st 7 (.t q4) (.t q40)⟩]) .ret) .skip)))))))) K25_0
def B25 : IC := .seq (.reg [⟨some q4, none, .new [.b false, .i .u64 0, .i .u64 0, .i .u64 0, .i .u64 0, .i .u64 0, .i .u64 0]⟩]) (.seq (.seq (.reg [⟨some q5, none, .mov (.t q0)⟩, ⟨some q6, none, .nck (.t q5)⟩, ⟨some q7, none, .fa 0 (.t q6)⟩, ⟨some q8, none, .mov (.t q1)⟩, ⟨some q9, none, .call 23 [.t q7, .t q8]⟩, ⟨some q10, none, .fld1 0 (.t q9)⟩, ⟨some q11, none, .binI .eql (.t q10) (.c (.i .i64 0))⟩]) (.cond (.t q11) (.seq (.reg [⟨some q12, none, .build [.b false, .i .u64 0, .i .u64 0, .i .u64 0, .i .u64 0, .i .u64 0, .i .u64 0] [(0, 1, .c (.b true))]⟩, ⟨none, none, .st 7 (.t q4) (.t q12)⟩]) .ret) .skip)) K25_1)
def F25 : IFn := ⟨52, [.cN q4 7], B25⟩
theorem R25 : F25.res = [.cN q4 7] := rfl
theorem fits25 : FitsF Try.prog 25 F25 := cmpF_fits (pol := fun _ => false) Try.func25 (by kernel_rfl)
def K26_0 : IC := .reg [⟨some q69, none, .binI .add (.t q46) (.c (.i .i64 1))⟩, ⟨some q46, none, .mov (.t q69)⟩]
def K26_1 : IC := .seq (.block 1 (.seq (.reg [⟨some q48, none, .ixS 1 (.t q44) (.t q46)⟩, ⟨some q49, none, .ld1 (.t q48)⟩, ⟨some q7, none, .mov (.t q49)⟩]) (.seq (.reg [⟨some q50, none, .mov (.t q7)⟩, ⟨some q51, none, .mov (.t q0)⟩, ⟨some q52, none, .nck (.t q51)⟩, ⟨some q53, none, .fa 0 (.t q52)⟩, ⟨some q54, none, .fa 4 (.t q53)⟩, ⟨some q55, none, .ld1 (.t q54)⟩, ⟨some q56, none, .len (.t q55)⟩, ⟨some q57, none, .binI .lss (.t q50) (.t q56)⟩]) (.cond (.t q57) (.reg [⟨some q58, none, .mov (.t q0)⟩, ⟨some q59, none, .mov (.t q0)⟩, ⟨some q60, none, .nck (.t q59)⟩, ⟨some q61, none, .fa 0 (.t q60)⟩, ⟨some q62, none, .fa 4 (.t q61)⟩, ⟨some q63, none, .ld1 (.t q62)⟩, ⟨some q64, none, .mov (.t q7)⟩, ⟨some q65, none, .ixS 1 (.t q63) (.t q64)⟩, ⟨some q66, none, .ld1 (.t q65)⟩, ⟨some q67, none, .mov (.t q1)⟩, ⟨some q68, none, .call 49 [.t q58, .t q66, .t q67]⟩]) .skip)))) K26_0
def L26_2 : IC := .seq (.reg [⟨some q47, none, .binI .lss (.t q46) (.t q45)⟩]) (.seq (.cond (.t q47) .skip (.exit 0)) K26_1)
def K26_3 : IC := .seq (.reg [⟨some q70, none, .mov (.t q0)⟩, ⟨some q71, none, .nck (.t q70)⟩, ⟨some q72, none, .fa 6 (.t q71)⟩, ⟨some q73, none, .ld1 (.t q72)⟩, ⟨some q74, none, .len (.t q73)⟩, ⟨some q75, none, .binI .gtr (.t q74) (.c (.i .i64 0))⟩, ⟨some q4, none, .mov (.t q75)⟩]) .ret
def K26_4 : IC := .seq (.seq (.reg [⟨some q44, none, .mov (.t q5)⟩, ⟨some q45, none, .len (.t q44)⟩, ⟨some q46, none, .mov (.c (.i .i64 0))⟩]) (.block 0 (.loop L26_2))) K26_3
def B26 : IC := .seq (.reg [⟨some q4, none, .mov (.c (.b false))⟩]) (.seq (.reg [⟨some q8, none, .mov (.t q0)⟩, ⟨some q9, none, .nck (.t q8)⟩, ⟨some q10, none, .fa 6 (.t q9)⟩, ⟨some q11, none, .ld1 (.t q10)⟩, ⟨some q5, none, .mov (.t q11)⟩]) (.seq (.reg [⟨some q12, none, .mov (.t q0)⟩, ⟨some q13, none, .mov (.t q0)⟩, ⟨some q14, none, .mov (.t q0)⟩, ⟨some q15, none, .nck (.t q14)⟩, ⟨some q16, none, .fa 7 (.t q15)⟩, ⟨some q17, none, .ld1 (.t q16)⟩, ⟨some q18, none, .cut 1 (.t q17) none (some (.c (.i .i64 0)))⟩, ⟨some q19, none, .mov (.t q5)⟩, ⟨some q20, none, .nck (.t q12)⟩, ⟨some q21, none, .fa 6 (.t q20)⟩, ⟨none, none, .st 1 (.t q21) (.t q18)⟩, ⟨some q22, none, .nck (.t q13)⟩, ⟨some q23, none, .fa 7 (.t q22)⟩, ⟨none, none, .st 1 (.t q23) (.t q19)⟩]) (.seq (.reg [⟨some q24, none, .mov (.t q0)⟩, ⟨some q25, none, .nck (.t q24)⟩, ⟨some q26, none, .fa 5 (.t q25)⟩, ⟨some q27, none, .ld1 (.t q26)⟩, ⟨some q28, none, .binI .add (.t q27) (.c (.i .i64 1))⟩, ⟨some q29, none, .nck (.t q24)⟩, ⟨some q30, none, .fa 5 (.t q29)⟩, ⟨none, none, .st 1 (.t q30) (.t q28)⟩]) (.seq (.seq (.reg [⟨some q31, none, .mov (.t q0)⟩, ⟨some q32, none, .nck (.t q31)⟩, ⟨some q33, none, .fa 5 (.t q32)⟩, ⟨some q34, none, .ld1 (.t q33)⟩, ⟨some q35, none, .binI .eql (.t q34) (.c (.i .i64 1))⟩]) (.cond (.t q35) (.reg [⟨some q36, none, .mov (.t q0)⟩, ⟨some q37, none, .mov (.t q0)⟩, ⟨some q38, none, .nck (.t q37)⟩, ⟨some q39, none, .fa 0 (.t q38)⟩, ⟨some q40, none, .fa 2 (.t q39)⟩, ⟨some q41, none, .ld1 (.t q40)⟩, ⟨some q42, none, .mov (.t q1)⟩, ⟨some q43, none, .call 49 [.t q36, .t q41, .t q42]⟩]) .skip)) K26_4))))
def F26 : IFn := ⟨76, [.tmp q4], B26⟩
theorem R26 : F26.res = [.tmp q4] := rfl
theorem fits26 : FitsF Try.prog 26 F26 := cmpF_fits (pol := fun _ => false) Try.func26 (by kernel_rfl)
def B27 : IC := .seq (.reg [⟨some q4, none, .mov (.c (.b false))⟩]) (.seq (.reg [⟨some q5, none, .mov (.t q0)⟩, ⟨some q6, none, .mov (.t q1)⟩, ⟨some q7, none, .call 50 [.t q5, .t q6]⟩, ⟨some q8, none, .binI .geq (.t q7) (.c (.i .i64 0))⟩, ⟨some q4, none, .mov (.t q8)⟩]) .ret)
def F27 : IFn := ⟨9, [.tmp q4], B27⟩
theorem R27 : F27.res = [.tmp q4] := rfl
theorem fits27 : FitsF Try.prog 27 F27 := cmpF_fits (pol := fun _ => false) Try.func27 (by kernel_rfl)
def B28 : IC := .seq (.reg [⟨some q4, none, .mov (.c (.b false))⟩]) (.seq (.dreg 0 [(⟨some q5, none, .mov (.t q0)⟩, .pu), (⟨some q6, none, .mov (.t q1)⟩, .pu), (⟨some q7, none, .call 51 [.t q5, .t q6]⟩, .md), (⟨some q8, none, .mov (.t q7)⟩, .pu), (⟨some q9, some (q8, true), .mov (.t q0)⟩, .pu), (⟨some q10, some (q8, true), .nck (.t q9)⟩, .pu), (⟨some q11, some (q8, true), .fa 8 (.t q10)⟩, .pu), (⟨some q12, some (q8, true), .ld1 (.t q11)⟩, .rd 0), (⟨some q13, some (q8, true), .mov (.t q1)⟩, .pu), (⟨some q14, some (q8, true), .ixS 1 (.t q12) (.t q13)⟩, .pu), (⟨some q15, some (q8, true), .ld1 (.t q14)⟩, .rd 0), (⟨some q16, some (q8, true), .mov (.t q0)⟩, .pu), (⟨some q17, some (q8, true), .nck (.t q16)⟩, .pu), (⟨some q18, some (q8, true), .fa 5 (.t q17)⟩, .pu), (⟨some q19, some (q8, true), .ld1 (.t q18)⟩, .rd 0)] [⟨some q20, some (q8, true), .binI .eql (.t q15) (.t q19)⟩, ⟨some q21, none, .pick (.t q8) (.t q20) (.c (.b false))⟩, ⟨some q4, none, .mov (.t q21)⟩] []) .ret)
def F28 : IFn := ⟨22, [.tmp q4], B28⟩
theorem R28 : F28.res = [.tmp q4] := rfl
theorem fits28 : FitsF Try.prog 28 F28 := cmpF_fits (pol := fun _ => false) Try.func28 (by kernel_rfl)
def B29 : IC := .seq (.reg [⟨some q2, none, .box (.t q0)⟩, ⟨some q4, none, .mov (.c (.b false))⟩]) (.seq (.reg [⟨some q5, none, .mov (.t q1)⟩, ⟨some q6, none, .binI .shr (.t q5) (.c (.i .u64 6))⟩, ⟨some q7, none, .ixA 4 1 (.t q2) (.t q6)⟩, ⟨some q8, none, .ld1 (.t q7)⟩, ⟨some q9, none, .mov (.t q1)⟩, ⟨some q10, none, .binI .and (.t q9) (.c (.i .u8 63))⟩, ⟨some q11, none, .cvI .u64 (.t q10)⟩, ⟨some q12, none, .binI .shr (.t q8) (.t q11)⟩, ⟨some q13, none, .binI .and (.t q12) (.c (.i .u64 1))⟩, ⟨some q14, none, .binI .eql (.t q13) (.c (.i .u64 1))⟩, ⟨some q4, none, .mov (.t q14)⟩]) .ret)
def F29 : IFn := ⟨15, [.tmp q4], B29⟩
theorem R29 : F29.res = [.tmp q4] := rfl
theorem fits29 : FitsF Try.prog 29 F29 := cmpF_fits (pol := fun _ => false) Try.func29 (by kernel_rfl)
def K38_0 : IC := .block 1 (.reg [⟨some q26, none, .mov (.t q5)⟩, ⟨some q27, none, .mov (.t q0)⟩, ⟨some q28, none, .mov (.t q1)⟩, ⟨some q29, none, .call 60 [.t q27, .t q28]⟩, ⟨some q30, none, .bsl 6 1 [.i .i64 0, .i .u64 0, .i .u64 0, .i .u64 0, .i .u64 0, .nils] [(0, 6, .t q29)]⟩, ⟨some q31, none, .app 6 64 (.t q26) (.t q30)⟩, ⟨some q5, none, .mov (.t q31)⟩])
def L38_1 : IC := .seq (.seq (.reg [⟨some q6, none, .mov (.t q0)⟩, ⟨some q7, none, .nck (.t q6)⟩, ⟨some q8, none, .fa 2 (.t q7)⟩, ⟨some q9, none, .ld1 (.t q8)⟩, ⟨some q10, none, .binI .eql (.t q9) (.c (.i .i64 0))⟩, ⟨some q11, none, .mov (.t q10)⟩, ⟨some q12, some (q11, true), .mov (.t q0)⟩, ⟨some q13, some (q11, true), .call 20 [.t q12]⟩, ⟨some q14, some (q11, true), .un .not (.t q13)⟩, ⟨some q15, none, .pick (.t q11) (.t q14) (.c (.b false))⟩, ⟨some q16, none, .mov (.t q15)⟩, ⟨some q17, some (q16, true), .mov (.t q0)⟩, ⟨some q18, some (q16, true), .call 39 [.t q17, .c (.i .u8 124)]⟩, ⟨some q19, some (q16, true), .un .not (.t q18)⟩, ⟨some q20, none, .pick (.t q16) (.t q19) (.c (.b false))⟩, ⟨some q21, none, .mov (.t q20)⟩, ⟨some q22, some (q21, true), .mov (.t q0)⟩, ⟨some q23, some (q21, true), .call 39 [.t q22, .c (.i .u8 41)]⟩, ⟨some q24, some (q21, true), .un .not (.t q23)⟩, ⟨some q25, none, .pick (.t q21) (.t q24) (.c (.b false))⟩]) (.cond (.t q25) .skip (.exit 0))) K38_0
def K38_2 : IC := .seq (.reg [⟨some q42, none, .mov (.t q5)⟩, ⟨some q43, none, .build [.i .i64 0, .i .u64 0, .i .u64 0, .i .u64 0, .i .u64 0, .nils] [(0, 1, .c (.i .i64 2)), (5, 1, .t q42)]⟩, ⟨none, none, .st 6 (.t q4) (.t q43)⟩]) .ret
def K38_3 : IC := .seq (.seq (.reg [⟨some q32, none, .mov (.t q5)⟩, ⟨some q33, none, .len (.t q32)⟩]) (.block 2 (.seq (.reg [⟨some q35, none, .binI .eql (.t q33) (.c (.i .i64 0))⟩, ⟨some q34, none, .mov (.t q35)⟩]) (.cond (.t q34) (.seq (.reg [⟨some q36, none, .build [.i .i64 0, .i .u64 0, .i .u64 0, .i .u64 0, .i .u64 0, .nils] []⟩, ⟨none, none, .st 6 (.t q4) (.t q36)⟩]) .ret) (.seq (.reg [⟨some q38, none, .binI .eql (.t q33) (.c (.i .i64 1))⟩, ⟨some q37, none, .mov (.t q38)⟩]) (.cond (.t q37) (.seq (.reg [⟨some q39, none, .mov (.t q5)⟩, ⟨some q40, none, .ixS 6 (.t q39) (.c (.i .i64 0))⟩, ⟨some q41, none, .ldN 6 (.t q40)⟩, ⟨none, none, .st 6 (.t q4) (.t q41)⟩]) .ret) .skip)))))) K38_2
def B38 : IC := .seq (.reg [⟨some q4, none, .new [.i .i64 0, .i .u64 0, .i .u64 0, .i .u64 0, .i .u64 0, .nils]⟩]) (.seq (.reg [⟨some q5, none, .mov (.c .nils)⟩]) (.seq (.block 0 (.loop L38_1)) K38_3))
def F38 : IFn := ⟨44, [.cN q4 6], B38⟩
theorem R38 : F38.res = [.cN q4 6] := rfl
theorem fits38 : FitsF Try.prog 38 F38 := cmpF_fits (pol := fun _ => false) Try.func38 (by kernel_rfl)
def B39 : IC := .seq (.reg [⟨some q4, none, .mov (.c (.b false))⟩]) (.seq (.dreg 0 [(⟨some q5, none, .mov (.t q0)⟩, .pu), (⟨some q6, none, .call 20 [.t q5]⟩, .md), (⟨some q7, none, .un .not (.t q6)⟩, .pu), (⟨some q8, none, .mov (.t q7)⟩, .pu), (⟨some q9, some (q8, true), .mov (.t q0)⟩, .pu), (⟨some q10, some (q8, true), .nck (.t q9)⟩, .pu), (⟨some q11, some (q8, true), .fa 0 (.t q10)⟩, .pu), (⟨some q12, some (q8, true), .ld1 (.t q11)⟩, .rd 0), (⟨some q13, some (q8, true), .mov (.t q0)⟩, .pu), (⟨some q14, some (q8, true), .nck (.t q13)⟩, .pu), (⟨some q15, some (q8, true), .fa 1 (.t q14)⟩, .pu), (⟨some q16, some (q8, true), .ld1 (.t q15)⟩, .rd 0), (⟨some q17, some (q8, true), .pu2 .ixT (.t q12) (.t q16)⟩, .pu), (⟨some q18, some (q8, true), .mov (.t q1)⟩, .pu)] [⟨some q19, some (q8, true), .binI .eql (.t q17) (.t q18)⟩, ⟨some q20, none, .pick (.t q8) (.t q19) (.c (.b false))⟩, ⟨some q4, none, .mov (.t q20)⟩] []) .ret)
def F39 : IFn := ⟨21, [.tmp q4], B39⟩
theorem R39 : F39.res = [.tmp q4] := rfl
theorem fits39 : FitsF Try.prog 39 F39 := cmpF_fits (pol := fun _ => false) Try.func39 (by kernel_rfl)
def K40_0 : IC := .seq (.reg [⟨some q11, none, .mov (.t q0)⟩, ⟨some q12, none, .nck (.t q11)⟩, ⟨some q13, none, .fa 1 (.t q12)⟩, ⟨some q14, none, .ld1 (.t q13)⟩, ⟨some q15, none, .len (.t q14)⟩, ⟨some q5, none, .mov (.t q15)⟩]) (.seq (.reg [⟨some q16, none, .mov (.t q0)⟩, ⟨some q17, none, .nck (.t q16)⟩, ⟨some q18, none, .fa 0 (.t q17)⟩, ⟨some q19, none, .ld1 (.t q18)⟩, ⟨some q20, none, .mov (.t q1)⟩, ⟨some q21, none, .mov (.t q5)⟩, ⟨none, none, .wrm .mupP (.t q19) (.t q20) (.t q21)⟩]) (.seq (.reg [⟨some q22, none, .mov (.t q0)⟩, ⟨some q23, none, .mov (.t q0)⟩, ⟨some q24, none, .nck (.t q23)⟩, ⟨some q25, none, .fa 1 (.t q24)⟩, ⟨some q26, none, .ld1 (.t q25)⟩, ⟨some q27, none, .mov (.t q4)⟩, ⟨some q28, none, .build [.i .i64 0, .i .i64 0, .nils, .b false, .b false] [(2, 1, .t q27)]⟩, ⟨some q29, none, .bsl 5 1 [.i .i64 0, .i .i64 0, .nils, .b false, .b false] [(0, 5, .t q28)]⟩, ⟨some q30, none, .app 5 48 (.t q26) (.t q29)⟩, ⟨some q31, none, .nck (.t q22)⟩, ⟨some q32, none, .fa 1 (.t q31)⟩, ⟨none, none, .st 1 (.t q32) (.t q30)⟩]) (.reg [⟨some q33, none, .mov (.t q0)⟩, ⟨some q34, none, .mov (.t q0)⟩, ⟨some q35, none, .nck (.t q34)⟩, ⟨some q36, none, .fa 2 (.t q35)⟩, ⟨some q37, none, .ld1 (.t q36)⟩, ⟨some q38, none, .mov (.t q5)⟩, ⟨some q39, none, .bsl 1 1 [.i .i64 0] [(0, 1, .t q38)]⟩, ⟨some q40, none, .app 1 8 (.t q37) (.t q39)⟩, ⟨some q41, none, .nck (.t q33)⟩, ⟨some q42, none, .fa 2 (.t q41)⟩, ⟨none, none, .st 1 (.t q42) (.t q40)⟩])))
def B40 : IC := .seq (.reg [⟨some q6, none, .mov (.t q1)⟩, ⟨some q7, none, .call 43 [.t q6]⟩, ⟨some q4, none, .mov (.t q7)⟩]) (.seq (.seq (.reg [⟨some q8, none, .mov (.t q4)⟩, ⟨some q9, none, .len (.t q8)⟩, ⟨some q10, none, .binI .eql (.t q9) (.c (.i .i64 0))⟩]) (.cond (.t q10) .ret .skip)) K40_0)
def F40 : IFn := ⟨43, [], B40⟩
theorem R40 : F40.res = [] := rfl
theorem fits40 : FitsF Try.prog 40 F40 := cmpF_fits (pol := fun _ => false) Try.func40 (by kernel_rfl)
def K41_0 : IC := .seq (.reg [⟨some q44, none, .mov (.t q0)⟩, ⟨some q45, none, .nck (.t q44)⟩, ⟨some q46, none, .fa 2 (.t q45)⟩, ⟨some q47, none, .ld1 (.t q46)⟩, ⟨some q48, none, .len (.t q47)⟩, ⟨some q49, none, .binI .gtr (.t q48) (.c (.i .i64 0))⟩]) (.cond (.t q49) (.dreg 0 [(⟨some q50, none, .mov (.t q0)⟩, .pu), (⟨some q51, none, .nck (.t q50)⟩, .pu), (⟨some q52, none, .fa 1 (.t q51)⟩, .pu), (⟨some q53, none, .ld1 (.t q52)⟩, .rd 0), (⟨some q54, none, .mov (.t q0)⟩, .pu), (⟨some q55, none, .nck (.t q54)⟩, .pu), (⟨some q56, none, .fa 2 (.t q55)⟩, .pu), (⟨some q57, none, .ld1 (.t q56)⟩, .rd 0), (⟨some q58, none, .mov (.t q0)⟩, .pu), (⟨some q59, none, .nck (.t q58)⟩, .pu), (⟨some q60, none, .fa 2 (.t q59)⟩, .pu), (⟨some q61, none, .ld1 (.t q60)⟩, .rd 0), (⟨some q62, none, .len (.t q61)⟩, .pu), (⟨some q63, none, .binI .sub (.t q62) (.c (.i .i64 1))⟩, .pu), (⟨some q64, none, .ixS 1 (.t q57) (.t q63)⟩, .pu), (⟨some q65, none, .ld1 (.t q64)⟩, .rd 0), (⟨some q66, none, .ixS 5 (.t q53) (.t q65)⟩, .pu), (⟨some q67, none, .fa 0 (.t q66)⟩, .pu), (⟨some q68, none, .mov (.t q4)⟩, .pu), (⟨some q69, none, .nck (.t q68)⟩, .pu), (⟨some q70, none, .fa 0 (.t q69)⟩, .pu), (⟨some q71, none, .ldN 2 (.t q70)⟩, .rd 0)] [⟨some q72, none, .call 61 [.t q67, .t q71]⟩] []) .skip)
def K41_1 : IC := .seq (.dreg 0 [(⟨some q30, none, .mov (.t q0)⟩, .pu), (⟨some q31, none, .mov (.t q0)⟩, .pu), (⟨some q32, none, .nck (.t q31)⟩, .pu), (⟨some q33, none, .fa 2 (.t q32)⟩, .pu), (⟨some q34, none, .ld1 (.t q33)⟩, .rd 0), (⟨some q35, none, .mov (.t q0)⟩, .pu), (⟨some q36, none, .nck (.t q35)⟩, .pu), (⟨some q37, none, .fa 2 (.t q36)⟩, .pu), (⟨some q38, none, .ld1 (.t q37)⟩, .rd 0), (⟨some q39, none, .len (.t q38)⟩, .pu), (⟨some q40, none, .binI .sub (.t q39) (.c (.i .i64 1))⟩, .pu), (⟨some q41, none, .cut 1 (.t q34) none (some (.t q40))⟩, .pu)] [⟨some q42, none, .nck (.t q30)⟩, ⟨some q43, none, .fa 2 (.t q42)⟩, ⟨none, none, .st 1 (.t q43) (.t q41)⟩] []) K41_0
def B41 : IC := .seq (.reg [⟨some q5, none, .mov (.t q0)⟩, ⟨some q6, none, .nck (.t q5)⟩, ⟨some q7, none, .fa 1 (.t q6)⟩, ⟨some q8, none, .ld1 (.t q7)⟩, ⟨some q9, none, .mov (.t q1)⟩, ⟨some q10, none, .ixS 5 (.t q8) (.t q9)⟩, ⟨some q4, none, .mov (.t q10)⟩]) (.seq (.reg [⟨some q11, none, .mov (.t q4)⟩, ⟨some q12, none, .nck (.t q11)⟩, ⟨some q13, none, .fa 3 (.t q12)⟩, ⟨none, none, .st 1 (.t q13) (.c (.b true))⟩]) (.seq (.seq (.reg [⟨some q14, none, .mov (.t q4)⟩, ⟨some q15, none, .nck (.t q14)⟩, ⟨some q16, none, .fa 4 (.t q15)⟩, ⟨some q17, none, .ld1 (.t q16)⟩, ⟨some q18, none, .mov (.t q17)⟩, ⟨some q19, some (q18, true), .mov (.t q4)⟩, ⟨some q20, some (q18, true), .nck (.t q19)⟩, ⟨some q21, some (q18, true), .fa 0 (.t q20)⟩, ⟨some q22, some (q18, true), .fa 0 (.t q21)⟩, ⟨some q23, some (q18, true), .ld1 (.t q22)⟩, ⟨some q24, some (q18, true), .binI .gtr (.t q23) (.c (.i .i64 0))⟩, ⟨some q25, none, .pick (.t q18) (.t q24) (.c (.b false))⟩]) (.cond (.t q25) (.reg [⟨some q26, none, .mov (.t q4)⟩, ⟨some q27, none, .nck (.t q26)⟩, ⟨some q28, none, .fa 0 (.t q27)⟩, ⟨some q29, none, .fa 0 (.t q28)⟩, ⟨none, none, .st 1 (.t q29) (.c (.i .i64 151))⟩]) .skip)) K41_1))
def F41 : IFn := ⟨73, [], B41⟩
theorem R41 : F41.res = [] := rfl
theorem fits41 : FitsF Try.prog 41 F41 := cmpF_fits (pol := fun _ => false) Try.func41 (by kernel_rfl)
def K42_0 : IC := .seq (.reg [⟨some q48, none, .mov (.t q0)⟩, ⟨some q49, none, .nck (.t q48)⟩, ⟨some q50, none, .fa 0 (.t q49)⟩, ⟨some q51, none, .ld1 (.t q50)⟩, ⟨some q52, none, .mov (.t q4)⟩, ⟨some q53, none, .rdm (.lkpP true (.i .i64 0)) (.t q51) (.t q52)⟩, ⟨some q47, none, .mov (.t q53)⟩, ⟨some q54, none, .ext (.t q47) 0⟩, ⟨some q55, none, .ext (.t q47) 1⟩, ⟨some q5, none, .mov (.t q54)⟩, ⟨some q6, none, .mov (.t q55)⟩]) (.block 0 (.seq (.reg [⟨some q73, none, .mov (.t q6)⟩, ⟨some q74, none, .un .not (.t q73)⟩, ⟨some q72, none, .mov (.t q74)⟩]) (.cond (.t q72) (.reg [⟨some q75, none, .mov (.t q0)⟩, ⟨some q76, none, .mov (.t q4)⟩, ⟨some q77, none, .call 40 [.t q75, .t q76]⟩]) (.seq (.reg [⟨some q79, none, .mov (.t q0)⟩, ⟨some q80, none, .nck (.t q79)⟩, ⟨some q81, none, .fa 1 (.t q80)⟩, ⟨some q82, none, .ld1 (.t q81)⟩, ⟨some q83, none, .mov (.t q5)⟩, ⟨some q84, none, .ixS 5 (.t q82) (.t q83)⟩, ⟨some q85, none, .fa 3 (.t q84)⟩, ⟨some q86, none, .ld1 (.t q85)⟩, ⟨some q78, none, .mov (.t q86)⟩]) (.cond (.t q78) (.dreg 0 [(⟨some q87, none, .mov (.t q0)⟩, .pu), (⟨some q88, none, .nck (.t q87)⟩, .pu), (⟨some q89, none, .fa 1 (.t q88)⟩, .pu), (⟨some q90, none, .ld1 (.t q89)⟩, .rd 0), (⟨some q91, none, .mov (.t q1)⟩, .pu), (⟨some q92, none, .ixS 5 (.t q90) (.t q91)⟩, .pu), (⟨some q93, none, .fa 0 (.t q92)⟩, .pu), (⟨some q94, none, .mov (.t q0)⟩, .pu), (⟨some q95, none, .nck (.t q94)⟩, .pu), (⟨some q96, none, .fa 1 (.t q95)⟩, .pu), (⟨some q97, none, .ld1 (.t q96)⟩, .rd 0), (⟨some q98, none, .mov (.t q5)⟩, .pu), (⟨some q99, none, .ixS 5 (.t q97) (.t q98)⟩, .pu), (⟨some q100, none, .fa 0 (.t q99)⟩, .pu), (⟨some q101, none, .ldN 2 (.t q100)⟩, .rd 0)] [⟨some q102, none, .call 61 [.t q93, .t q101]⟩] []) (.seq (.reg [⟨some q56, none, .mov (.t q0)⟩, ⟨some q57, none, .nck (.t q56)⟩, ⟨some q58, none, .fa 1 (.t q57)⟩, ⟨some q59, none, .ld1 (.t q58)⟩, ⟨some q60, none, .mov (.t q5)⟩, ⟨some q61, none, .ixS 5 (.t q59) (.t q60)⟩, ⟨some q62, none, .fa 4 (.t q61)⟩, ⟨none, none, .st 1 (.t q62) (.c (.b true))⟩]) (.reg [⟨some q63, none, .mov (.t q0)⟩, ⟨some q64, none, .nck (.t q63)⟩, ⟨some q65, none, .fa 1 (.t q64)⟩, ⟨some q66, none, .ld1 (.t q65)⟩, ⟨some q67, none, .mov (.t q1)⟩, ⟨some q68, none, .ixS 5 (.t q66) (.t q67)⟩, ⟨some q69, none, .fa 0 (.t q68)⟩, ⟨some q70, none, .build [.i .i64 0, .i .i64 0] [(1, 1, .c (.i .i64 200))]⟩, ⟨some q71, none, .call 61 [.t q69, .t q70]⟩])))))))
def K42_1 : IC := .seq (.seq (.reg [⟨some q32, none, .mov (.t q4)⟩, ⟨some q33, none, .call 43 [.t q32]⟩, ⟨some q34, none, .len (.t q33)⟩, ⟨some q35, none, .binI .eql (.t q34) (.c (.i .i64 0))⟩]) (.cond (.t q35) (.seq (.dreg 0 [(⟨some q36, none, .mov (.t q0)⟩, .pu), (⟨some q37, none, .nck (.t q36)⟩, .pu), (⟨some q38, none, .fa 1 (.t q37)⟩, .pu), (⟨some q39, none, .ld1 (.t q38)⟩, .rd 0), (⟨some q40, none, .mov (.t q1)⟩, .pu), (⟨some q41, none, .ixS 5 (.t q39) (.t q40)⟩, .pu), (⟨some q42, none, .fa 0 (.t q41)⟩, .pu), (⟨some q43, none, .mov (.t q0)⟩, .pu), (⟨some q44, none, .mov (.t q4)⟩, .pu), (⟨some q45, none, .call 23 [.t q43, .t q44]⟩, .ad)] [⟨some q46, none, .call 61 [.t q42, .t q45]⟩] []) .ret) .skip)) K42_0
def B42 : IC := .seq (.reg [⟨some q7, none, .mov (.t q0)⟩, ⟨some q8, none, .nck (.t q7)⟩, ⟨some q9, none, .fa 1 (.t q8)⟩, ⟨some q10, none, .ld1 (.t q9)⟩, ⟨some q11, none, .mov (.t q1)⟩, ⟨some q12, none, .ixS 5 (.t q10) (.t q11)⟩, ⟨some q13, none, .fa 2 (.t q12)⟩, ⟨some q14, none, .ld1 (.t q13)⟩, ⟨some q15, none, .ixS 6 (.t q14) (.c (.i .i64 0))⟩, ⟨some q4, none, .mov (.t q15)⟩]) (.seq (.dreg 0 [(⟨some q16, none, .mov (.t q0)⟩, .pu), (⟨some q17, none, .nck (.t q16)⟩, .pu), (⟨some q18, none, .fa 1 (.t q17)⟩, .pu), (⟨some q19, none, .ld1 (.t q18)⟩, .rd 0), (⟨some q20, none, .mov (.t q1)⟩, .pu), (⟨some q21, none, .mov (.t q0)⟩, .pu), (⟨some q22, none, .nck (.t q21)⟩, .pu), (⟨some q23, none, .fa 1 (.t q22)⟩, .pu), (⟨some q24, none, .ld1 (.t q23)⟩, .rd 0), (⟨some q25, none, .mov (.t q1)⟩, .pu), (⟨some q26, none, .ixS 5 (.t q24) (.t q25)⟩, .pu), (⟨some q27, none, .fa 2 (.t q26)⟩, .pu), (⟨some q28, none, .ld1 (.t q27)⟩, .rd 0), (⟨some q29, none, .cut 6 (.t q28) (some (.c (.i .i64 1))) none⟩, .pu)] [⟨some q30, none, .ixS 5 (.t q19) (.t q20)⟩, ⟨some q31, none, .fa 2 (.t q30)⟩, ⟨none, none, .st 1 (.t q31) (.t q29)⟩] []) K42_1)
def F42 : IFn := ⟨103, [], B42⟩
theorem R42 : F42.res = [] := rfl
theorem fits42 : FitsF Try.prog 42 F42 := cmpF_fits (pol := fun _ => false) Try.func42 (by kernel_rfl)
def K43_0 : IC := .cond (.t q14) (.seq (.dreg 0 [(⟨some q18, none, .mov (.t q0)⟩, .pu), (⟨some q19, none, .nck (.t q18)⟩, .pu), (⟨some q20, none, .fa 5 (.t q19)⟩, .pu), (⟨some q21, none, .ld1 (.t q20)⟩, .rd 0), (⟨some q22, none, .mov (.t q0)⟩, .pu), (⟨some q23, none, .nck (.t q22)⟩, .pu), (⟨some q24, none, .fa 5 (.t q23)⟩, .pu), (⟨some q25, none, .ld1 (.t q24)⟩, .rd 0), (⟨some q26, none, .len (.t q25)⟩, .pu), (⟨some q27, none, .mn (.c (.i .i64 1)) (.t q26)⟩, .pu)] [⟨some q28, none, .cut 6 (.t q21) none (some (.t q27))⟩, ⟨some q2, none, .mov (.t q28)⟩] []) .ret) .skip
def K43_1 : IC := .cond (.t q7) (.seq (.reg [⟨some q10, none, .mov (.t q0)⟩, ⟨some q11, none, .nck (.t q10)⟩, ⟨some q12, none, .fa 5 (.t q11)⟩, ⟨some q13, none, .ld1 (.t q12)⟩, ⟨some q2, none, .mov (.t q13)⟩]) .ret) (.seq (.seq (.reg [⟨some q15, none, .binI .eql (.t q6) (.c (.i .i64 4))⟩, ⟨some q14, none, .mov (.t q15)⟩]) (.cond (.t q14) .skip (.seq (.reg [⟨some q16, none, .binI .eql (.t q6) (.c (.i .i64 5))⟩, ⟨some q14, none, .mov (.t q16)⟩]) (.cond (.t q14) .skip (.reg [⟨some q17, none, .binI .eql (.t q6) (.c (.i .i64 6))⟩, ⟨some q14, none, .mov (.t q17)⟩]))))) K43_0)
def K43_2 : IC := .seq (.reg [⟨some q2, none, .mov (.c .nils)⟩]) .ret
def B43 : IC := .seq (.reg [⟨some q2, none, .mov (.c .nils)⟩]) (.seq (.seq (.reg [⟨some q3, none, .mov (.t q0)⟩, ⟨some q4, none, .nck (.t q3)⟩, ⟨some q5, none, .fa 0 (.t q4)⟩, ⟨some q6, none, .ld1 (.t q5)⟩]) (.block 0 (.seq (.seq (.reg [⟨some q8, none, .binI .eql (.t q6) (.c (.i .i64 2))⟩, ⟨some q7, none, .mov (.t q8)⟩]) (.cond (.t q7) .skip (.reg [⟨some q9, none, .binI .eql (.t q6) (.c (.i .i64 3))⟩, ⟨some q7, none, .mov (.t q9)⟩]))) K43_1))) K43_2)
def F43 : IFn := ⟨29, [.tmp q2], B43⟩
theorem R43 : F43.res = [.tmp q2] := rfl
theorem fits43 : FitsF Try.prog 43 F43 := cmpF_fits (pol := fun _ => false) Try.func43 (by kernel_rfl)
def K44_0 : IC := .reg [⟨some q15, none, .binI .add (.t q5) (.c (.i .i64 1))⟩, ⟨some q5, none, .mov (.t q15)⟩]
def K44_1 : IC := .seq (.block 1 (.seq (.reg [⟨some q7, none, .mov (.t q5)⟩, ⟨some q4, none, .mov (.t q7)⟩]) (.seq (.reg [⟨some q8, none, .ldN 3 (.t q1)⟩, ⟨some q9, none, .mov (.t q4)⟩, ⟨some q10, none, .call 62 [.t q8, .t q9]⟩]) (.cond (.t q10) (.reg [⟨some q11, none, .mov (.t q3)⟩, ⟨some q12, none, .mov (.t q4)⟩, ⟨some q13, none, .bsl 1 1 [.i .i64 0] [(0, 1, .t q12)]⟩, ⟨some q14, none, .app 1 8 (.t q11) (.t q13)⟩, ⟨some q3, none, .mov (.t q14)⟩]) .skip)))) K44_0
def L44_2 : IC := .seq (.reg [⟨some q6, none, .binI .lss (.t q5) (.c (.i .i64 150))⟩]) (.seq (.cond (.t q6) .skip (.exit 0)) K44_1)
def K44_3 : IC := .seq (.reg [⟨some q16, none, .mov (.t q3)⟩, ⟨some q2, none, .mov (.t q16)⟩]) .ret
def B44 : IC := .seq (.reg [⟨some q1, none, .box (.t q0)⟩, ⟨some q2, none, .mov (.c .nils)⟩]) (.seq (.reg [⟨some q3, none, .mov (.c .nils)⟩]) (.seq (.seq (.reg [⟨some q5, none, .mov (.c (.i .i64 0))⟩]) (.block 0 (.loop L44_2))) K44_3))
def F44 : IFn := ⟨17, [.tmp q2], B44⟩
theorem R44 : F44.res = [.tmp q2] := rfl
theorem fits44 : FitsF Try.prog 44 F44 := cmpF_fits (pol := fun _ => false) Try.func44 (by kernel_rfl)
def K45_0 : IC := .seq (.reg [⟨some q22, none, .mov (.t q0)⟩, ⟨some q23, none, .mov (.t q0)⟩, ⟨some q24, none, .nck (.t q23)⟩, ⟨some q25, none, .fa 4 (.t q24)⟩, ⟨some q26, none, .ld1 (.t q25)⟩, ⟨some q27, none, .build [.i .u64 0, .i .u64 0, .i .u64 0] []⟩, ⟨some q28, none, .bsl 3 1 [.i .u64 0, .i .u64 0, .i .u64 0] [(0, 3, .t q27)]⟩, ⟨some q29, none, .app 3 24 (.t q26) (.t q28)⟩, ⟨some q30, none, .nck (.t q22)⟩, ⟨some q31, none, .fa 4 (.t q30)⟩, ⟨none, none, .st 1 (.t q31) (.t q29)⟩]) (.seq (.reg [⟨some q32, none, .ldN 3 (.t q5)⟩, ⟨some q33, none, .ldN 3 (.t q5)⟩, ⟨some q34, none, .build [.b false, .i .u64 0, .i .u64 0, .i .u64 0, .i .u64 0, .i .u64 0, .i .u64 0] [(1, 3, .t q32), (4, 3, .t q33)]⟩, ⟨none, none, .st 7 (.t q4) (.t q34)⟩]) .ret)
def B45 : IC := .seq (.reg [⟨some q3, none, .box (.t q1)⟩, ⟨some q4, none, .new [.b false, .i .u64 0, .i .u64 0, .i .u64 0, .i .u64 0, .i .u64 0, .i .u64 0]⟩]) (.seq (.reg [⟨some q5, none, .new [.i .u64 0, .i .u64 0, .i .u64 0]⟩]) (.seq (.reg [⟨some q6, none, .mov (.t q0)⟩, ⟨some q7, none, .nck (.t q6)⟩, ⟨some q8, none, .fa 3 (.t q7)⟩, ⟨some q9, none, .ld1 (.t q8)⟩, ⟨some q10, none, .len (.t q9)⟩, ⟨some q11, none, .call 63 [.t q5, .t q10]⟩]) (.seq (.dreg 0 [(⟨some q12, none, .mov (.t q0)⟩, .pu), (⟨some q13, none, .mov (.t q0)⟩, .pu), (⟨some q14, none, .nck (.t q13)⟩, .pu), (⟨some q15, none, .fa 3 (.t q14)⟩, .pu), (⟨some q16, none, .ld1 (.t q15)⟩, .rd 0), (⟨some q17, none, .ldN 4 (.t q3)⟩, .rd 0), (⟨some q18, none, .bsl 4 1 [.i .u64 0, .i .u64 0, .i .u64 0, .i .u64 0] [(0, 4, .t q17)]⟩, .ad), (⟨some q19, none, .app 4 32 (.t q16) (.t q18)⟩, .md)] [⟨some q20, none, .nck (.t q12)⟩, ⟨some q21, none, .fa 3 (.t q20)⟩, ⟨none, none, .st 1 (.t q21) (.t q19)⟩] []) K45_0)))
def F45 : IFn := ⟨35, [.cN q4 7], B45⟩
theorem R45 : F45.res = [.cN q4 7] := rfl
theorem fits45 : FitsF Try.prog 45 F45 := cmpF_fits (pol := fun _ => false) Try.func45 (by kernel_rfl)
def K46_0 : IC := .reg [⟨some q44, none, .fa 0 (.t q5)⟩, ⟨some q45, none, .ld1 (.t q44)⟩, ⟨some q46, none, .mov (.t q45)⟩, ⟨some q47, some (q46, true), .fa 0 (.t q7)⟩, ⟨some q48, some (q46, true), .ld1 (.t q47)⟩, ⟨some q49, none, .pick (.t q46) (.t q48) (.c (.b false))⟩, ⟨some q50, none, .fa 0 (.t q5)⟩, ⟨none, none, .st 1 (.t q50) (.t q49)⟩]
def K46_1 : IC := .seq (.seq (.reg [⟨some q33, none, .fa 0 (.t q7)⟩, ⟨some q34, none, .ld1 (.t q33)⟩]) (.cond (.t q34) (.reg [⟨some q35, none, .fa 4 (.t q5)⟩, ⟨some q36, none, .ldN 3 (.t q35)⟩, ⟨some q37, none, .fa 4 (.t q7)⟩, ⟨some q38, none, .ldN 3 (.t q37)⟩, ⟨some q39, none, .call 65 [.t q36, .t q38]⟩, ⟨some q40, none, .fa 4 (.t q5)⟩, ⟨none, none, .st 3 (.t q40) (.t q39)⟩]) (.reg [⟨some q41, none, .fa 4 (.t q7)⟩, ⟨some q42, none, .ldN 3 (.t q41)⟩, ⟨some q43, none, .fa 4 (.t q5)⟩, ⟨none, none, .st 3 (.t q43) (.t q42)⟩]))) K46_0
def K46_2 : IC := .reg [⟨some q51, none, .binI .add (.t q11) (.c (.i .i64 1))⟩, ⟨some q11, none, .mov (.t q51)⟩]
def K46_3 : IC := .seq (.block 1 (.seq (.reg [⟨some q13, none, .mov (.t q11)⟩, ⟨some q6, none, .mov (.t q13)⟩]) (.seq (.reg [⟨some q14, none, .mov (.t q0)⟩, ⟨some q15, none, .mov (.t q1)⟩, ⟨some q16, none, .mov (.t q6)⟩, ⟨some q17, none, .ixS 6 (.t q15) (.t q16)⟩, ⟨some q18, none, .call 25 [.t q14, .t q17]⟩, ⟨some q7, none, .new [.b false, .i .u64 0, .i .u64 0, .i .u64 0, .i .u64 0, .i .u64 0, .i .u64 0]⟩, ⟨none, none, .st 7 (.t q7) (.t q18)⟩]) (.seq (.reg [⟨some q19, none, .mov (.t q0)⟩, ⟨some q20, none, .fa 4 (.t q5)⟩, ⟨some q21, none, .ldN 3 (.t q20)⟩, ⟨some q22, none, .fa 1 (.t q7)⟩, ⟨some q23, none, .ldN 3 (.t q22)⟩, ⟨some q24, none, .call 64 [.t q19, .t q21, .t q23]⟩]) (.seq (.seq (.reg [⟨some q25, none, .fa 0 (.t q5)⟩, ⟨some q26, none, .ld1 (.t q25)⟩]) (.cond (.t q26) (.reg [⟨some q27, none, .fa 1 (.t q5)⟩, ⟨some q28, none, .ldN 3 (.t q27)⟩, ⟨some q29, none, .fa 1 (.t q7)⟩, ⟨some q30, none, .ldN 3 (.t q29)⟩, ⟨some q31, none, .call 65 [.t q28, .t q30]⟩, ⟨some q32, none, .fa 1 (.t q5)⟩, ⟨none, none, .st 3 (.t q32) (.t q31)⟩]) .skip)) K46_1))))) K46_2
def L46_4 : IC := .seq (.reg [⟨some q12, none, .binI .lss (.t q11) (.t q10)⟩]) (.seq (.cond (.t q12) .skip (.exit 0)) K46_3)
def K46_5 : IC := .seq (.reg [⟨some q52, none, .ldN 7 (.t q5)⟩, ⟨none, none, .st 7 (.t q4) (.t q52)⟩]) .ret
def B46 : IC := .seq (.reg [⟨some q4, none, .new [.b false, .i .u64 0, .i .u64 0, .i .u64 0, .i .u64 0, .i .u64 0, .i .u64 0]⟩]) (.seq (.reg [⟨some q8, none, .build [.b false, .i .u64 0, .i .u64 0, .i .u64 0, .i .u64 0, .i .u64 0, .i .u64 0] [(0, 1, .c (.b true))]⟩, ⟨some q5, none, .new [.b false, .i .u64 0, .i .u64 0, .i .u64 0, .i .u64 0, .i .u64 0, .i .u64 0]⟩, ⟨none, none, .st 7 (.t q5) (.t q8)⟩]) (.seq (.seq (.reg [⟨some q9, none, .mov (.t q1)⟩, ⟨some q10, none, .len (.t q9)⟩, ⟨some q11, none, .mov (.c (.i .i64 0))⟩]) (.block 0 (.loop L46_4))) K46_5))
def F46 : IFn := ⟨53, [.cN q4 7], B46⟩
theorem R46 : F46.res = [.cN q4 7] := rfl
theorem fits46 : FitsF Try.prog 46 F46 := cmpF_fits (pol := fun _ => false) Try.func46 (by kernel_rfl)
def K47_0 : IC := .reg [⟨some q37, none, .binI .add (.t q10) (.c (.i .i64 1))⟩, ⟨some q10, none, .mov (.t q37)⟩]
def K47_1 : IC := .seq (.block 1 (.seq (.reg [⟨some q12, none, .mov (.t q10)⟩, ⟨some q6, none, .mov (.t q12)⟩]) (.seq (.reg [⟨some q13, none, .mov (.t q0)⟩, ⟨some q14, none, .mov (.t q1)⟩, ⟨some q15, none, .mov (.t q6)⟩, ⟨some q16, none, .ixS 6 (.t q14) (.t q15)⟩, ⟨some q17, none, .call 25 [.t q13, .t q16]⟩, ⟨some q7, none, .new [.b false, .i .u64 0, .i .u64 0, .i .u64 0, .i .u64 0, .i .u64 0, .i .u64 0]⟩, ⟨none, none, .st 7 (.t q7) (.t q17)⟩]) (.seq (.reg [⟨some q18, none, .fa 0 (.t q5)⟩, ⟨some q19, none, .ld1 (.t q18)⟩, ⟨some q20, none, .mov (.t q19)⟩, ⟨some q21, some (q20, false), .fa 0 (.t q7)⟩, ⟨some q22, some (q20, false), .ld1 (.t q21)⟩, ⟨some q23, none, .pick (.t q20) (.c (.b true)) (.t q22)⟩, ⟨some q24, none, .fa 0 (.t q5)⟩, ⟨none, none, .st 1 (.t q24) (.t q23)⟩]) (.seq (.reg [⟨some q25, none, .fa 1 (.t q5)⟩, ⟨some q26, none, .ldN 3 (.t q25)⟩, ⟨some q27, none, .fa 1 (.t q7)⟩, ⟨some q28, none, .ldN 3 (.t q27)⟩, ⟨some q29, none, .call 65 [.t q26, .t q28]⟩, ⟨some q30, none, .fa 1 (.t q5)⟩, ⟨none, none, .st 3 (.t q30) (.t q29)⟩]) (.reg [⟨some q31, none, .fa 4 (.t q5)⟩, ⟨some q32, none, .ldN 3 (.t q31)⟩, ⟨some q33, none, .fa 4 (.t q7)⟩, ⟨some q34, none, .ldN 3 (.t q33)⟩, ⟨some q35, none, .call 65 [.t q32, .t q34]⟩, ⟨some q36, none, .fa 4 (.t q5)⟩, ⟨none, none, .st 3 (.t q36) (.t q35)⟩])))))) K47_0
def L47_2 : IC := .seq (.reg [⟨some q11, none, .binI .lss (.t q10) (.t q9)⟩]) (.seq (.cond (.t q11) .skip (.exit 0)) K47_1)
def K47_3 : IC := .seq (.reg [⟨some q38, none, .ldN 7 (.t q5)⟩, ⟨none, none, .st 7 (.t q4) (.t q38)⟩]) .ret
def B47 : IC := .seq (.reg [⟨some q4, none, .new [.b false, .i .u64 0, .i .u64 0, .i .u64 0, .i .u64 0, .i .u64 0, .i .u64 0]⟩]) (.seq (.reg [⟨some q5, none, .new [.b false, .i .u64 0, .i .u64 0, .i .u64 0, .i .u64 0, .i .u64 0, .i .u64 0]⟩]) (.seq (.seq (.reg [⟨some q8, none, .mov (.t q1)⟩, ⟨some q9, none, .len (.t q8)⟩, ⟨some q10, none, .mov (.c (.i .i64 0))⟩]) (.block 0 (.loop L47_2))) K47_3))
def F47 : IFn := ⟨39, [.cN q4 7], B47⟩
theorem R47 : F47.res = [.cN q4 7] := rfl
theorem fits47 : FitsF Try.prog 47 F47 := cmpF_fits (pol := fun _ => false) Try.func47 (by kernel_rfl)
def K48_0 : IC := .seq (.reg [⟨some q22, none, .ldN 7 (.t q7)⟩, ⟨none, none, .st 7 (.t q6) (.t q22)⟩]) .ret
def K48_1 : IC := .seq (.seq (.reg [⟨some q19, none, .mov (.t q1)⟩, ⟨some q20, none, .binI .neq (.t q19) (.c (.i .i64 5))⟩]) (.cond (.t q20) (.reg [⟨some q21, none, .fa 0 (.t q7)⟩, ⟨none, none, .st 1 (.t q21) (.c (.b true))⟩]) .skip)) K48_0
def B48 : IC := .seq (.reg [⟨some q6, none, .new [.b false, .i .u64 0, .i .u64 0, .i .u64 0, .i .u64 0, .i .u64 0, .i .u64 0]⟩]) (.seq (.reg [⟨some q8, none, .mov (.t q0)⟩, ⟨some q9, none, .mov (.t q2)⟩, ⟨some q10, none, .call 25 [.t q8, .t q9]⟩, ⟨some q7, none, .new [.b false, .i .u64 0, .i .u64 0, .i .u64 0, .i .u64 0, .i .u64 0, .i .u64 0]⟩, ⟨none, none, .st 7 (.t q7) (.t q10)⟩]) (.seq (.seq (.reg [⟨some q11, none, .mov (.t q1)⟩, ⟨some q12, none, .binI .neq (.t q11) (.c (.i .i64 6))⟩]) (.cond (.t q12) (.reg [⟨some q13, none, .mov (.t q0)⟩, ⟨some q14, none, .fa 4 (.t q7)⟩, ⟨some q15, none, .ldN 3 (.t q14)⟩, ⟨some q16, none, .fa 1 (.t q7)⟩, ⟨some q17, none, .ldN 3 (.t q16)⟩, ⟨some q18, none, .call 64 [.t q13, .t q15, .t q17]⟩]) .skip)) K48_1))
def F48 : IFn := ⟨23, [.cN q6 7], B48⟩
theorem R48 : F48.res = [.cN q6 7] := rfl
theorem fits48 : FitsF Try.prog 48 F48 := cmpF_fits (pol := fun _ => false) Try.func48 (by kernel_rfl)
def K49_0 : IC := .reg [⟨some q45, none, .mov (.t q0)⟩, ⟨some q46, none, .mov (.t q0)⟩, ⟨some q47, none, .nck (.t q46)⟩, ⟨some q48, none, .fa 6 (.t q47)⟩, ⟨some q49, none, .ld1 (.t q48)⟩, ⟨some q50, none, .mov (.t q7)⟩, ⟨some q51, none, .bsl 1 1 [.i .i64 0] [(0, 1, .t q50)]⟩, ⟨some q52, none, .app 1 8 (.t q49) (.t q51)⟩, ⟨some q53, none, .nck (.t q45)⟩, ⟨some q54, none, .fa 6 (.t q53)⟩, ⟨none, none, .st 1 (.t q54) (.t q52)⟩]
def K49_1 : IC := .reg [⟨some q55, none, .binI .add (.t q10) (.c (.i .i64 1))⟩, ⟨some q10, none, .mov (.t q55)⟩]
def K49_2 : IC := .seq (.block 1 (.seq (.reg [⟨some q12, none, .ixS 1 (.t q8) (.t q10)⟩, ⟨some q13, none, .ld1 (.t q12)⟩, ⟨some q7, none, .mov (.t q13)⟩]) (.seq (.reg [⟨some q14, none, .mov (.t q0)⟩, ⟨some q15, none, .mov (.t q7)⟩, ⟨some q16, none, .call 51 [.t q14, .t q15]⟩, ⟨some q17, none, .mov (.t q16)⟩, ⟨some q18, some (q17, true), .mov (.t q0)⟩, ⟨some q19, some (q17, true), .mov (.t q7)⟩, ⟨some q20, some (q17, true), .call 28 [.t q18, .t q19]⟩, ⟨some q21, some (q17, true), .un .not (.t q20)⟩, ⟨some q22, none, .pick (.t q17) (.t q21) (.c (.b false))⟩, ⟨some q23, none, .mov (.t q22)⟩, ⟨some q24, some (q23, true), .mov (.t q0)⟩, ⟨some q25, some (q23, true), .nck (.t q24)⟩, ⟨some q26, some (q23, true), .fa 0 (.t q25)⟩, ⟨some q27, some (q23, true), .fa 0 (.t q26)⟩, ⟨some q28, some (q23, true), .ld1 (.t q27)⟩, ⟨some q29, some (q23, true), .mov (.t q7)⟩, ⟨some q30, some (q23, true), .ixS 4 (.t q28) (.t q29)⟩, ⟨some q31, some (q23, true), .ldN 4 (.t q30)⟩, ⟨some q32, some (q23, true), .mov (.t q2)⟩, ⟨some q33, some (q23, true), .call 66 [.t q31, .t q32]⟩, ⟨some q34, none, .pick (.t q23) (.t q33) (.c (.b false))⟩]) (.cond (.t q34) (.seq (.dreg 0 [(⟨some q35, none, .mov (.t q0)⟩, .pu), (⟨some q36, none, .nck (.t q35)⟩, .pu), (⟨some q37, none, .fa 8 (.t q36)⟩, .pu), (⟨some q38, none, .ld1 (.t q37)⟩, .rd 0), (⟨some q39, none, .mov (.t q7)⟩, .pu), (⟨some q40, none, .mov (.t q0)⟩, .pu), (⟨some q41, none, .nck (.t q40)⟩, .pu), (⟨some q42, none, .fa 5 (.t q41)⟩, .pu), (⟨some q43, none, .ld1 (.t q42)⟩, .rd 0)] [⟨some q44, none, .ixS 1 (.t q38) (.t q39)⟩, ⟨none, none, .st 1 (.t q44) (.t q43)⟩] []) K49_0) .skip)))) K49_1
def L49_3 : IC := .seq (.reg [⟨some q11, none, .binI .lss (.t q10) (.t q9)⟩]) (.seq (.cond (.t q11) .skip (.exit 0)) K49_2)
def B49 : IC := .seq (.reg [⟨some q8, none, .mov (.t q1)⟩, ⟨some q9, none, .len (.t q8)⟩, ⟨some q10, none, .mov (.c (.i .i64 0))⟩]) (.block 0 (.loop L49_3))
def F49 : IFn := ⟨56, [], B49⟩
theorem R49 : F49.res = [] := rfl
theorem fits49 : FitsF Try.prog 49 F49 := cmpF_fits (pol := fun _ => false) Try.func49 (by kernel_rfl)
def K50_0 : IC := .reg [⟨some q18, none, .binI .add (.t q8) (.c (.i .i64 1))⟩, ⟨some q8, none, .mov (.t q18)⟩]
def K50_1 : IC := .seq (.block 1 (.seq (.reg [⟨some q10, none, .mov (.t q8)⟩, ⟨some q5, none, .mov (.t q10)⟩]) (.seq (.reg [⟨some q11, none, .mov (.t q1)⟩, ⟨some q12, none, .mov (.t q0)⟩, ⟨some q13, none, .mov (.t q5)⟩, ⟨some q14, none, .ixS 1 (.t q12) (.t q13)⟩, ⟨some q15, none, .ld1 (.t q14)⟩, ⟨some q16, none, .callv (.t q11) [.t q15]⟩]) (.cond (.t q16) (.seq (.reg [⟨some q17, none, .mov (.t q5)⟩, ⟨some q4, none, .mov (.t q17)⟩]) .ret) .skip)))) K50_0
def L50_2 : IC := .seq (.reg [⟨some q9, none, .binI .lss (.t q8) (.t q7)⟩]) (.seq (.cond (.t q9) .skip (.exit 0)) K50_1)
def K50_3 : IC := .seq (.reg [⟨some q4, none, .mov (.c (.i .i64 (.negSucc 0)))⟩]) .ret
def B50 : IC := .seq (.reg [⟨some q4, none, .mov (.c (.i .i64 0))⟩]) (.seq (.seq (.reg [⟨some q6, none, .mov (.t q0)⟩, ⟨some q7, none, .len (.t q6)⟩, ⟨some q8, none, .mov (.c (.i .i64 0))⟩]) (.block 0 (.loop L50_2))) K50_3)
def F50 : IFn := ⟨19, [.tmp q4], B50⟩
theorem R50 : F50.res = [.tmp q4] := rfl
theorem fits50 : FitsF Try.prog 50 F50 := cmpF_fits (pol := fun _ => false) Try.func50 (by kernel_rfl)
def B51 : IC := .seq (.reg [⟨some q4, none, .mov (.c (.b false))⟩]) (.seq (.reg [⟨some q5, none, .mov (.t q1)⟩, ⟨some q6, none, .binI .geq (.t q5) (.c (.i .i64 0))⟩, ⟨some q7, none, .mov (.t q6)⟩, ⟨some q8, some (q7, true), .mov (.t q1)⟩, ⟨some q9, some (q7, true), .mov (.t q0)⟩, ⟨some q10, some (q7, true), .nck (.t q9)⟩, ⟨some q11, some (q7, true), .fa 8 (.t q10)⟩, ⟨some q12, some (q7, true), .ld1 (.t q11)⟩, ⟨some q13, some (q7, true), .len (.t q12)⟩, ⟨some q14, some (q7, true), .binI .lss (.t q8) (.t q13)⟩, ⟨some q15, none, .pick (.t q7) (.t q14) (.c (.b false))⟩, ⟨some q4, none, .mov (.t q15)⟩]) .ret)
def F51 : IFn := ⟨16, [.tmp q4], B51⟩
theorem R51 : F51.res = [.tmp q4] := rfl
theorem fits51 : FitsF Try.prog 51 F51 := cmpF_fits (pol := fun _ => false) Try.func51 (by kernel_rfl)
def K60_0 : IC := .seq (.reg [⟨some q31, none, .mov (.t q0)⟩, ⟨some q32, none, .nck (.t q31)⟩, ⟨some q33, none, .fa 1 (.t q32)⟩, ⟨some q34, none, .ld1 (.t q33)⟩, ⟨some q35, none, .binI .add (.t q34) (.c (.i .i64 1))⟩, ⟨some q36, none, .nck (.t q31)⟩, ⟨some q37, none, .fa 1 (.t q36)⟩, ⟨none, none, .st 1 (.t q37) (.t q35)⟩]) (.reg [⟨some q38, none, .mov (.t q6)⟩, ⟨some q39, none, .ldN 6 (.t q5)⟩, ⟨some q40, none, .bsl 6 1 [.i .i64 0, .i .u64 0, .i .u64 0, .i .u64 0, .i .u64 0, .nils] [(0, 6, .t q39)]⟩, ⟨some q41, none, .build [.i .i64 0, .i .u64 0, .i .u64 0, .i .u64 0, .i .u64 0, .nils] [(0, 1, .t q38), (5, 1, .t q40)]⟩, ⟨none, none, .st 6 (.t q5) (.t q41)⟩])
def K60_1 : IC := .seq (.seq (.reg [⟨some q29, none, .mov (.t q0)⟩, ⟨some q30, none, .call 39 [.t q29, .c (.i .u8 63)]⟩]) (.cond (.t q30) (.reg [⟨some q6, none, .mov (.c (.i .i64 6))⟩]) .skip)) K60_0
def K60_2 : IC := .block 1 (.seq (.reg [⟨some q6, none, .mov (.c (.i .i64 4))⟩]) (.seq (.seq (.reg [⟨some q27, none, .mov (.t q0)⟩, ⟨some q28, none, .call 39 [.t q27, .c (.i .u8 43)]⟩]) (.cond (.t q28) (.reg [⟨some q6, none, .mov (.c (.i .i64 5))⟩]) .skip)) K60_1))
def L60_3 : IC := .seq (.seq (.reg [⟨some q10, none, .mov (.t q0)⟩, ⟨some q11, none, .nck (.t q10)⟩, ⟨some q12, none, .fa 2 (.t q11)⟩, ⟨some q13, none, .ld1 (.t q12)⟩, ⟨some q14, none, .binI .eql (.t q13) (.c (.i .i64 0))⟩, ⟨some q15, none, .mov (.t q14)⟩, ⟨some q16, some (q15, true), .mov (.t q0)⟩, ⟨some q17, some (q15, true), .call 39 [.t q16, .c (.i .u8 42)]⟩, ⟨some q18, some (q15, true), .mov (.t q17)⟩, ⟨some q19, some (q18, false), .mov (.t q0)⟩, ⟨some q20, some (q18, false), .call 39 [.t q19, .c (.i .u8 43)]⟩, ⟨some q21, some (q15, true), .pick (.t q18) (.c (.b true)) (.t q20)⟩, ⟨some q22, some (q15, true), .mov (.t q21)⟩, ⟨some q23, some (q22, false), .mov (.t q0)⟩, ⟨some q24, some (q22, false), .call 39 [.t q23, .c (.i .u8 63)]⟩, ⟨some q25, some (q15, true), .pick (.t q22) (.c (.b true)) (.t q24)⟩, ⟨some q26, none, .pick (.t q15) (.t q25) (.c (.b false))⟩]) (.cond (.t q26) .skip (.exit 0))) K60_2
def K60_4 : IC := .seq (.reg [⟨some q42, none, .ldN 6 (.t q5)⟩, ⟨none, none, .st 6 (.t q4) (.t q42)⟩]) .ret
def B60 : IC := .seq (.reg [⟨some q4, none, .new [.i .i64 0, .i .u64 0, .i .u64 0, .i .u64 0, .i .u64 0, .nils]⟩]) (.seq (.reg [⟨some q7, none, .mov (.t q0)⟩, ⟨some q8, none, .mov (.t q1)⟩, ⟨some q9, none, .call 69 [.t q7, .t q8]⟩, ⟨some q5, none, .new [.i .i64 0, .i .u64 0, .i .u64 0, .i .u64 0, .i .u64 0, .nils]⟩, ⟨none, none, .st 6 (.t q5) (.t q9)⟩]) (.seq (.block 0 (.loop L60_3)) K60_4))
def F60 : IFn := ⟨43, [.cN q4 6], B60⟩
theorem R60 : F60.res = [.cN q4 6] := rfl
theorem fits60 : FitsF Try.prog 60 F60 := cmpF_fits (pol := fun _ => false) Try.func60 (by kernel_rfl)
def K61_0 : IC := .dreg 0 [(⟨some q15, none, .mov (.t q0)⟩, .pu), (⟨some q16, none, .mov (.t q0)⟩, .pu), (⟨some q17, none, .nck (.t q16)⟩, .pu), (⟨some q18, none, .fa 1 (.t q17)⟩, .pu), (⟨some q19, none, .ld1 (.t q18)⟩, .rd 0), (⟨some q20, none, .fa 1 (.t q3)⟩, .pu), (⟨some q21, none, .ld1 (.t q20)⟩, .rd 0), (⟨some q22, none, .binI .add (.t q21) (.c (.i .i64 1))⟩, .pu), (⟨some q23, none, .mx (.t q19) (.t q22)⟩, .pu), (⟨some q24, none, .mn (.t q23) (.c (.i .i64 201))⟩, .pu)] [⟨some q25, none, .nck (.t q15)⟩, ⟨some q26, none, .fa 1 (.t q25)⟩, ⟨none, none, .st 1 (.t q26) (.t q24)⟩] []
def B61 : IC := .seq (.reg [⟨some q3, none, .box (.t q1)⟩]) (.seq (.dreg 0 [(⟨some q4, none, .mov (.t q0)⟩, .pu), (⟨some q5, none, .mov (.t q0)⟩, .pu), (⟨some q6, none, .nck (.t q5)⟩, .pu), (⟨some q7, none, .fa 0 (.t q6)⟩, .pu), (⟨some q8, none, .ld1 (.t q7)⟩, .rd 0), (⟨some q9, none, .fa 0 (.t q3)⟩, .pu), (⟨some q10, none, .ld1 (.t q9)⟩, .rd 0), (⟨some q11, none, .binI .add (.t q8) (.t q10)⟩, .pu), (⟨some q12, none, .mn (.t q11) (.c (.i .i64 151))⟩, .pu)] [⟨some q13, none, .nck (.t q4)⟩, ⟨some q14, none, .fa 0 (.t q13)⟩, ⟨none, none, .st 1 (.t q14) (.t q12)⟩] []) K61_0)
def F61 : IFn := ⟨27, [], B61⟩
theorem R61 : F61.res = [] := rfl
theorem fits61 : FitsF Try.prog 61 F61 := cmpF_fits (pol := fun _ => false) Try.func61 (by kernel_rfl)
def B62 : IC := .seq (.reg [⟨some q2, none, .box (.t q0)⟩, ⟨some q4, none, .mov (.c (.b false))⟩]) (.seq (.reg [⟨some q5, none, .mov (.t q1)⟩, ⟨some q6, none, .binI .shr (.t q5) (.c (.i .u64 6))⟩, ⟨some q7, none, .ixA 3 1 (.t q2) (.t q6)⟩, ⟨some q8, none, .ld1 (.t q7)⟩, ⟨some q9, none, .mov (.t q1)⟩, ⟨some q10, none, .binI .and (.t q9) (.c (.i .i64 63))⟩, ⟨some q11, none, .binI .shr (.t q8) (.t q10)⟩, ⟨some q12, none, .binI .and (.t q11) (.c (.i .u64 1))⟩, ⟨some q13, none, .binI .eql (.t q12) (.c (.i .u64 1))⟩, ⟨some q4, none, .mov (.t q13)⟩]) .ret)
def F62 : IFn := ⟨14, [.tmp q4], B62⟩
theorem R62 : F62.res = [.tmp q4] := rfl
theorem fits62 : FitsF Try.prog 62 F62 := cmpF_fits (pol := fun _ => false) Try.func62 (by kernel_rfl)
def B63 : IC := .dreg 0 [(⟨some q4, none, .mov (.t q0)⟩, .pu), (⟨some q5, none, .mov (.t q1)⟩, .pu), (⟨some q6, none, .binI .shr (.t q5) (.c (.i .u64 6))⟩, .pu), (⟨some q7, none, .nck (.t q4)⟩, .pu), (⟨some q8, none, .ixA 3 1 (.t q7) (.t q6)⟩, .pu), (⟨some q9, none, .ld1 (.t q8)⟩, .rd 0), (⟨some q10, none, .mov (.t q1)⟩, .pu), (⟨some q11, none, .binI .and (.t q10) (.c (.i .i64 63))⟩, .pu), (⟨some q12, none, .binI .shl (.c (.i .u64 1)) (.t q11)⟩, .pu), (⟨some q13, none, .binI .or (.t q9) (.t q12)⟩, .pu), (⟨some q14, none, .nck (.t q4)⟩, .pu)] [⟨some q15, none, .ixA 3 1 (.t q14) (.t q6)⟩, ⟨none, none, .st 1 (.t q15) (.t q13)⟩] []
def F63 : IFn := ⟨16, [], B63⟩
theorem R63 : F63.res = [] := rfl
theorem fits63 : FitsF Try.prog 63 F63 := cmpF_fits (pol := fun _ => false) Try.func63 (by kernel_rfl)
def K64_0 : IC := .reg [⟨some q33, none, .binI .add (.t q12) (.c (.i .i64 1))⟩, ⟨some q12, none, .mov (.t q33)⟩]
def K64_1 : IC := .seq (.block 1 (.seq (.reg [⟨some q14, none, .mov (.t q12)⟩, ⟨some q6, none, .mov (.t q14)⟩]) (.seq (.reg [⟨some q15, none, .ldN 3 (.t q4)⟩, ⟨some q16, none, .mov (.t q6)⟩, ⟨some q17, none, .call 62 [.t q15, .t q16]⟩]) (.cond (.t q17) (.dreg 0 [(⟨some q18, none, .mov (.t q0)⟩, .pu), (⟨some q19, none, .nck (.t q18)⟩, .pu), (⟨some q20, none, .fa 4 (.t q19)⟩, .pu), (⟨some q21, none, .ld1 (.t q20)⟩, .rd 0), (⟨some q22, none, .mov (.t q6)⟩, .pu), (⟨some q23, none, .mov (.t q0)⟩, .pu), (⟨some q24, none, .nck (.t q23)⟩, .pu), (⟨some q25, none, .fa 4 (.t q24)⟩, .pu), (⟨some q26, none, .ld1 (.t q25)⟩, .rd 0), (⟨some q27, none, .mov (.t q6)⟩, .pu), (⟨some q28, none, .ixS 3 (.t q26) (.t q27)⟩, .pu), (⟨some q29, none, .ldN 3 (.t q28)⟩, .rd 0), (⟨some q30, none, .ldN 3 (.t q5)⟩, .rd 0), (⟨some q31, none, .call 65 [.t q29, .t q30]⟩, .ad)] [⟨some q32, none, .ixS 3 (.t q21) (.t q22)⟩, ⟨none, none, .st 3 (.t q32) (.t q31)⟩] []) .skip)))) K64_0
def L64_2 : IC := .seq (.reg [⟨some q13, none, .binI .lss (.t q12) (.t q11)⟩]) (.seq (.cond (.t q13) .skip (.exit 0)) K64_1)
def B64 : IC := .seq (.reg [⟨some q4, none, .box (.t q1)⟩, ⟨some q5, none, .box (.t q2)⟩]) (.seq (.reg [⟨some q7, none, .mov (.t q0)⟩, ⟨some q8, none, .nck (.t q7)⟩, ⟨some q9, none, .fa 4 (.t q8)⟩, ⟨some q10, none, .ld1 (.t q9)⟩, ⟨some q11, none, .len (.t q10)⟩, ⟨some q12, none, .mov (.c (.i .i64 0))⟩]) (.block 0 (.loop L64_2)))
def F64 : IFn := ⟨34, [], B64⟩
theorem R64 : F64.res = [] := rfl
theorem fits64 : FitsF Try.prog 64 F64 := cmpF_fits (pol := fun _ => false) Try.func64 (by kernel_rfl)
def K65_0 : IC := .reg [⟨some q17, none, .binI .add (.t q6) (.c (.i .i64 1))⟩, ⟨some q6, none, .mov (.t q17)⟩]
def K65_1 : IC := .seq (.block 1 (.seq (.reg [⟨some q8, none, .mov (.t q6)⟩, ⟨some q5, none, .mov (.t q8)⟩]) (.dreg 0 [(⟨some q9, none, .mov (.t q5)⟩, .pu), (⟨some q10, none, .ixA 3 1 (.t q2) (.t q9)⟩, .pu), (⟨some q11, none, .ld1 (.t q10)⟩, .rd 0), (⟨some q12, none, .mov (.t q5)⟩, .pu), (⟨some q13, none, .ixA 3 1 (.t q3) (.t q12)⟩, .pu), (⟨some q14, none, .ld1 (.t q13)⟩, .rd 0)] [⟨some q15, none, .binI .or (.t q11) (.t q14)⟩, ⟨some q16, none, .ixA 3 1 (.t q2) (.t q9)⟩, ⟨none, none, .st 1 (.t q16) (.t q15)⟩] []))) K65_0
def L65_2 : IC := .seq (.reg [⟨some q7, none, .binI .lss (.t q6) (.c (.i .i64 3))⟩]) (.seq (.cond (.t q7) .skip (.exit 0)) K65_1)
def K65_3 : IC := .seq (.reg [⟨some q18, none, .ldN 3 (.t q2)⟩, ⟨none, none, .st 3 (.t q4) (.t q18)⟩]) .ret
def B65 : IC := .seq (.reg [⟨some q2, none, .box (.t q0)⟩, ⟨some q3, none, .box (.t q1)⟩, ⟨some q4, none, .new [.i .u64 0, .i .u64 0, .i .u64 0]⟩]) (.seq (.seq (.reg [⟨some q6, none, .mov (.c (.i .i64 0))⟩]) (.block 0 (.loop L65_2))) K65_3)
def F65 : IFn := ⟨19, [.cN q4 3], B65⟩
theorem R65 : F65.res = [.cN q4 3] := rfl
theorem fits65 : FitsF Try.prog 65 F65 := cmpF_fits (pol := fun _ => false) Try.func65 (by kernel_rfl)
def B66 : IC := .seq (.reg [⟨some q2, none, .box (.t q0)⟩, ⟨some q4, none, .mov (.c (.b false))⟩]) (.seq (.reg [⟨some q5, none, .mov (.t q1)⟩, ⟨some q6, none, .binI .shr (.t q5) (.c (.i .u64 6))⟩, ⟨some q7, none, .ixA 4 1 (.t q2) (.t q6)⟩, ⟨some q8, none, .ld1 (.t q7)⟩, ⟨some q9, none, .mov (.t q1)⟩, ⟨some q10, none, .binI .and (.t q9) (.c (.i .u8 63))⟩, ⟨some q11, none, .binI .shr (.t q8) (.t q10)⟩, ⟨some q12, none, .binI .and (.t q11) (.c (.i .u64 1))⟩, ⟨some q13, none, .binI .eql (.t q12) (.c (.i .u64 1))⟩, ⟨some q4, none, .mov (.t q13)⟩]) .ret)
def F66 : IFn := ⟨14, [.tmp q4], B66⟩
theorem R66 : F66.res = [.tmp q4] := rfl
theorem fits66 : FitsF Try.prog 66 F66 := cmpF_fits (pol := fun _ => false) Try.func66 (by kernel_rfl)
def K69_0 : IC := .seq (.reg [⟨some q54, none, .mov (.t q0)⟩, ⟨some q55, none, .nck (.t q54)⟩, ⟨some q56, none, .fa 1 (.t q55)⟩, ⟨some q57, none, .ld1 (.t q56)⟩, ⟨some q58, none, .binI .add (.t q57) (.c (.i .i64 1))⟩, ⟨some q59, none, .nck (.t q54)⟩, ⟨some q60, none, .fa 1 (.t q59)⟩, ⟨none, none, .st 1 (.t q60) (.t q58)⟩]) (.seq (.reg [⟨some q61, none, .ldN 6 (.t q7)⟩, ⟨none, none, .st 6 (.t q4) (.t q61)⟩]) .ret)
def K69_1 : IC := .seq (.reg [⟨some q27, none, .mov (.t q0)⟩, ⟨some q28, none, .nck (.t q27)⟩, ⟨some q29, none, .fa 1 (.t q28)⟩, ⟨some q30, none, .ld1 (.t q29)⟩, ⟨some q31, none, .binI .add (.t q30) (.c (.i .i64 1))⟩, ⟨some q32, none, .nck (.t q27)⟩, ⟨some q33, none, .fa 1 (.t q32)⟩, ⟨none, none, .st 1 (.t q33) (.t q31)⟩]) (.seq (.reg [⟨some q34, none, .mov (.t q0)⟩, ⟨some q35, none, .mov (.t q1)⟩, ⟨some q36, none, .binI .add (.t q35) (.c (.i .i64 1))⟩, ⟨some q37, none, .call 19 [.t q34, .t q36]⟩, ⟨some q7, none, .new [.i .i64 0, .i .u64 0, .i .u64 0, .i .u64 0, .i .u64 0, .nils]⟩, ⟨none, none, .st 6 (.t q7) (.t q37)⟩]) (.seq (.seq (.reg [⟨some q38, none, .mov (.t q0)⟩, ⟨some q39, none, .nck (.t q38)⟩, ⟨some q40, none, .fa 2 (.t q39)⟩, ⟨some q41, none, .ld1 (.t q40)⟩, ⟨some q42, none, .binI .eql (.t q41) (.c (.i .i64 0))⟩, ⟨some q43, none, .mov (.t q42)⟩, ⟨some q44, some (q43, true), .mov (.t q0)⟩, ⟨some q45, some (q43, true), .call 39 [.t q44, .c (.i .u8 41)]⟩, ⟨some q46, some (q43, true), .un .not (.t q45)⟩, ⟨some q47, none, .pick (.t q43) (.t q46) (.c (.b false))⟩]) (.cond (.t q47) (.reg [⟨some q48, none, .mov (.t q0)⟩, ⟨some q49, none, .mov (.t q0)⟩, ⟨some q50, none, .nck (.t q49)⟩, ⟨some q51, none, .fa 1 (.t q50)⟩, ⟨some q52, none, .ld1 (.t q51)⟩, ⟨some q53, none, .call 21 [.t q48, .c (.i .i64 2), .t q52]⟩]) .skip)) K69_0))
def K69_2 : IC := .seq (.reg [⟨some q93, none, .mov (.t q0)⟩, ⟨some q94, none, .nck (.t q93)⟩, ⟨some q95, none, .fa 1 (.t q94)⟩, ⟨some q96, none, .ld1 (.t q95)⟩, ⟨some q97, none, .binI .add (.t q96) (.c (.i .i64 1))⟩, ⟨some q98, none, .nck (.t q93)⟩, ⟨some q99, none, .fa 1 (.t q98)⟩, ⟨none, none, .st 1 (.t q99) (.t q97)⟩]) (.seq (.dreg 0 [(⟨some q100, none, .mov (.t q0)⟩, .pu), (⟨some q101, none, .nck (.t q100)⟩, .pu), (⟨some q102, none, .fa 0 (.t q101)⟩, .pu), (⟨some q103, none, .ld1 (.t q102)⟩, .rd 0), (⟨some q104, none, .mov (.t q0)⟩, .pu), (⟨some q105, none, .nck (.t q104)⟩, .pu), (⟨some q106, none, .fa 1 (.t q105)⟩, .pu), (⟨some q107, none, .ld1 (.t q106)⟩, .rd 0), (⟨some q108, none, .binI .sub (.t q107) (.c (.i .i64 1))⟩, .pu)] [⟨some q109, none, .pu2 .ixT (.t q103) (.t q108)⟩, ⟨some q110, none, .call 71 [.t q109]⟩, ⟨none, none, .st 6 (.t q4) (.t q110)⟩] []) .ret)
def K69_3 : IC := .seq (.reg [⟨some q130, none, .mov (.t q0)⟩, ⟨some q131, none, .nck (.t q130)⟩, ⟨some q132, none, .fa 1 (.t q131)⟩, ⟨some q133, none, .ld1 (.t q132)⟩, ⟨some q134, none, .binI .add (.t q133) (.c (.i .i64 1))⟩, ⟨some q135, none, .nck (.t q130)⟩, ⟨some q136, none, .fa 1 (.t q135)⟩, ⟨none, none, .st 1 (.t q136) (.t q134)⟩]) (.seq (.reg [⟨some q137, none, .mov (.t q6)⟩, ⟨some q138, none, .call 71 [.t q137]⟩, ⟨none, none, .st 6 (.t q4) (.t q138)⟩]) .ret)
def B69 : IC := .seq (.reg [⟨some q4, none, .new [.i .i64 0, .i .u64 0, .i .u64 0, .i .u64 0, .i .u64 0, .nils]⟩]) (.seq (.reg [⟨some q8, none, .mov (.t q0)⟩, ⟨some q9, none, .nck (.t q8)⟩, ⟨some q10, none, .fa 1 (.t q9)⟩, ⟨some q11, none, .ld1 (.t q10)⟩, ⟨some q5, none, .mov (.t q11)⟩]) (.seq (.reg [⟨some q12, none, .mov (.t q0)⟩, ⟨some q13, none, .nck (.t q12)⟩, ⟨some q14, none, .fa 0 (.t q13)⟩, ⟨some q15, none, .ld1 (.t q14)⟩, ⟨some q16, none, .mov (.t q5)⟩, ⟨some q17, none, .pu2 .ixT (.t q15) (.t q16)⟩, ⟨some q6, none, .mov (.t q17)⟩]) (.seq (.block 0 (.seq (.reg [⟨some q19, none, .mov (.t q6)⟩, ⟨some q20, none, .binI .eql (.t q19) (.c (.i .u8 40))⟩, ⟨some q18, none, .mov (.t q20)⟩]) (.cond (.t q18) (.seq (.seq (.reg [⟨some q21, none, .mov (.t q1)⟩, ⟨some q22, none, .binI .geq (.t q21) (.c (.i .i64 20))⟩]) (.cond (.t q22) (.seq (.reg [⟨some q23, none, .mov (.t q0)⟩, ⟨some q24, none, .mov (.t q5)⟩, ⟨some q25, none, .call 21 [.t q23, .c (.i .i64 4), .t q24]⟩]) (.seq (.reg [⟨some q26, none, .build [.i .i64 0, .i .u64 0, .i .u64 0, .i .u64 0, .i .u64 0, .nils] []⟩, ⟨none, none, .st 6 (.t q4) (.t q26)⟩]) .ret)) .skip)) K69_1) (.seq (.reg [⟨some q63, none, .mov (.t q6)⟩, ⟨some q64, none, .binI .eql (.t q63) (.c (.i .u8 46))⟩, ⟨some q62, none, .mov (.t q64)⟩]) (.cond (.t q62) (.seq (.reg [⟨some q65, none, .mov (.t q0)⟩, ⟨some q66, none, .nck (.t q65)⟩, ⟨some q67, none, .fa 1 (.t q66)⟩, ⟨some q68, none, .ld1 (.t q67)⟩, ⟨some q69, none, .binI .add (.t q68) (.c (.i .i64 1))⟩, ⟨some q70, none, .nck (.t q65)⟩, ⟨some q71, none, .fa 1 (.t q70)⟩, ⟨none, none, .st 1 (.t q71) (.t q69)⟩]) (.seq (.reg [⟨some q72, none, .call 70 []⟩, ⟨some q73, none, .build [.i .i64 0, .i .u64 0, .i .u64 0, .i .u64 0, .i .u64 0, .nils] [(0, 1, .c (.i .i64 1)), (1, 4, .t q72)]⟩, ⟨none, none, .st 6 (.t q4) (.t q73)⟩]) .ret)) (.seq (.reg [⟨some q75, none, .mov (.t q6)⟩, ⟨some q76, none, .binI .eql (.t q75) (.c (.i .u8 92))⟩, ⟨some q74, none, .mov (.t q76)⟩]) (.cond (.t q74) (.seq (.reg [⟨some q77, none, .mov (.t q0)⟩, ⟨some q78, none, .nck (.t q77)⟩, ⟨some q79, none, .fa 1 (.t q78)⟩, ⟨some q80, none, .ld1 (.t q79)⟩, ⟨some q81, none, .binI .add (.t q80) (.c (.i .i64 1))⟩, ⟨some q82, none, .nck (.t q77)⟩, ⟨some q83, none, .fa 1 (.t q82)⟩, ⟨none, none, .st 1 (.t q83) (.t q81)⟩]) (.seq (.seq (.reg [⟨some q84, none, .mov (.t q0)⟩, ⟨some q85, none, .call 20 [.t q84]⟩]) (.cond (.t q85) (.seq (.reg [⟨some q86, none, .mov (.t q0)⟩, ⟨some q87, none, .mov (.t q0)⟩, ⟨some q88, none, .nck (.t q87)⟩, ⟨some q89, none, .fa 1 (.t q88)⟩, ⟨some q90, none, .ld1 (.t q89)⟩, ⟨some q91, none, .call 21 [.t q86, .c (.i .i64 2), .t q90]⟩]) (.seq (.reg [⟨some q92, none, .build [.i .i64 0, .i .u64 0, .i .u64 0, .i .u64 0, .i .u64 0, .nils] []⟩, ⟨none, none, .st 6 (.t q4) (.t q92)⟩]) .ret)) .skip)) K69_2)) (.seq (.reg [⟨some q112, none, .mov (.t q6)⟩, ⟨some q113, none, .binI .eql (.t q112) (.c (.i .u8 91))⟩, ⟨some q111, none, .mov (.t q113)⟩]) (.cond (.t q111) (.seq (.reg [⟨some q114, none, .mov (.t q0)⟩, ⟨some q115, none, .nck (.t q114)⟩, ⟨some q116, none, .fa 1 (.t q115)⟩, ⟨some q117, none, .ld1 (.t q116)⟩, ⟨some q118, none, .binI .add (.t q117) (.c (.i .i64 1))⟩, ⟨some q119, none, .nck (.t q114)⟩, ⟨some q120, none, .fa 1 (.t q119)⟩, ⟨none, none, .st 1 (.t q120) (.t q118)⟩]) (.seq (.reg [⟨some q121, none, .mov (.t q0)⟩, ⟨some q122, none, .call 72 [.t q121]⟩, ⟨none, none, .st 6 (.t q4) (.t q122)⟩]) .ret)) (.seq (.reg [⟨some q124, none, .mov (.t q6)⟩, ⟨some q125, none, .call 73 [.t q124]⟩, ⟨some q123, none, .mov (.t q125)⟩]) (.cond (.t q123) (.seq (.reg [⟨some q126, none, .mov (.t q0)⟩, ⟨some q127, none, .mov (.t q5)⟩, ⟨some q128, none, .call 21 [.t q126, .c (.i .i64 2), .t q127]⟩]) (.seq (.reg [⟨some q129, none, .build [.i .i64 0, .i .u64 0, .i .u64 0, .i .u64 0, .i .u64 0, .nils] []⟩, ⟨none, none, .st 6 (.t q4) (.t q129)⟩]) .ret)) .skip))))))))))) K69_3)))
def F69 : IFn := ⟨139, [.cN q4 6], B69⟩
theorem R69 : F69.res = [.cN q4 6] := rfl
theorem fits69 : FitsF Try.prog 69 F69 := cmpF_fits (pol := fun _ => false) Try.func69 (by kernel_rfl)
def K70_0 : IC := .reg [⟨some q5, none, .mov (.t q2)⟩, ⟨some q6, none, .binI .add (.t q5) (.c (.i .i64 1))⟩, ⟨some q2, none, .mov (.t q6)⟩]
def K70_1 : IC := .seq (.block 1 (.seq (.reg [⟨some q7, none, .mov (.t q2)⟩, ⟨some q8, none, .binI .neq (.t q7) (.c (.i .i64 10))⟩]) (.cond (.t q8) (.reg [⟨some q9, none, .ldN 4 (.t q1)⟩, ⟨some q10, none, .mov (.t q2)⟩, ⟨some q11, none, .cvI .u8 (.t q10)⟩, ⟨some q12, none, .call 74 [.t q9, .t q11]⟩, ⟨none, none, .st 4 (.t q1) (.t q12)⟩]) .skip))) K70_0
def L70_2 : IC := .seq (.seq (.reg [⟨some q3, none, .mov (.t q2)⟩, ⟨some q4, none, .binI .lss (.t q3) (.c (.i .i64 256))⟩]) (.cond (.t q4) .skip (.exit 0))) K70_1
def K70_3 : IC := .seq (.reg [⟨some q13, none, .ldN 4 (.t q1)⟩, ⟨none, none, .st 4 (.t q0) (.t q13)⟩]) .ret
def B70 : IC := .seq (.reg [⟨some q0, none, .new [.i .u64 0, .i .u64 0, .i .u64 0, .i .u64 0]⟩]) (.seq (.reg [⟨some q1, none, .new [.i .u64 0, .i .u64 0, .i .u64 0, .i .u64 0]⟩]) (.seq (.seq (.reg [⟨some q2, none, .mov (.c (.i .i64 0))⟩]) (.block 0 (.loop L70_2))) K70_3))
def F70 : IFn := ⟨14, [.cN q0 4], B70⟩
theorem R70 : F70.res = [.cN q0 4] := rfl
theorem fits70 : FitsF Try.prog 70 F70 := cmpF_fits (pol := fun _ => false) Try.func70 (by kernel_rfl)
def B71 : IC := .seq (.reg [⟨some q2, none, .new [.i .i64 0, .i .u64 0, .i .u64 0, .i .u64 0, .i .u64 0, .nils]⟩]) (.seq (.reg [⟨some q3, none, .new [.i .u64 0, .i .u64 0, .i .u64 0, .i .u64 0]⟩]) (.seq (.reg [⟨some q4, none, .ldN 4 (.t q3)⟩, ⟨some q5, none, .mov (.t q0)⟩, ⟨some q6, none, .call 74 [.t q4, .t q5]⟩, ⟨some q7, none, .build [.i .i64 0, .i .u64 0, .i .u64 0, .i .u64 0, .i .u64 0, .nils] [(0, 1, .c (.i .i64 1)), (1, 4, .t q6)]⟩, ⟨none, none, .st 6 (.t q2) (.t q7)⟩]) .ret))
def F71 : IFn := ⟨8, [.cN q2 6], B71⟩
theorem R71 : F71.res = [.cN q2 6] := rfl
theorem fits71 : FitsF Try.prog 71 F71 := cmpF_fits (pol := fun _ => false) Try.func71 (by kernel_rfl)
def K72_0 : IC := .cond (.t q84) (.seq (.reg [⟨some q85, none, .mov (.t q0)⟩, ⟨some q86, none, .nck (.t q85)⟩, ⟨some q87, none, .fa 1 (.t q86)⟩, ⟨some q88, none, .ld1 (.t q87)⟩, ⟨some q89, none, .binI .add (.t q88) (.c (.i .i64 1))⟩, ⟨some q90, none, .nck (.t q85)⟩, ⟨some q91, none, .fa 1 (.t q90)⟩, ⟨none, none, .st 1 (.t q91) (.t q89)⟩]) (.seq (.reg [⟨some q92, none, .mov (.t q0)⟩, ⟨some q93, none, .nck (.t q92)⟩, ⟨some q94, none, .fa 1 (.t q93)⟩, ⟨some q95, none, .ld1 (.t q94)⟩, ⟨some q8, none, .mov (.t q95)⟩]) (.seq (.reg [⟨some q96, none, .mov (.t q0)⟩, ⟨some q97, none, .call 75 [.t q96]⟩, ⟨some q7, none, .mov (.t q97)⟩]) (.seq (.reg [⟨some q98, none, .mov (.t q0)⟩, ⟨some q99, none, .nck (.t q98)⟩, ⟨some q100, none, .fa 2 (.t q99)⟩, ⟨some q101, none, .ld1 (.t q100)⟩, ⟨some q102, none, .binI .eql (.t q101) (.c (.i .i64 0))⟩, ⟨some q103, none, .mov (.t q102)⟩, ⟨some q104, some (q103, true), .mov (.t q7)⟩, ⟨some q105, some (q103, true), .mov (.t q6)⟩, ⟨some q106, some (q103, true), .binI .lss (.t q104) (.t q105)⟩, ⟨some q107, none, .pick (.t q103) (.t q106) (.c (.b false))⟩]) (.cond (.t q107) (.reg [⟨some q108, none, .mov (.t q0)⟩, ⟨some q109, none, .mov (.t q8)⟩, ⟨some q110, none, .call 21 [.t q108, .c (.i .i64 2), .t q109]⟩]) .skip))))) .skip
def K72_1 : IC := .reg [⟨some q117, none, .mov (.t q9)⟩, ⟨some q118, none, .binI .add (.t q117) (.c (.i .i64 1))⟩, ⟨some q9, none, .mov (.t q118)⟩]
def K72_2 : IC := .seq (.block 3 (.reg [⟨some q119, none, .ldN 4 (.t q3)⟩, ⟨some q120, none, .mov (.t q9)⟩, ⟨some q121, none, .cvI .u8 (.t q120)⟩, ⟨some q122, none, .call 74 [.t q119, .t q121]⟩, ⟨none, none, .st 4 (.t q3) (.t q122)⟩])) K72_1
def L72_3 : IC := .seq (.seq (.reg [⟨some q113, none, .mov (.t q9)⟩, ⟨some q114, none, .mov (.t q7)⟩, ⟨some q115, none, .cvI .i64 (.t q114)⟩, ⟨some q116, none, .binI .leq (.t q113) (.t q115)⟩]) (.cond (.t q116) .skip (.exit 2))) K72_2
def K72_4 : IC := .reg [⟨some q123, none, .mov (.t q5)⟩, ⟨some q124, none, .binI .add (.t q123) (.c (.i .i64 1))⟩, ⟨some q5, none, .mov (.t q124)⟩]
def K72_5 : IC := .seq (.seq (.reg [⟨some q111, none, .mov (.t q6)⟩, ⟨some q112, none, .cvI .i64 (.t q111)⟩, ⟨some q9, none, .mov (.t q112)⟩]) (.block 2 (.loop L72_3))) K72_4
def K72_6 : IC := .seq (.reg [⟨some q47, none, .mov (.t q0)⟩, ⟨some q48, none, .call 75 [.t q47]⟩, ⟨some q6, none, .mov (.t q48)⟩]) (.seq (.reg [⟨some q49, none, .mov (.t q6)⟩, ⟨some q7, none, .mov (.t q49)⟩]) (.seq (.seq (.dreg 0 [(⟨some q50, none, .mov (.t q0)⟩, .pu), (⟨some q51, none, .nck (.t q50)⟩, .pu), (⟨some q52, none, .fa 2 (.t q51)⟩, .pu), (⟨some q53, none, .ld1 (.t q52)⟩, .rd 0), (⟨some q54, none, .binI .eql (.t q53) (.c (.i .i64 0))⟩, .pu), (⟨some q55, none, .mov (.t q54)⟩, .pu), (⟨some q56, some (q55, true), .mov (.t q0)⟩, .pu), (⟨some q57, some (q55, true), .call 39 [.t q56, .c (.i .u8 45)]⟩, .md), (⟨some q58, none, .pick (.t q55) (.t q57) (.c (.b false))⟩, .pu), (⟨some q59, none, .mov (.t q58)⟩, .pu), (⟨some q60, some (q59, true), .mov (.t q0)⟩, .pu), (⟨some q61, some (q59, true), .nck (.t q60)⟩, .pu), (⟨some q62, some (q59, true), .fa 1 (.t q61)⟩, .pu), (⟨some q63, some (q59, true), .ld1 (.t q62)⟩, .rd 0), (⟨some q64, some (q59, true), .binI .add (.t q63) (.c (.i .i64 1))⟩, .pu), (⟨some q65, some (q59, true), .mov (.t q0)⟩, .pu), (⟨some q66, some (q59, true), .nck (.t q65)⟩, .pu), (⟨some q67, some (q59, true), .fa 0 (.t q66)⟩, .pu), (⟨some q68, some (q59, true), .ld1 (.t q67)⟩, .rd 0), (⟨some q69, some (q59, true), .lenT (.t q68)⟩, .pu), (⟨some q70, some (q59, true), .binI .lss (.t q64) (.t q69)⟩, .pu), (⟨some q71, none, .pick (.t q59) (.t q70) (.c (.b false))⟩, .pu), (⟨some q72, none, .mov (.t q71)⟩, .pu), (⟨some q73, some (q72, true), .mov (.t q0)⟩, .pu), (⟨some q74, some (q72, true), .nck (.t q73)⟩, .pu), (⟨some q75, some (q72, true), .fa 0 (.t q74)⟩, .pu), (⟨some q76, some (q72, true), .ld1 (.t q75)⟩, .rd 0), (⟨some q77, some (q72, true), .mov (.t q0)⟩, .pu), (⟨some q78, some (q72, true), .nck (.t q77)⟩, .pu), (⟨some q79, some (q72, true), .fa 1 (.t q78)⟩, .pu), (⟨some q80, some (q72, true), .ld1 (.t q79)⟩, .rd 0), (⟨some q81, some (q72, true), .binI .add (.t q80) (.c (.i .i64 1))⟩, .pu)] [⟨some q82, some (q72, true), .pu2 .ixT (.t q76) (.t q81)⟩, ⟨some q83, some (q72, true), .binI .neq (.t q82) (.c (.i .u8 93))⟩, ⟨some q84, none, .pick (.t q72) (.t q83) (.c (.b false))⟩] []) K72_0) K72_5))
def K72_7 : IC := .block 1 (.seq (.seq (.reg [⟨some q35, none, .mov (.t q0)⟩, ⟨some q36, none, .call 39 [.t q35, .c (.i .u8 93)]⟩, ⟨some q37, none, .mov (.t q36)⟩, ⟨some q38, some (q37, false), .mov (.t q0)⟩, ⟨some q39, some (q37, false), .call 20 [.t q38]⟩, ⟨some q40, none, .pick (.t q37) (.c (.b true)) (.t q39)⟩]) (.cond (.t q40) (.seq (.reg [⟨some q41, none, .mov (.t q0)⟩, ⟨some q42, none, .mov (.t q0)⟩, ⟨some q43, none, .nck (.t q42)⟩, ⟨some q44, none, .fa 1 (.t q43)⟩, ⟨some q45, none, .ld1 (.t q44)⟩, ⟨some q46, none, .call 21 [.t q41, .c (.i .i64 2), .t q45]⟩]) (.exit 0)) .skip)) K72_6)
def L72_8 : IC := .seq (.seq (.reg [⟨some q21, none, .mov (.t q0)⟩, ⟨some q22, none, .nck (.t q21)⟩, ⟨some q23, none, .fa 2 (.t q22)⟩, ⟨some q24, none, .ld1 (.t q23)⟩, ⟨some q25, none, .binI .eql (.t q24) (.c (.i .i64 0))⟩, ⟨some q26, none, .mov (.t q25)⟩, ⟨some q27, some (q26, true), .mov (.t q0)⟩, ⟨some q28, some (q26, true), .call 39 [.t q27, .c (.i .u8 93)]⟩, ⟨some q29, some (q26, true), .mov (.t q28)⟩, ⟨some q30, some (q29, true), .mov (.t q5)⟩, ⟨some q31, some (q29, true), .binI .gtr (.t q30) (.c (.i .i64 0))⟩, ⟨some q32, some (q26, true), .pick (.t q29) (.t q31) (.c (.b false))⟩, ⟨some q33, some (q26, true), .un .not (.t q32)⟩, ⟨some q34, none, .pick (.t q26) (.t q33) (.c (.b false))⟩]) (.cond (.t q34) .skip (.exit 0))) K72_7
def K72_9 : IC := .reg [⟨some q135, none, .mov (.t q10)⟩, ⟨some q136, none, .binI .add (.t q135) (.c (.i .i64 1))⟩, ⟨some q10, none, .mov (.t q136)⟩]
def K72_10 : IC := .seq (.block 5 (.reg [⟨some q137, none, .mov (.t q10)⟩, ⟨some q138, none, .mov (.t q10)⟩, ⟨some q139, none, .ixA 4 1 (.t q3) (.t q138)⟩, ⟨some q140, none, .ld1 (.t q139)⟩, ⟨some q141, none, .un .xor (.t q140)⟩, ⟨some q142, none, .ixA 4 1 (.t q3) (.t q137)⟩, ⟨none, none, .st 1 (.t q142) (.t q141)⟩])) K72_9
def L72_11 : IC := .seq (.seq (.reg [⟨some q133, none, .mov (.t q10)⟩, ⟨some q134, none, .binI .lss (.t q133) (.c (.i .i64 4))⟩]) (.cond (.t q134) .skip (.exit 4))) K72_10
def K72_12 : IC := .seq (.reg [⟨some q143, none, .ldN 4 (.t q3)⟩, ⟨some q144, none, .build [.i .i64 0, .i .u64 0, .i .u64 0, .i .u64 0, .i .u64 0, .nils] [(0, 1, .c (.i .i64 1)), (1, 4, .t q143)]⟩, ⟨none, none, .st 6 (.t q2) (.t q144)⟩]) .ret
def K72_13 : IC := .seq (.reg [⟨some q125, none, .mov (.t q0)⟩, ⟨some q126, none, .nck (.t q125)⟩, ⟨some q127, none, .fa 1 (.t q126)⟩, ⟨some q128, none, .ld1 (.t q127)⟩, ⟨some q129, none, .binI .add (.t q128) (.c (.i .i64 1))⟩, ⟨some q130, none, .nck (.t q125)⟩, ⟨some q131, none, .fa 1 (.t q130)⟩, ⟨none, none, .st 1 (.t q131) (.t q129)⟩]) (.seq (.seq (.reg [⟨some q132, none, .mov (.t q4)⟩]) (.cond (.t q132) (.seq (.reg [⟨some q10, none, .mov (.c (.i .i64 0))⟩]) (.block 4 (.loop L72_11))) .skip)) K72_12)
def K72_14 : IC := .seq (.reg [⟨some q5, none, .mov (.c (.i .i64 0))⟩]) (.seq (.block 0 (.loop L72_8)) K72_13)
def B72 : IC := .seq (.reg [⟨some q2, none, .new [.i .i64 0, .i .u64 0, .i .u64 0, .i .u64 0, .i .u64 0, .nils]⟩]) (.seq (.reg [⟨some q3, none, .new [.i .u64 0, .i .u64 0, .i .u64 0, .i .u64 0]⟩]) (.seq (.reg [⟨some q11, none, .mov (.t q0)⟩, ⟨some q12, none, .call 39 [.t q11, .c (.i .u8 94)]⟩, ⟨some q4, none, .mov (.t q12)⟩]) (.seq (.seq (.reg [⟨some q13, none, .mov (.t q4)⟩]) (.cond (.t q13) (.reg [⟨some q14, none, .mov (.t q0)⟩, ⟨some q15, none, .nck (.t q14)⟩, ⟨some q16, none, .fa 1 (.t q15)⟩, ⟨some q17, none, .ld1 (.t q16)⟩, ⟨some q18, none, .binI .add (.t q17) (.c (.i .i64 1))⟩, ⟨some q19, none, .nck (.t q14)⟩, ⟨some q20, none, .fa 1 (.t q19)⟩, ⟨none, none, .st 1 (.t q20) (.t q18)⟩]) .skip)) K72_14)))
def F72 : IFn := ⟨145, [.cN q2 6], B72⟩
theorem R72 : F72.res = [.cN q2 6] := rfl
theorem fits72 : FitsF Try.prog 72 F72 := cmpF_fits (pol := fun _ => false) Try.func72 (by kernel_rfl)
def B73 : IC := .seq (.reg [⟨some q2, none, .mov (.c (.b false))⟩]) (.seq (.reg [⟨some q3, none, .mov (.t q0)⟩, ⟨some q4, none, .binI .eql (.t q3) (.c (.i .u8 124))⟩, ⟨some q5, none, .mov (.t q4)⟩, ⟨some q6, some (q5, false), .mov (.t q0)⟩, ⟨some q7, some (q5, false), .binI .eql (.t q6) (.c (.i .u8 42))⟩, ⟨some q8, none, .pick (.t q5) (.c (.b true)) (.t q7)⟩, ⟨some q9, none, .mov (.t q8)⟩, ⟨some q10, some (q9, false), .mov (.t q0)⟩, ⟨some q11, some (q9, false), .binI .eql (.t q10) (.c (.i .u8 43))⟩, ⟨some q12, none, .pick (.t q9) (.c (.b true)) (.t q11)⟩, ⟨some q13, none, .mov (.t q12)⟩, ⟨some q14, some (q13, false), .mov (.t q0)⟩, ⟨some q15, some (q13, false), .binI .eql (.t q14) (.c (.i .u8 63))⟩, ⟨some q16, none, .pick (.t q13) (.c (.b true)) (.t q15)⟩, ⟨some q17, none, .mov (.t q16)⟩, ⟨some q18, some (q17, false), .mov (.t q0)⟩, ⟨some q19, some (q17, false), .binI .eql (.t q18) (.c (.i .u8 40))⟩, ⟨some q20, none, .pick (.t q17) (.c (.b true)) (.t q19)⟩, ⟨some q21, none, .mov (.t q20)⟩, ⟨some q22, some (q21, false), .mov (.t q0)⟩, ⟨some q23, some (q21, false), .binI .eql (.t q22) (.c (.i .u8 41))⟩, ⟨some q24, none, .pick (.t q21) (.c (.b true)) (.t q23)⟩, ⟨some q25, none, .mov (.t q24)⟩, ⟨some q26, some (q25, false), .mov (.t q0)⟩, ⟨some q27, some (q25, false), .binI .eql (.t q26) (.c (.i .u8 91))⟩, ⟨some q28, none, .pick (.t q25) (.c (.b true)) (.t q27)⟩, ⟨some q29, none, .mov (.t q28)⟩, ⟨some q30, some (q29, false), .mov (.t q0)⟩, ⟨some q31, some (q29, false), .binI .eql (.t q30) (.c (.i .u8 93))⟩, ⟨some q32, none, .pick (.t q29) (.c (.b true)) (.t q31)⟩, ⟨some q2, none, .mov (.t q32)⟩]) .ret)
def F73 : IFn := ⟨33, [.tmp q2], B73⟩
theorem R73 : F73.res = [.tmp q2] := rfl
theorem fits73 : FitsF Try.prog 73 F73 := cmpF_fits (pol := fun _ => false) Try.func73 (by kernel_rfl)
def B74 : IC := .seq (.reg [⟨some q2, none, .box (.t q0)⟩, ⟨some q4, none, .new [.i .u64 0, .i .u64 0, .i .u64 0, .i .u64 0]⟩]) (.seq (.reg [⟨some q5, none, .mov (.t q1)⟩, ⟨some q6, none, .binI .shr (.t q5) (.c (.i .u64 6))⟩, ⟨some q7, none, .mov (.t q1)⟩, ⟨some q8, none, .binI .shr (.t q7) (.c (.i .u64 6))⟩, ⟨some q9, none, .ixA 4 1 (.t q2) (.t q8)⟩, ⟨some q10, none, .ld1 (.t q9)⟩, ⟨some q11, none, .mov (.t q1)⟩, ⟨some q12, none, .binI .and (.t q11) (.c (.i .u8 63))⟩, ⟨some q13, none, .cvI .u64 (.t q12)⟩, ⟨some q14, none, .binI .shl (.c (.i .u64 1)) (.t q13)⟩, ⟨some q15, none, .binI .or (.t q10) (.t q14)⟩, ⟨some q16, none, .ixA 4 1 (.t q2) (.t q6)⟩, ⟨none, none, .st 1 (.t q16) (.t q15)⟩]) (.seq (.reg [⟨some q17, none, .ldN 4 (.t q2)⟩, ⟨none, none, .st 4 (.t q4) (.t q17)⟩]) .ret))
def F74 : IFn := ⟨18, [.cN q4 4], B74⟩
theorem R74 : F74.res = [.cN q4 4] := rfl
theorem fits74 : FitsF Try.prog 74 F74 := cmpF_fits (pol := fun _ => false) Try.func74 (by kernel_rfl)
def K75_0 : IC := .seq (.reg [⟨some q20, none, .mov (.t q0)⟩, ⟨some q21, none, .nck (.t q20)⟩, ⟨some q22, none, .fa 1 (.t q21)⟩, ⟨some q23, none, .ld1 (.t q22)⟩, ⟨some q24, none, .binI .add (.t q23) (.c (.i .i64 1))⟩, ⟨some q25, none, .nck (.t q20)⟩, ⟨some q26, none, .fa 1 (.t q25)⟩, ⟨none, none, .st 1 (.t q26) (.t q24)⟩]) (.seq (.dreg 0 [(⟨some q27, none, .mov (.t q0)⟩, .pu), (⟨some q28, none, .nck (.t q27)⟩, .pu), (⟨some q29, none, .fa 0 (.t q28)⟩, .pu), (⟨some q30, none, .ld1 (.t q29)⟩, .rd 0), (⟨some q31, none, .mov (.t q0)⟩, .pu), (⟨some q32, none, .nck (.t q31)⟩, .pu), (⟨some q33, none, .fa 1 (.t q32)⟩, .pu), (⟨some q34, none, .ld1 (.t q33)⟩, .rd 0), (⟨some q35, none, .binI .sub (.t q34) (.c (.i .i64 1))⟩, .pu)] [⟨some q36, none, .pu2 .ixT (.t q30) (.t q35)⟩, ⟨some q2, none, .mov (.t q36)⟩] []) .ret)
def K75_1 : IC := .seq (.seq (.reg [⟨some q12, none, .mov (.t q0)⟩, ⟨some q13, none, .call 20 [.t q12]⟩]) (.cond (.t q13) (.seq (.reg [⟨some q14, none, .mov (.t q0)⟩, ⟨some q15, none, .mov (.t q0)⟩, ⟨some q16, none, .nck (.t q15)⟩, ⟨some q17, none, .fa 1 (.t q16)⟩, ⟨some q18, none, .ld1 (.t q17)⟩, ⟨some q19, none, .call 21 [.t q14, .c (.i .i64 2), .t q18]⟩]) (.seq (.reg [⟨some q2, none, .mov (.c (.i .u8 0))⟩]) .ret)) .skip)) K75_0
def B75 : IC := .seq (.reg [⟨some q2, none, .mov (.c (.i .u8 0))⟩]) (.seq (.seq (.reg [⟨some q3, none, .mov (.t q0)⟩, ⟨some q4, none, .call 39 [.t q3, .c (.i .u8 92)]⟩]) (.cond (.t q4) (.reg [⟨some q5, none, .mov (.t q0)⟩, ⟨some q6, none, .nck (.t q5)⟩, ⟨some q7, none, .fa 1 (.t q6)⟩, ⟨some q8, none, .ld1 (.t q7)⟩, ⟨some q9, none, .binI .add (.t q8) (.c (.i .i64 1))⟩, ⟨some q10, none, .nck (.t q5)⟩, ⟨some q11, none, .fa 1 (.t q10)⟩, ⟨none, none, .st 1 (.t q11) (.t q9)⟩]) .skip)) K75_1)
def F75 : IFn := ⟨37, [.tmp q2], B75⟩
theorem R75 : F75.res = [.tmp q2] := rfl
theorem fits75 : FitsF Try.prog 75 F75 := cmpF_fits (pol := fun _ => false) Try.func75 (by kernel_rfl)
end Go.Proofs.Ytcajphnjiepbaaa.K
set_option maxRecDepth 100000
namespace Go.Proofs.Ytcajphnjiepbaaa.Ev
open Go
def fnsL : List (Nat × IFn) := [(7, K.F7), (9, K.F9), (10, K.F10), (11, K.F11), (22, K.F22), (23, K.F23), (24, K.F24), (25, K.F25), (26, K.F26), (27, K.F27), (28, K.F28), (40, K.F40), (41, K.F41), (42, K.F42), (43, K.F43), (44, K.F44), (45, K.F45), (46, K.F46), (47, K.F47), (48, K.F48), (49, K.F49), (50, K.F50), (51, K.F51), (61, K.F61), (62, K.F62), (63, K.F63), (64, K.F64), (65, K.F65), (66, K.F66)]
def fnsT : T IFn := ⟨⟨none, none, none, none, none, none, none, some K.F7, none, some K.F9, some K.F10, some K.F11, none, none, none, none⟩, some ⟨w1, ⟨none, none, none, none, none, none, some K.F22, some K.F23, some K.F24, some K.F25, some K.F26, some K.F27, some K.F28, none, none, none⟩, ⟨none, none, none, none, none, none, none, none, some K.F40, some K.F41, some K.F42, some K.F43, some K.F44, some K.F45, some K.F46, some K.F47⟩, ⟨some K.F48, some K.F49, some K.F50, some K.F51, none, none, none, none, none, none, none, none, none, some K.F61, some K.F62, some K.F63⟩, ⟨some K.F64, some K.F65, some K.F66, none, none, none, none, none, none, none, none, none, none, none, none, none⟩, w1, w1, w1, w1, w1, w1, w1, w1, w1, w1, w1⟩, none, none, .lf⟩
theorem fnsT_eq : fnsT = mkT fnsL := by kernel_rfl
noncomputable def fns (g : Nat) : Option IFn := idK fnsT g
theorem fns_ok : ∀ g fn, fns g = some fn → FitsF Try.prog g fn :=
  fits_of fnsT_eq fun x hx => by
    unfold fnsL at hx
    simp only [List.mem_cons, List.not_mem_nil, or_false] at hx
    rcases hx with rfl | rfl | rfl | rfl | rfl | rfl | rfl | rfl | rfl | rfl | rfl | rfl | rfl | rfl | rfl | rfl | rfl | rfl | rfl | rfl | rfl | rfl | rfl | rfl | rfl | rfl | rfl | rfl | rfl
    · exact K.fits7
    · exact K.fits9
    · exact K.fits10
    · exact K.fits11
    · exact K.fits22
    · exact K.fits23
    · exact K.fits24
    · exact K.fits25
    · exact K.fits26
    · exact K.fits27
    · exact K.fits28
    · exact K.fits40
    · exact K.fits41
    · exact K.fits42
    · exact K.fits43
    · exact K.fits44
    · exact K.fits45
    · exact K.fits46
    · exact K.fits47
    · exact K.fits48
    · exact K.fits49
    · exact K.fits50
    · exact K.fits51
    · exact K.fits61
    · exact K.fits62
    · exact K.fits63
    · exact K.fits64
    · exact K.fits65
    · exact K.fits66
end Go.Proofs.Ytcajphnjiepbaaa.Ev
set_option linter.unusedSimpArgs false
namespace Go.Proofs.Ytcajphnjiepbaaa
open Go Go.RowKit Kit Ev
set_option maxRecDepth 1000000
noncomputable def gaveB (b : Bool) : Option (MV × MH) → Bool
  | some (.b c, _) => c == b
  | _ => false
theorem gave_some {b : Bool} {r : Option (MV × MH)} (h : gaveB b r = true) : ∃ M', r = some (.b b, M') := by
  unfold gaveB at h
  split at h
  · rename_i c M'
    simp only [beq_iff_eq] at h
    subst h
    exact ⟨M', rfl⟩
  · cases h
theorem globs : ∀ g, gtab g = none := fun _ => rfl
theorem openedz (w : World) : Opened Try.prog w Bz Mz := opened_none globs
theorem mixed : Try.prog.follows .mixedOrders = true := by kernel_rfl
theorem alive_of {g : Nat} (hr : gaveB true (callF fns 3000 g [] Mz) = true) (w : World) : Calls Try.prog g #[] w fun e w' => e = .returned (.bool true) ∧ Kept w w' := by
  obtain ⟨M', h⟩ := gave_some hr
  have hO := openedz w
  refine (calls_run_at (P := Try.prog) mixed fns_ok 3000 g [] [] (.b true) Bz Mz M' w hO.glob hO.inv hO.ro h (DenL.nil _)).mono ?_
  rintro e w' ⟨v, β', rfl, hd, hk⟩
  cases hd
  exact ⟨rfl, hk⟩
theorem run7 : gaveB true (callF fns 3000 7 [] Mz) = true := by kernel_rfl
theorem sem_alive7 : SemF Try.prog 7 Ftrue := by
  obtain ⟨c, hc⟩ : ∃ c, Try.f7.body = some c := Option.isSome_iff_exists.1 (by kernel_rfl)
  exact sem_true Try.func7 (by kernel_rfl) hc (alive_of run7)
end Go.Proofs.Ytcajphnjiepbaaa
set_option maxRecDepth 100000
namespace Go.Proofs.Ytcajphnjiepbaaa.K
open Go Ev
abbrev G7 : IFn := Ftrue
theorem gfits7 : FitsF Try.prog 7 G7 := .inr sem_alive7
def fnsL : List (Nat × IFn) := [(3, F3), (7, G7), (8, F8), (9, F9), (10, F10), (11, F11), (12, F12), (19, F19), (20, F20), (21, F21), (22, F22), (23, F23), (24, F24), (25, F25), (26, F26), (27, F27), (28, F28), (29, F29), (38, F38), (39, F39), (40, F40), (41, F41), (42, F42), (43, F43), (44, F44), (45, F45), (46, F46), (47, F47), (48, F48), (49, F49), (50, F50), (51, F51), (60, F60), (61, F61), (62, F62), (63, F63), (64, F64), (65, F65), (66, F66), (69, F69), (70, F70), (71, F71), (72, F72), (73, F73), (74, F74), (75, F75)]
def fnsT : T IFn := ⟨⟨none, none, none, some F3, none, none, none, some G7, some F8, some F9, some F10, some F11, some F12, none, none, none⟩, some ⟨w1, ⟨none, none, none, some F19, some F20, some F21, some F22, some F23, some F24, some F25, some F26, some F27, some F28, some F29, none, none⟩, ⟨none, none, none, none, none, none, some F38, some F39, some F40, some F41, some F42, some F43, some F44, some F45, some F46, some F47⟩, ⟨some F48, some F49, some F50, some F51, none, none, none, none, none, none, none, none, some F60, some F61, some F62, some F63⟩, ⟨some F64, some F65, some F66, none, none, some F69, some F70, some F71, some F72, some F73, some F74, some F75, none, none, none, none⟩, w1, w1, w1, w1, w1, w1, w1, w1, w1, w1, w1⟩, none, none, .lf⟩
theorem fnsT_eq : fnsT = mkT fnsL := by kernel_rfl
noncomputable def fns (g : Nat) : Option IFn := idK fnsT g
theorem fns_ok : ∀ g fn, fns g = some fn → FitsF Try.prog g fn :=
  fits_of fnsT_eq fun x hx => by
    unfold fnsL at hx
    simp only [List.mem_cons, List.not_mem_nil, or_false] at hx
    rcases hx with rfl | rfl | rfl | rfl | rfl | rfl | rfl | rfl | rfl | rfl | rfl | rfl | rfl | rfl | rfl | rfl | rfl | rfl | rfl | rfl | rfl | rfl | rfl | rfl | rfl | rfl | rfl | rfl | rfl | rfl | rfl | rfl | rfl | rfl | rfl | rfl | rfl | rfl | rfl | rfl | rfl | rfl | rfl | rfl | rfl | rfl
    · exact fits3
    · exact gfits7
    · exact fits8
    · exact fits9
    · exact fits10
    · exact fits11
    · exact fits12
    · exact fits19
    · exact fits20
    · exact fits21
    · exact fits22
    · exact fits23
    · exact fits24
    · exact fits25
    · exact fits26
    · exact fits27
    · exact fits28
    · exact fits29
    · exact fits38
    · exact fits39
    · exact fits40
    · exact fits41
    · exact fits42
    · exact fits43
    · exact fits44
    · exact fits45
    · exact fits46
    · exact fits47
    · exact fits48
    · exact fits49
    · exact fits50
    · exact fits51
    · exact fits60
    · exact fits61
    · exact fits62
    · exact fits63
    · exact fits64
    · exact fits65
    · exact fits66
    · exact fits69
    · exact fits70
    · exact fits71
    · exact fits72
    · exact fits73
    · exact fits74
    · exact fits75
theorem bxR : type_of% (And.intro R3 (And.intro R8 (And.intro R9 (And.intro R10 (And.intro R11 (And.intro R12 (And.intro R19 (And.intro R20 (And.intro R21 (And.intro R22 (And.intro R23 (And.intro R24 (And.intro R25 (And.intro R26 (And.intro R27 (And.intro R28 (And.intro R29 (And.intro R38 (And.intro R39 (And.intro R40 (And.intro R41 (And.intro R42 (And.intro R43 (And.intro R44 (And.intro R45 (And.intro R46 (And.intro R47 (And.intro R48 (And.intro R49 (And.intro R50 (And.intro R51 (And.intro R60 (And.intro R61 (And.intro R62 (And.intro R63 (And.intro R64 (And.intro R65 (And.intro R66 (And.intro R69 (And.intro R70 (And.intro R71 (And.intro R72 (And.intro R73 (And.intro R74 (R75))))))))))))))))))))))))))))))))))))))))))))) := And.intro R3 (And.intro R8 (And.intro R9 (And.intro R10 (And.intro R11 (And.intro R12 (And.intro R19 (And.intro R20 (And.intro R21 (And.intro R22 (And.intro R23 (And.intro R24 (And.intro R25 (And.intro R26 (And.intro R27 (And.intro R28 (And.intro R29 (And.intro R38 (And.intro R39 (And.intro R40 (And.intro R41 (And.intro R42 (And.intro R43 (And.intro R44 (And.intro R45 (And.intro R46 (And.intro R47 (And.intro R48 (And.intro R49 (And.intro R50 (And.intro R51 (And.intro R60 (And.intro R61 (And.intro R62 (And.intro R63 (And.intro R64 (And.intro R65 (And.intro R66 (And.intro R69 (And.intro R70 (And.intro R71 (And.intro R72 (And.intro R73 (And.intro R74 (R75))))))))))))))))))))))))))))))))))))))))))))
end Go.Proofs.Ytcajphnjiepbaaa.K
set_option linter.unusedVariables false
namespace Go.Proofs.Ytcajphnjiepbaaa.Ev
open Go
theorem bxD : type_of% (And.intro @Wp_reg_iff (And.intro @Wp_seq_reg (And.intro @Wp_seq_skip (And.intro @Wp_seq_exit (And.intro @Wp_seq_ret (And.intro @Wp_seq_cond (And.intro @Wp_seq_block (And.intro @Wp_seq_loop (And.intro @Wp_seq_dreg (And.intro @Wp_seq_seq (And.intro @Wp_block_iff (And.intro @Wp_skip_iff (And.intro @Wp_exit_iff (And.intro @Wp_ret_iff (And.intro @Wp_cond_iff (And.intro @Wl_nil_iff (And.intro @Wl_op_iff (And.intro @Wl_gd_iff (And.intro @Wd_nil (And.intro @Wd_pu (And.intro @Wd_rd (And.intro @Wd_ad (And.intro @Wd_md (And.intro @Wd_fl (And.intro @Wd_ma (And.intro @Wd_gpu (And.intro @Wd_grd (And.intro @Wd_gad (@Wd_gmd))))))))))))))))))))))))))))) := And.intro @Wp_reg_iff (And.intro @Wp_seq_reg (And.intro @Wp_seq_skip (And.intro @Wp_seq_exit (And.intro @Wp_seq_ret (And.intro @Wp_seq_cond (And.intro @Wp_seq_block (And.intro @Wp_seq_loop (And.intro @Wp_seq_dreg (And.intro @Wp_seq_seq (And.intro @Wp_block_iff (And.intro @Wp_skip_iff (And.intro @Wp_exit_iff (And.intro @Wp_ret_iff (And.intro @Wp_cond_iff (And.intro @Wl_nil_iff (And.intro @Wl_op_iff (And.intro @Wl_gd_iff (And.intro @Wd_nil (And.intro @Wd_pu (And.intro @Wd_rd (And.intro @Wd_ad (And.intro @Wd_md (And.intro @Wd_fl (And.intro @Wd_ma (And.intro @Wd_gpu (And.intro @Wd_grd (And.intro @Wd_gad (@Wd_gmd))))))))))))))))))))))))))))
theorem bxP : type_of% (And.intro @bindP_some (And.intro @condP_t (And.intro @condP_f (And.intro @gdP_tt (And.intro @gdP_tf (And.intro @gdP_ft (And.intro @gdP_ff (And.intro @gdP_tp (And.intro @thenQ_ret (And.intro @thenQ_exit (And.intro @blockQ_norm (And.intro @blockQ_ret (And.intro @blockQ_exit (And.intro @ev_c (And.intro @ev_set (And.intro @setD_some (And.intro @setD_none (And.intro @retQ_ret (And.intro @retQ_norm (And.intro @o1_some (And.intro @ev_mov (And.intro @ev_pick (And.intro @ev_new (And.intro @ev_box (And.intro @ev_build (And.intro @ev_bslW (And.intro @bslW_some (And.intro @zrow_one (And.intro @fill_ag (And.intro @fill_one (And.intro @ev_ld1 (And.intro @ev_ldN (And.intro @ev_st (And.intro @ev_nck (And.intro @ev_binI (And.intro @ev_binB (And.intro @ev_binN (And.intro @ev_un (And.intro @ev_cvI (And.intro @ev_fld1 (And.intro @ev_fldN (And.intro @ev_fa (And.intro @ev_ixA (And.intro @ev_ixS (And.intro @ev_ext (And.intro @ev_mkm (And.intro @ev_cut (And.intro @ev_app (And.intro @ev_len (And.intro @ev_mn (And.intro @ev_mx (And.intro @ev_call (And.intro @ev_mkf (And.intro @ev_pu2 (And.intro @ev_rdm (And.intro @bin_add (And.intro @bin_sub (And.intro @bin_mul (And.intro @bin_eql (And.intro @bin_neq (And.intro @bin_lss (And.intro @bin_leq (And.intro @bin_gtr (And.intro @bin_geq (And.intro @binB_eql (And.intro @binB_neq (And.intro @un_not (And.intro @pick_t (And.intro @pick_f (And.intro @fa_p (And.intro @nck_p (And.intro @len_sl (And.intro @ix_sl (And.intro @ixA_p (And.intro @push_ok (And.intro @not_dec (And.intro @dregK_cons (And.intro @apartL_nil (And.intro @lateL_nil (And.intro @adopt_nil (And.intro @room0 (And.intro @room_n (And.intro @room_get (And.intro @room_lo (And.intro @lift_n (And.intro @lift_lo (And.intro @lift_get (And.intro @down_n (And.intro @down_lo (And.intro @down_get (And.intro @st_w (And.intro @stW_ok (And.intro @ld1_w (And.intro @ldN_w (And.intro @ldW_cs (And.intro @ldNW_cs (And.intro @map_ag (And.intro @cells_ag (And.intro @push_new (And.intro @push_old (And.intro @set_same (And.intro @set_ne (And.intro @set_n (And.intro @set_lo (And.intro @push_n (And.intro @push_lo (And.intro @wrap_in (And.intro @getN_setN' (And.intro @resL_1 (And.intro @res_set (And.intro @puM_eqA (And.intro @eqAg_nil (And.intro @eqAg_i (And.intro @beq_self_eq_true.{0} (And.intro @cond_true.{1} (And.intro @cond_false.{1} (And.intro @Bool.not_true (And.intro @Bool.not_false (And.intro @isU_ag (And.intro @isU_i (And.intro @isU_b (And.intro @isU_s (And.intro @isU_p (And.intro @isU_nils (And.intro @isU_sl (And.intro @Bool.false_eq_true (And.intro @pack1 (And.intro @pack2 (And.intro @pack3 (And.intro @resL_c (And.intro @consO_some (And.intro @ext_tp (And.intro @decide_true (And.intro @Ky.k1.injEq (And.intro @Ky.k2.injEq (And.intro @Ky.k3.injEq (And.intro @if_true.{1} (And.intro @if_false.{1} (And.intro @and_false (And.intro @and_true (And.intro @false_and (And.intro @true_and (And.intro @List.map_cons.{0,0} (And.intro @List.map_nil.{0,0} (And.intro @cget_setN (And.intro @cget_ofL (And.intro @List.length_cons.{0} (And.intro @List.length_nil.{0} (And.intro @Nat.lt_add_one (And.intro @Nat.le_refl (And.intro @Nat.zero_le (And.intro @List.getElem?_cons_zero.{0} (And.intro @List.getElem?_cons_succ.{0} (And.intro @Nat.add_zero (And.intro @Nat.zero_add (And.intro @Nat.sub_zero (@and_self))))))))))))))))))))))))))))))))))))))))))))))))))))))))))))))))))))))))))))))))))))))))))))))))))))))))))))))))))))))))))))))))))))))))))))))))))))))))))))) := And.intro @bindP_some (And.intro @condP_t (And.intro @condP_f (And.intro @gdP_tt (And.intro @gdP_tf (And.intro @gdP_ft (And.intro @gdP_ff (And.intro @gdP_tp (And.intro @thenQ_ret (And.intro @thenQ_exit (And.intro @blockQ_norm (And.intro @blockQ_ret (And.intro @blockQ_exit (And.intro @ev_c (And.intro @ev_set (And.intro @setD_some (And.intro @setD_none (And.intro @retQ_ret (And.intro @retQ_norm (And.intro @o1_some (And.intro @ev_mov (And.intro @ev_pick (And.intro @ev_new (And.intro @ev_box (And.intro @ev_build (And.intro @ev_bslW (And.intro @bslW_some (And.intro @zrow_one (And.intro @fill_ag (And.intro @fill_one (And.intro @ev_ld1 (And.intro @ev_ldN (And.intro @ev_st (And.intro @ev_nck (And.intro @ev_binI (And.intro @ev_binB (And.intro @ev_binN (And.intro @ev_un (And.intro @ev_cvI (And.intro @ev_fld1 (And.intro @ev_fldN (And.intro @ev_fa (And.intro @ev_ixA (And.intro @ev_ixS (And.intro @ev_ext (And.intro @ev_mkm (And.intro @ev_cut (And.intro @ev_app (And.intro @ev_len (And.intro @ev_mn (And.intro @ev_mx (And.intro @ev_call (And.intro @ev_mkf (And.intro @ev_pu2 (And.intro @ev_rdm (And.intro @bin_add (And.intro @bin_sub (And.intro @bin_mul (And.intro @bin_eql (And.intro @bin_neq (And.intro @bin_lss (And.intro @bin_leq (And.intro @bin_gtr (And.intro @bin_geq (And.intro @binB_eql (And.intro @binB_neq (And.intro @un_not (And.intro @pick_t (And.intro @pick_f (And.intro @fa_p (And.intro @nck_p (And.intro @len_sl (And.intro @ix_sl (And.intro @ixA_p (And.intro @push_ok (And.intro @not_dec (And.intro @dregK_cons (And.intro @apartL_nil (And.intro @lateL_nil (And.intro @adopt_nil (And.intro @room0 (And.intro @room_n (And.intro @room_get (And.intro @room_lo (And.intro @lift_n (And.intro @lift_lo (And.intro @lift_get (And.intro @down_n (And.intro @down_lo (And.intro @down_get (And.intro @st_w (And.intro @stW_ok (And.intro @ld1_w (And.intro @ldN_w (And.intro @ldW_cs (And.intro @ldNW_cs (And.intro @map_ag (And.intro @cells_ag (And.intro @push_new (And.intro @push_old (And.intro @set_same (And.intro @set_ne (And.intro @set_n (And.intro @set_lo (And.intro @push_n (And.intro @push_lo (And.intro @wrap_in (And.intro @getN_setN' (And.intro @resL_1 (And.intro @res_set (And.intro @puM_eqA (And.intro @eqAg_nil (And.intro @eqAg_i (And.intro @beq_self_eq_true.{0} (And.intro @cond_true.{1} (And.intro @cond_false.{1} (And.intro @Bool.not_true (And.intro @Bool.not_false (And.intro @isU_ag (And.intro @isU_i (And.intro @isU_b (And.intro @isU_s (And.intro @isU_p (And.intro @isU_nils (And.intro @isU_sl (And.intro @Bool.false_eq_true (And.intro @pack1 (And.intro @pack2 (And.intro @pack3 (And.intro @resL_c (And.intro @consO_some (And.intro @ext_tp (And.intro @decide_true (And.intro @Ky.k1.injEq (And.intro @Ky.k2.injEq (And.intro @Ky.k3.injEq (And.intro @if_true.{1} (And.intro @if_false.{1} (And.intro @and_false (And.intro @and_true (And.intro @false_and (And.intro @true_and (And.intro @List.map_cons.{0,0} (And.intro @List.map_nil.{0,0} (And.intro @cget_setN (And.intro @cget_ofL (And.intro @List.length_cons.{0} (And.intro @List.length_nil.{0} (And.intro @Nat.lt_add_one (And.intro @Nat.le_refl (And.intro @Nat.zero_le (And.intro @List.getElem?_cons_zero.{0} (And.intro @List.getElem?_cons_succ.{0} (And.intro @Nat.add_zero (And.intro @Nat.zero_add (And.intro @Nat.sub_zero (@and_self))))))))))))))))))))))))))))))))))))))))))))))))))))))))))))))))))))))))))))))))))))))))))))))))))))))))))))))))))))))))))))))))))))))))))))))))))))))))))))
theorem bxS : type_of% (And.intro @beq_self_eq_true.{0} (And.intro @Bool.not_false (And.intro @decide_true (And.intro @cells_ag (And.intro @cells_i (And.intro @cells_b (And.intro @cells_s (And.intro @cells_p (And.intro @cells_nilp (And.intro @cells_nils (And.intro @cells_m (And.intro @cells_sl (And.intro @cells_fn (And.intro @one_i (And.intro @one_b (And.intro @one_s (And.intro @one_p (And.intro @one_nilp (And.intro @one_nils (And.intro @one_m (And.intro @one_sl (And.intro @one_fn (And.intro @isU_i (And.intro @isU_b (And.intro @isU_s (And.intro @isU_p (And.intro @isU_nilp (And.intro @isU_nils (And.intro @isU_m (And.intro @isU_sl (And.intro @isU_ag (And.intro @isU_fn (And.intro @all_nil (And.intro @all_cons (And.intro @List.length_cons.{0} (And.intro @List.length_nil.{0} (And.intro @Bool.and_true (@Bool.true_and)))))))))))))))))))))))))))))))))))))) := And.intro @beq_self_eq_true.{0} (And.intro @Bool.not_false (And.intro @decide_true (And.intro @cells_ag (And.intro @cells_i (And.intro @cells_b (And.intro @cells_s (And.intro @cells_p (And.intro @cells_nilp (And.intro @cells_nils (And.intro @cells_m (And.intro @cells_sl (And.intro @cells_fn (And.intro @one_i (And.intro @one_b (And.intro @one_s (And.intro @one_p (And.intro @one_nilp (And.intro @one_nils (And.intro @one_m (And.intro @one_sl (And.intro @one_fn (And.intro @isU_i (And.intro @isU_b (And.intro @isU_s (And.intro @isU_p (And.intro @isU_nilp (And.intro @isU_nils (And.intro @isU_m (And.intro @isU_sl (And.intro @isU_ag (And.intro @isU_fn (And.intro @all_nil (And.intro @all_cons (And.intro @List.length_cons.{0} (And.intro @List.length_nil.{0} (And.intro @Bool.and_true (@Bool.true_and)))))))))))))))))))))))))))))))))))))
theorem bxU : type_of% (And.intro @push_lo (And.intro @push_n (And.intro @set_lo (@set_n)))) := And.intro @push_lo (And.intro @push_n (And.intro @set_lo (@set_n)))
theorem bxV : type_of% (And.intro @push_n (And.intro @set_n (@beq_self_eq_true.{0}))) := And.intro @push_n (And.intro @set_n (@beq_self_eq_true.{0}))
theorem bxL : type_of% (And.intro @List.length_cons.{0} (@List.length_nil.{0})) := And.intro @List.length_cons.{0} (@List.length_nil.{0})
theorem bxQ : (q0 = Ky.k1 .d0) ∧ (q1 = Ky.k1 .d1) ∧ (q2 = Ky.k1 .d2) ∧ (q3 = Ky.k1 .d3) ∧ (q4 = Ky.k1 .d4) ∧ (q5 = Ky.k1 .d5) ∧ (q6 = Ky.k1 .d6) ∧ (q7 = Ky.k1 .d7) ∧ (q8 = Ky.k1 .d8) ∧ (q9 = Ky.k1 .d9) ∧ (q10 = Ky.k1 .d10) ∧ (q11 = Ky.k1 .d11) ∧ (q12 = Ky.k1 .d12) ∧ (q13 = Ky.k1 .d13) ∧ (q14 = Ky.k1 .d14) ∧ (q15 = Ky.k1 .d15) ∧ (q16 = Ky.k2 .d1 .d0) ∧ (q17 = Ky.k2 .d1 .d1) ∧ (q18 = Ky.k2 .d1 .d2) ∧ (q19 = Ky.k2 .d1 .d3) ∧ (q20 = Ky.k2 .d1 .d4) ∧ (q21 = Ky.k2 .d1 .d5) ∧ (q22 = Ky.k2 .d1 .d6) ∧ (q23 = Ky.k2 .d1 .d7) ∧ (q24 = Ky.k2 .d1 .d8) ∧ (q25 = Ky.k2 .d1 .d9) ∧ (q26 = Ky.k2 .d1 .d10) ∧ (q27 = Ky.k2 .d1 .d11) ∧ (q28 = Ky.k2 .d1 .d12) ∧ (q29 = Ky.k2 .d1 .d13) ∧ (q30 = Ky.k2 .d1 .d14) ∧ (q31 = Ky.k2 .d1 .d15) ∧ (q32 = Ky.k2 .d2 .d0) ∧ (q33 = Ky.k2 .d2 .d1) ∧ (q34 = Ky.k2 .d2 .d2) ∧ (q35 = Ky.k2 .d2 .d3) ∧ (q36 = Ky.k2 .d2 .d4) ∧ (q37 = Ky.k2 .d2 .d5) ∧ (q38 = Ky.k2 .d2 .d6) ∧ (q39 = Ky.k2 .d2 .d7) ∧ (q40 = Ky.k2 .d2 .d8) ∧ (q41 = Ky.k2 .d2 .d9) ∧ (q42 = Ky.k2 .d2 .d10) ∧ (q43 = Ky.k2 .d2 .d11) ∧ (q44 = Ky.k2 .d2 .d12) ∧ (q45 = Ky.k2 .d2 .d13) ∧ (q46 = Ky.k2 .d2 .d14) ∧ (q47 = Ky.k2 .d2 .d15) ∧ (q48 = Ky.k2 .d3 .d0) ∧ (q49 = Ky.k2 .d3 .d1) ∧ (q50 = Ky.k2 .d3 .d2) ∧ (q51 = Ky.k2 .d3 .d3) ∧ (q52 = Ky.k2 .d3 .d4) ∧ (q53 = Ky.k2 .d3 .d5) ∧ (q54 = Ky.k2 .d3 .d6) ∧ (q55 = Ky.k2 .d3 .d7) ∧ (q56 = Ky.k2 .d3 .d8) ∧ (q57 = Ky.k2 .d3 .d9) ∧ (q58 = Ky.k2 .d3 .d10) ∧ (q59 = Ky.k2 .d3 .d11) := ⟨rfl, rfl, rfl, rfl, rfl, rfl, rfl, rfl, rfl, rfl, rfl, rfl, rfl, rfl, rfl, rfl, rfl, rfl, rfl, rfl, rfl, rfl, rfl, rfl, rfl, rfl, rfl, rfl, rfl, rfl, rfl, rfl, rfl, rfl, rfl, rfl, rfl, rfl, rfl, rfl, rfl, rfl, rfl, rfl, rfl, rfl, rfl, rfl, rfl, rfl, rfl, rfl, rfl, rfl, rfl, rfl, rfl, rfl, rfl, rfl⟩
theorem bxQ2 : (q60 = Ky.k2 .d3 .d12) ∧ (q61 = Ky.k2 .d3 .d13) ∧ (q62 = Ky.k2 .d3 .d14) ∧ (q63 = Ky.k2 .d3 .d15) ∧ (q64 = Ky.k2 .d4 .d0) ∧ (q65 = Ky.k2 .d4 .d1) ∧ (q66 = Ky.k2 .d4 .d2) ∧ (q67 = Ky.k2 .d4 .d3) ∧ (q68 = Ky.k2 .d4 .d4) ∧ (q69 = Ky.k2 .d4 .d5) ∧ (q70 = Ky.k2 .d4 .d6) ∧ (q71 = Ky.k2 .d4 .d7) ∧ (q72 = Ky.k2 .d4 .d8) ∧ (q73 = Ky.k2 .d4 .d9) ∧ (q74 = Ky.k2 .d4 .d10) ∧ (q75 = Ky.k2 .d4 .d11) ∧ (q76 = Ky.k2 .d4 .d12) ∧ (q77 = Ky.k2 .d4 .d13) ∧ (q78 = Ky.k2 .d4 .d14) ∧ (q79 = Ky.k2 .d4 .d15) ∧ (q80 = Ky.k2 .d5 .d0) ∧ (q81 = Ky.k2 .d5 .d1) ∧ (q82 = Ky.k2 .d5 .d2) ∧ (q83 = Ky.k2 .d5 .d3) ∧ (q84 = Ky.k2 .d5 .d4) ∧ (q85 = Ky.k2 .d5 .d5) ∧ (q86 = Ky.k2 .d5 .d6) ∧ (q87 = Ky.k2 .d5 .d7) ∧ (q88 = Ky.k2 .d5 .d8) ∧ (q89 = Ky.k2 .d5 .d9) ∧ (q90 = Ky.k2 .d5 .d10) ∧ (q91 = Ky.k2 .d5 .d11) ∧ (q92 = Ky.k2 .d5 .d12) ∧ (q93 = Ky.k2 .d5 .d13) ∧ (q94 = Ky.k2 .d5 .d14) ∧ (q95 = Ky.k2 .d5 .d15) ∧ (q96 = Ky.k2 .d6 .d0) ∧ (q97 = Ky.k2 .d6 .d1) ∧ (q98 = Ky.k2 .d6 .d2) ∧ (q99 = Ky.k2 .d6 .d3) ∧ (q100 = Ky.k2 .d6 .d4) ∧ (q101 = Ky.k2 .d6 .d5) ∧ (q102 = Ky.k2 .d6 .d6) ∧ (q103 = Ky.k2 .d6 .d7) ∧ (q104 = Ky.k2 .d6 .d8) ∧ (q105 = Ky.k2 .d6 .d9) ∧ (q106 = Ky.k2 .d6 .d10) ∧ (q107 = Ky.k2 .d6 .d11) ∧ (q108 = Ky.k2 .d6 .d12) ∧ (q109 = Ky.k2 .d6 .d13) ∧ (q110 = Ky.k2 .d6 .d14) ∧ (q111 = Ky.k2 .d6 .d15) ∧ (q112 = Ky.k2 .d7 .d0) ∧ (q113 = Ky.k2 .d7 .d1) ∧ (q114 = Ky.k2 .d7 .d2) ∧ (q115 = Ky.k2 .d7 .d3) ∧ (q116 = Ky.k2 .d7 .d4) ∧ (q117 = Ky.k2 .d7 .d5) ∧ (q118 = Ky.k2 .d7 .d6) ∧ (q119 = Ky.k2 .d7 .d7) ∧ (q120 = Ky.k2 .d7 .d8) ∧ (q121 = Ky.k2 .d7 .d9) ∧ (q122 = Ky.k2 .d7 .d10) ∧ (q123 = Ky.k2 .d7 .d11) ∧ (q124 = Ky.k2 .d7 .d12) ∧ (q125 = Ky.k2 .d7 .d13) ∧ (q126 = Ky.k2 .d7 .d14) ∧ (q127 = Ky.k2 .d7 .d15) ∧ (q128 = Ky.k2 .d8 .d0) ∧ (q129 = Ky.k2 .d8 .d1) ∧ (q130 = Ky.k2 .d8 .d2) ∧ (q131 = Ky.k2 .d8 .d3) ∧ (q132 = Ky.k2 .d8 .d4) ∧ (q133 = Ky.k2 .d8 .d5) ∧ (q134 = Ky.k2 .d8 .d6) ∧ (q135 = Ky.k2 .d8 .d7) ∧ (q136 = Ky.k2 .d8 .d8) ∧ (q137 = Ky.k2 .d8 .d9) ∧ (q138 = Ky.k2 .d8 .d10) ∧ (q139 = Ky.k2 .d8 .d11) ∧ (q140 = Ky.k2 .d8 .d12) ∧ (q141 = Ky.k2 .d8 .d13) ∧ (q142 = Ky.k2 .d8 .d14) ∧ (q143 = Ky.k2 .d8 .d15) ∧ (q144 = Ky.k2 .d9 .d0) ∧ (q145 = Ky.k2 .d9 .d1) ∧ (q146 = Ky.k2 .d9 .d2) ∧ (q147 = Ky.k2 .d9 .d3) ∧ (q148 = Ky.k2 .d9 .d4) ∧ (q149 = Ky.k2 .d9 .d5) ∧ (q150 = Ky.k2 .d9 .d6) ∧ (q151 = Ky.k2 .d9 .d7) ∧ (q152 = Ky.k2 .d9 .d8) ∧ (q153 = Ky.k2 .d9 .d9) ∧ (q154 = Ky.k2 .d9 .d10) ∧ (q155 = Ky.k2 .d9 .d11) ∧ (q156 = Ky.k2 .d9 .d12) ∧ (q157 = Ky.k2 .d9 .d13) ∧ (q158 = Ky.k2 .d9 .d14) ∧ (q159 = Ky.k2 .d9 .d15) ∧ (q160 = Ky.k2 .d10 .d0) ∧ (q161 = Ky.k2 .d10 .d1) ∧ (q162 = Ky.k2 .d10 .d2) ∧ (q163 = Ky.k2 .d10 .d3) ∧ (q164 = Ky.k2 .d10 .d4) ∧ (q165 = Ky.k2 .d10 .d5) ∧ (q166 = Ky.k2 .d10 .d6) ∧ (q167 = Ky.k2 .d10 .d7) ∧ (q168 = Ky.k2 .d10 .d8) ∧ (q169 = Ky.k2 .d10 .d9) ∧ (q170 = Ky.k2 .d10 .d10) ∧ (q171 = Ky.k2 .d10 .d11) ∧ (q172 = Ky.k2 .d10 .d12) ∧ (q173 = Ky.k2 .d10 .d13) ∧ (q174 = Ky.k2 .d10 .d14) ∧ (q175 = Ky.k2 .d10 .d15) ∧ (q176 = Ky.k2 .d11 .d0) ∧ (q177 = Ky.k2 .d11 .d1) ∧ (q178 = Ky.k2 .d11 .d2) ∧ (q179 = Ky.k2 .d11 .d3) ∧ (q180 = Ky.k2 .d11 .d4) ∧ (q181 = Ky.k2 .d11 .d5) ∧ (q182 = Ky.k2 .d11 .d6) ∧ (q183 = Ky.k2 .d11 .d7) ∧ (q184 = Ky.k2 .d11 .d8) ∧ (q185 = Ky.k2 .d11 .d9) ∧ (q186 = Ky.k2 .d11 .d10) ∧ (q187 = Ky.k2 .d11 .d11) ∧ (q188 = Ky.k2 .d11 .d12) ∧ (q189 = Ky.k2 .d11 .d13) ∧ (q190 = Ky.k2 .d11 .d14) ∧ (q191 = Ky.k2 .d11 .d15) ∧ (q192 = Ky.k2 .d12 .d0) ∧ (q193 = Ky.k2 .d12 .d1) ∧ (q194 = Ky.k2 .d12 .d2) ∧ (q195 = Ky.k2 .d12 .d3) ∧ (q196 = Ky.k2 .d12 .d4) ∧ (q197 = Ky.k2 .d12 .d5) ∧ (q198 = Ky.k2 .d12 .d6) ∧ (q199 = Ky.k2 .d12 .d7) ∧ (q200 = Ky.k2 .d12 .d8) ∧ (q201 = Ky.k2 .d12 .d9) ∧ (q202 = Ky.k2 .d12 .d10) ∧ (q203 = Ky.k2 .d12 .d11) ∧ (q204 = Ky.k2 .d12 .d12) ∧ (q205 = Ky.k2 .d12 .d13) ∧ (q206 = Ky.k2 .d12 .d14) ∧ (q207 = Ky.k2 .d12 .d15) ∧ (q208 = Ky.k2 .d13 .d0) ∧ (q209 = Ky.k2 .d13 .d1) ∧ (q210 = Ky.k2 .d13 .d2) ∧ (q211 = Ky.k2 .d13 .d3) ∧ (q212 = Ky.k2 .d13 .d4) ∧ (q213 = Ky.k2 .d13 .d5) ∧ (q214 = Ky.k2 .d13 .d6) ∧ (q215 = Ky.k2 .d13 .d7) ∧ (q216 = Ky.k2 .d13 .d8) ∧ (q217 = Ky.k2 .d13 .d9) ∧ (q218 = Ky.k2 .d13 .d10) ∧ (q219 = Ky.k2 .d13 .d11) ∧ (q220 = Ky.k2 .d13 .d12) ∧ (q221 = Ky.k2 .d13 .d13) ∧ (q222 = Ky.k2 .d13 .d14) ∧ (q223 = Ky.k2 .d13 .d15) ∧ (q224 = Ky.k2 .d14 .d0) ∧ (q225 = Ky.k2 .d14 .d1) ∧ (q226 = Ky.k2 .d14 .d2) ∧ (q227 = Ky.k2 .d14 .d3) ∧ (q228 = Ky.k2 .d14 .d4) ∧ (q229 = Ky.k2 .d14 .d5) := ⟨rfl, rfl, rfl, rfl, rfl, rfl, rfl, rfl, rfl, rfl, rfl, rfl, rfl, rfl, rfl, rfl, rfl, rfl, rfl, rfl, rfl, rfl, rfl, rfl, rfl, rfl, rfl, rfl, rfl, rfl, rfl, rfl, rfl, rfl, rfl, rfl, rfl, rfl, rfl, rfl, rfl, rfl, rfl, rfl, rfl, rfl, rfl, rfl, rfl, rfl, rfl, rfl, rfl, rfl, rfl, rfl, rfl, rfl, rfl, rfl, rfl, rfl, rfl, rfl, rfl, rfl, rfl, rfl, rfl, rfl, rfl, rfl, rfl, rfl, rfl, rfl, rfl, rfl, rfl, rfl, rfl, rfl, rfl, rfl, rfl, rfl, rfl, rfl, rfl, rfl, rfl, rfl, rfl, rfl, rfl, rfl, rfl, rfl, rfl, rfl, rfl, rfl, rfl, rfl, rfl, rfl, rfl, rfl, rfl, rfl, rfl, rfl, rfl, rfl, rfl, rfl, rfl, rfl, rfl, rfl, rfl, rfl, rfl, rfl, rfl, rfl, rfl, rfl, rfl, rfl, rfl, rfl, rfl, rfl, rfl, rfl, rfl, rfl, rfl, rfl, rfl, rfl, rfl, rfl, rfl, rfl, rfl, rfl, rfl, rfl, rfl, rfl, rfl, rfl, rfl, rfl, rfl, rfl, rfl, rfl, rfl, rfl, rfl, rfl, rfl, rfl, rfl, rfl, rfl, rfl⟩
end Go.Proofs.Ytcajphnjiepbaaa.Ev
set_option linter.unusedSimpArgs false
set_option linter.unusedVariables false
namespace Go.Proofs.Ytcajphnjiepbaaa.K
open Go Ev
set_option maxRecDepth 100000
set_option maxHeartbeats 4000000

def cutLo (sz l : Nat) : MV → MV
  | .sl id off n e => .sl id (off + l * sz) (n - l) (e + l)
  | v => v
def cutHi (h : Nat) : MV → MV
  | .sl id off _ e => .sl id off h e
  | v => v
theorem cutHi_sl {v : MV} {h : Nat} (hv : isSl v = true) (hl : h ≤ slen v) : isSl (cutHi h v) = true ∧ slen (cutHi h v) = h ∧ sid (cutHi h v) = sid v ∧ soff (cutHi h v) = soff v := by
  cases v <;> first | cases hv | skip
  · simp [slen] at hl; subst hl; exact ⟨rfl, rfl, rfl, rfl⟩
  · exact ⟨rfl, rfl, rfl, rfl⟩
theorem cutLo_sl {v : MV} {sz l : Nat} (hv : isSl v = true) (hl : l < slen v ∨ l = 0) : isSl (cutLo sz l v) = true ∧ slen (cutLo sz l v) = slen v - l ∧ sid (cutLo sz l v) = sid v ∧ soff (cutLo sz l v) = soff v + l * sz := by
  cases v <;> first | cases hv | skip
  · simp [slen] at hl; subst hl; simp [cutLo, slen, soff, sid, isSl]
  · exact ⟨rfl, rfl, rfl, rfl⟩
theorem cutM_hi {v : MV} {sz h : Nat} {k : IntKind} (hv : isSl v = true) (hl : h ≤ slen v) : cutM sz v none (some (.i k (h : Int))) = some (cutHi h v) := by
  cases v <;> first | cases hv | skip
  · simp [slen] at hl; subst hl; rfl
  · rename_i id off n e
    show (bif Nat.ble 0 h && Nat.ble h n then some (MV.sl id (off + 0 * sz) (h - 0) (e + 0)) else none) = _
    rw [ble_t' (Nat.zero_le _), ble_t' (show h ≤ n from hl)]
    simp [cutHi]
theorem cutM_lo {v : MV} {sz l : Nat} {k : IntKind} (hv : isSl v = true) (hl : l ≤ slen v) : cutM sz v (some (.i k (l : Int))) none = some (cutLo sz l v) := by
  cases v <;> first | cases hv | skip
  · simp [slen] at hl; subst hl; rfl
  · rename_i id off n e
    show (bif Nat.ble l n && Nat.ble n n then some (MV.sl id (off + l * sz) (n - l) (e + l)) else none) = _
    rw [ble_t' (Nat.le_refl _), ble_t' (show l ≤ n from hl)]
    rfl
theorem mn_i (k : IntKind) (a b : Int) : mnV (.i k a) (.i k b) = some (.i k (min a b)) := by
  show some (MV.i k (bif decide (b < a) then b else a)) = _
  by_cases h : b < a
  · rw [decide_eq_true h, cond_true, Int.min_def, if_neg (by omega)]
  · rw [decide_eq_false h, cond_false, Int.min_def, if_pos (by omega)]
theorem mx_i (k : IntKind) (a b : Int) : mxV (.i k a) (.i k b) = some (.i k (max a b)) := by
  show some (MV.i k (bif decide (a < b) then b else a)) = _
  by_cases h : a < b
  · rw [decide_eq_true h, cond_true, Int.max_def, if_pos (by omega)]
  · rw [decide_eq_false h, cond_false, Int.max_def]
    split
    · exact congrArg _ (congrArg _ (by omega))
    · rfl
def KidsV (M : MH) (x : Rx) (id off : Nat) (v : MV) : Prop := isSl v = true ∧ slen v = x.lk.length ∧ NodesAt M x.lk (sid v) (soff v) ∧ (x.lk ≠ [] → ∃ t kv, M.get id = some (.cs false 6 t) ∧ cget t (off + 5) = some kv ∧ sid v = sid kv ∧ soff v = soff kv)
theorem kids_in {M0 M : MH} {x : Rx} {id off : Nat} (h : NodeAt M0 x id off) (hk0 : Ext M0 M) (hlo : M.lo ≤ M.n) : Cp fns 43 [.p id off] M fun m M' => KidsV M0 x id off m ∧ M' = M := by
  obtain ⟨op, a, b, c, d, k⟩ := x
  unfold NodeAt at h
  obtain ⟨t, kv, h1, h2, h3, h4, h5, h6⟩ := h
  have h10 := h1
  replace h1 := (hk0.old id h2).trans h1
  have c0 : cget t off = some (.i .i64 op) := h3 0 _ rfl
  have c5 : cget t (off + 5) = some kv := h3 5 _ rfl
  refine Cp_call (fn := F43) (by kernel_rfl) (Nat.le_of_ble_eq_true rfl) ?_
  show Wp fns B43 (T.set q0 (some (.p id off)) T.lf) M _
  unfold B43
  unfold KidsV
  rw [lk_mk]
  by_cases e2 : op = 2
  · have d2 : decide (op = 2) = true := decide_eq_true e2
    simp (maxSteps := 4000000) (disch := first | omega | assumption | (simp only [bxS, bxV, stOk, Nat.reduceBEq, Nat.reduceEqDiff, Nat.reduceAdd]; done) | (simp only [bxU]; omega) | ((try apply has_setN); apply has_ofL; simp only [bxL]; omega)) only [↓bxD, bxP, bxQ, bxQ2, Nat.reduceBEq, reduceCtorEq, Nat.reduceAdd, Nat.reduceSub, Nat.reduceMul, Nat.reduceLeDiff, Nat.reduceLT, bxR, h1, c0, c5, nck_p, d2]
    show Wp fns K43_1 _ _ _
    unfold K43_1
    simp (maxSteps := 4000000) (disch := first | omega | assumption | (simp only [bxS, bxV, stOk, Nat.reduceBEq, Nat.reduceEqDiff, Nat.reduceAdd]; done) | (simp only [bxU]; omega) | ((try apply has_setN); apply has_ofL; simp only [bxL]; omega)) only [↓bxD, bxP, bxQ, bxQ2, Nat.reduceBEq, reduceCtorEq, Nat.reduceAdd, Nat.reduceSub, Nat.reduceMul, Nat.reduceLeDiff, Nat.reduceLT, bxR, h1, c0, c5, nck_p]
    rw [if_pos (.inl e2)]
    exact ⟨h4, h5, h6, fun _ => ⟨t, kv, h10, c5, rfl, rfl⟩⟩
  have d2 : decide (op = 2) = false := decide_eq_false e2
  by_cases e3 : op = 3
  · have d3 : decide (op = 3) = true := decide_eq_true e3
    simp (maxSteps := 4000000) (disch := first | omega | assumption | (simp only [bxS, bxV, stOk, Nat.reduceBEq, Nat.reduceEqDiff, Nat.reduceAdd]; done) | (simp only [bxU]; omega) | ((try apply has_setN); apply has_ofL; simp only [bxL]; omega)) only [↓bxD, bxP, bxQ, bxQ2, Nat.reduceBEq, reduceCtorEq, Nat.reduceAdd, Nat.reduceSub, Nat.reduceMul, Nat.reduceLeDiff, Nat.reduceLT, bxR, h1, c0, c5, nck_p, d2, d3]
    show Wp fns K43_1 _ _ _
    unfold K43_1
    simp (maxSteps := 4000000) (disch := first | omega | assumption | (simp only [bxS, bxV, stOk, Nat.reduceBEq, Nat.reduceEqDiff, Nat.reduceAdd]; done) | (simp only [bxU]; omega) | ((try apply has_setN); apply has_ofL; simp only [bxL]; omega)) only [↓bxD, bxP, bxQ, bxQ2, Nat.reduceBEq, reduceCtorEq, Nat.reduceAdd, Nat.reduceSub, Nat.reduceMul, Nat.reduceLeDiff, Nat.reduceLT, bxR, h1, c0, c5, nck_p]
    rw [if_pos (.inr e3)]
    exact ⟨h4, h5, h6, fun _ => ⟨t, kv, h10, c5, rfl, rfl⟩⟩
  have d3 : decide (op = 3) = false := decide_eq_false e3
  rw [if_neg (by omega)]
  have hrep : op = 4 ∨ op = 5 ∨ op = 6 → ∀ f', X.ev f' (.t q0) = .p id off → True := fun _ _ _ => trivial
  have hcut : cutM 6 kv none (some (.i .i64 (min 1 (slen kv : Int)))) = some (cutHi (min 1 (slen kv)) kv) := by
    rw [show min 1 (slen kv : Int) = ((min 1 (slen kv) : Nat) : Int) from by omega]
    exact cutM_hi h4 (by omega)
  have hk : isSl (cutHi (min 1 (slen kv)) kv) = true ∧ slen (cutHi (min 1 (slen kv)) kv) = (k.take 1).length ∧ NodesAt M0 (k.take 1) (sid (cutHi (min 1 (slen kv)) kv)) (soff (cutHi (min 1 (slen kv)) kv)) ∧ (k.take 1 ≠ [] → ∃ t kv', M0.get id = some (.cs false 6 t) ∧ cget t (off + 5) = some kv' ∧ sid (cutHi (min 1 (slen kv)) kv) = sid kv' ∧ soff (cutHi (min 1 (slen kv)) kv) = soff kv') := by
    obtain ⟨k1, k2, k3, k4⟩ := cutHi_sl (h := min 1 (slen kv)) h4 (by omega)
    exact ⟨k1, by rw [k2, h5, List.length_take], by rw [k3, k4]; exact h6.take 1, fun _ => ⟨t, kv, h10, c5, k3, k4⟩⟩
  by_cases e4 : op = 4 ∨ op = 5 ∨ op = 6
  · rw [if_pos e4]
    by_cases e41 : op = 4
    · have d4 : decide (op = 4) = true := decide_eq_true e41
      simp (maxSteps := 4000000) (disch := first | omega | assumption | (simp only [bxS, bxV, stOk, Nat.reduceBEq, Nat.reduceEqDiff, Nat.reduceAdd]; done) | (simp only [bxU]; omega) | ((try apply has_setN); apply has_ofL; simp only [bxL]; omega)) only [↓bxD, bxP, bxQ, bxQ2, Nat.reduceBEq, reduceCtorEq, Nat.reduceAdd, Nat.reduceSub, Nat.reduceMul, Nat.reduceLeDiff, Nat.reduceLT, bxR, h1, c0, c5, nck_p, d2, d3]
      show Wp fns K43_1 _ _ _
      unfold K43_1
      simp (maxSteps := 4000000) (disch := first | omega | assumption | (simp only [bxS, bxV, stOk, Nat.reduceBEq, Nat.reduceEqDiff, Nat.reduceAdd]; done) | (simp only [bxU]; omega) | ((try apply has_setN); apply has_ofL; simp only [bxL]; omega)) only [↓bxD, bxP, bxQ, bxQ2, Nat.reduceBEq, reduceCtorEq, Nat.reduceAdd, Nat.reduceSub, Nat.reduceMul, Nat.reduceLeDiff, Nat.reduceLT, bxR, h1, c0, c5, nck_p, d4]
      show Wp fns K43_0 _ _ _
      unfold K43_0
      simp (maxSteps := 4000000) (disch := first | omega | assumption | (simp only [bxS, bxV, stOk, Nat.reduceBEq, Nat.reduceEqDiff, Nat.reduceAdd]; done) | (simp only [bxU]; omega) | ((try apply has_setN); apply has_ofL; simp only [bxL]; omega)) only [↓bxD, bxP, bxQ, bxQ2, Nat.reduceBEq, reduceCtorEq, Nat.reduceAdd, Nat.reduceSub, Nat.reduceMul, Nat.reduceLeDiff, Nat.reduceLT, bxR, h1, c0, c5, nck_p]
      refine Wp_dreg_of (by omega) ?_
      simp (maxSteps := 4000000) (disch := first | omega | assumption | (simp only [bxS, bxV, stOk, Nat.reduceBEq, Nat.reduceEqDiff, Nat.reduceAdd]; done) | (simp only [bxU]; omega) | ((try apply has_setN); apply has_ofL; simp only [bxL]; omega)) only [↓bxD, bxP, bxQ, bxQ2, Nat.reduceBEq, reduceCtorEq, Nat.reduceAdd, Nat.reduceSub, Nat.reduceMul, Nat.reduceLeDiff, Nat.reduceLT, bxR, h1, c0, c5, nck_p, len_sl, h4, mn_i, hcut, ev_cut, Option.map_some, Option.map_none]
      show Wp fns IC.ret _ _ _
      simp (maxSteps := 4000000) (disch := first | omega | assumption | (simp only [bxS, bxV, stOk, Nat.reduceBEq, Nat.reduceEqDiff, Nat.reduceAdd]; done) | (simp only [bxU]; omega) | ((try apply has_setN); apply has_ofL; simp only [bxL]; omega)) only [↓bxD, bxP, bxQ, bxQ2, Nat.reduceBEq, reduceCtorEq, Nat.reduceAdd, Nat.reduceSub, Nat.reduceMul, Nat.reduceLeDiff, Nat.reduceLT, bxR, h1, c0, c5, nck_p]
      exact hk
    have d4 : decide (op = 4) = false := decide_eq_false e41
    by_cases e51 : op = 5
    · have d5 : decide (op = 5) = true := decide_eq_true e51
      simp (maxSteps := 4000000) (disch := first | omega | assumption | (simp only [bxS, bxV, stOk, Nat.reduceBEq, Nat.reduceEqDiff, Nat.reduceAdd]; done) | (simp only [bxU]; omega) | ((try apply has_setN); apply has_ofL; simp only [bxL]; omega)) only [↓bxD, bxP, bxQ, bxQ2, Nat.reduceBEq, reduceCtorEq, Nat.reduceAdd, Nat.reduceSub, Nat.reduceMul, Nat.reduceLeDiff, Nat.reduceLT, bxR, h1, c0, c5, nck_p, d2, d3]
      show Wp fns K43_1 _ _ _
      unfold K43_1
      simp (maxSteps := 4000000) (disch := first | omega | assumption | (simp only [bxS, bxV, stOk, Nat.reduceBEq, Nat.reduceEqDiff, Nat.reduceAdd]; done) | (simp only [bxU]; omega) | ((try apply has_setN); apply has_ofL; simp only [bxL]; omega)) only [↓bxD, bxP, bxQ, bxQ2, Nat.reduceBEq, reduceCtorEq, Nat.reduceAdd, Nat.reduceSub, Nat.reduceMul, Nat.reduceLeDiff, Nat.reduceLT, bxR, h1, c0, c5, nck_p, d4, d5]
      show Wp fns K43_0 _ _ _
      unfold K43_0
      simp (maxSteps := 4000000) (disch := first | omega | assumption | (simp only [bxS, bxV, stOk, Nat.reduceBEq, Nat.reduceEqDiff, Nat.reduceAdd]; done) | (simp only [bxU]; omega) | ((try apply has_setN); apply has_ofL; simp only [bxL]; omega)) only [↓bxD, bxP, bxQ, bxQ2, Nat.reduceBEq, reduceCtorEq, Nat.reduceAdd, Nat.reduceSub, Nat.reduceMul, Nat.reduceLeDiff, Nat.reduceLT, bxR, h1, c0, c5, nck_p]
      refine Wp_dreg_of (by omega) ?_
      simp (maxSteps := 4000000) (disch := first | omega | assumption | (simp only [bxS, bxV, stOk, Nat.reduceBEq, Nat.reduceEqDiff, Nat.reduceAdd]; done) | (simp only [bxU]; omega) | ((try apply has_setN); apply has_ofL; simp only [bxL]; omega)) only [↓bxD, bxP, bxQ, bxQ2, Nat.reduceBEq, reduceCtorEq, Nat.reduceAdd, Nat.reduceSub, Nat.reduceMul, Nat.reduceLeDiff, Nat.reduceLT, bxR, h1, c0, c5, nck_p, len_sl, h4, mn_i, hcut, ev_cut, Option.map_some, Option.map_none]
      show Wp fns IC.ret _ _ _
      simp (maxSteps := 4000000) (disch := first | omega | assumption | (simp only [bxS, bxV, stOk, Nat.reduceBEq, Nat.reduceEqDiff, Nat.reduceAdd]; done) | (simp only [bxU]; omega) | ((try apply has_setN); apply has_ofL; simp only [bxL]; omega)) only [↓bxD, bxP, bxQ, bxQ2, Nat.reduceBEq, reduceCtorEq, Nat.reduceAdd, Nat.reduceSub, Nat.reduceMul, Nat.reduceLeDiff, Nat.reduceLT, bxR, h1, c0, c5, nck_p]
      exact hk
    have d5 : decide (op = 5) = false := decide_eq_false e51
    have d6 : decide (op = 6) = true := decide_eq_true (by omega)
    simp (maxSteps := 4000000) (disch := first | omega | assumption | (simp only [bxS, bxV, stOk, Nat.reduceBEq, Nat.reduceEqDiff, Nat.reduceAdd]; done) | (simp only [bxU]; omega) | ((try apply has_setN); apply has_ofL; simp only [bxL]; omega)) only [↓bxD, bxP, bxQ, bxQ2, Nat.reduceBEq, reduceCtorEq, Nat.reduceAdd, Nat.reduceSub, Nat.reduceMul, Nat.reduceLeDiff, Nat.reduceLT, bxR, h1, c0, c5, nck_p, d2, d3]
    show Wp fns K43_1 _ _ _
    unfold K43_1
    simp (maxSteps := 4000000) (disch := first | omega | assumption | (simp only [bxS, bxV, stOk, Nat.reduceBEq, Nat.reduceEqDiff, Nat.reduceAdd]; done) | (simp only [bxU]; omega) | ((try apply has_setN); apply has_ofL; simp only [bxL]; omega)) only [↓bxD, bxP, bxQ, bxQ2, Nat.reduceBEq, reduceCtorEq, Nat.reduceAdd, Nat.reduceSub, Nat.reduceMul, Nat.reduceLeDiff, Nat.reduceLT, bxR, h1, c0, c5, nck_p, d4, d5, d6]
    show Wp fns K43_0 _ _ _
    unfold K43_0
    simp (maxSteps := 4000000) (disch := first | omega | assumption | (simp only [bxS, bxV, stOk, Nat.reduceBEq, Nat.reduceEqDiff, Nat.reduceAdd]; done) | (simp only [bxU]; omega) | ((try apply has_setN); apply has_ofL; simp only [bxL]; omega)) only [↓bxD, bxP, bxQ, bxQ2, Nat.reduceBEq, reduceCtorEq, Nat.reduceAdd, Nat.reduceSub, Nat.reduceMul, Nat.reduceLeDiff, Nat.reduceLT, bxR, h1, c0, c5, nck_p]
    refine Wp_dreg_of (by omega) ?_
    simp (maxSteps := 4000000) (disch := first | omega | assumption | (simp only [bxS, bxV, stOk, Nat.reduceBEq, Nat.reduceEqDiff, Nat.reduceAdd]; done) | (simp only [bxU]; omega) | ((try apply has_setN); apply has_ofL; simp only [bxL]; omega)) only [↓bxD, bxP, bxQ, bxQ2, Nat.reduceBEq, reduceCtorEq, Nat.reduceAdd, Nat.reduceSub, Nat.reduceMul, Nat.reduceLeDiff, Nat.reduceLT, bxR, h1, c0, c5, nck_p, len_sl, h4, mn_i, hcut, ev_cut, Option.map_some, Option.map_none]
    show Wp fns IC.ret _ _ _
    simp (maxSteps := 4000000) (disch := first | omega | assumption | (simp only [bxS, bxV, stOk, Nat.reduceBEq, Nat.reduceEqDiff, Nat.reduceAdd]; done) | (simp only [bxU]; omega) | ((try apply has_setN); apply has_ofL; simp only [bxL]; omega)) only [↓bxD, bxP, bxQ, bxQ2, Nat.reduceBEq, reduceCtorEq, Nat.reduceAdd, Nat.reduceSub, Nat.reduceMul, Nat.reduceLeDiff, Nat.reduceLT, bxR, h1, c0, c5, nck_p]
    exact hk
  · rw [if_neg e4]
    have d4 : decide (op = 4) = false := decide_eq_false (by omega)
    have d5 : decide (op = 5) = false := decide_eq_false (by omega)
    have d6 : decide (op = 6) = false := decide_eq_false (by omega)
    simp (maxSteps := 4000000) (disch := first | omega | assumption | (simp only [bxS, bxV, stOk, Nat.reduceBEq, Nat.reduceEqDiff, Nat.reduceAdd]; done) | (simp only [bxU]; omega) | ((try apply has_setN); apply has_ofL; simp only [bxL]; omega)) only [↓bxD, bxP, bxQ, bxQ2, Nat.reduceBEq, reduceCtorEq, Nat.reduceAdd, Nat.reduceSub, Nat.reduceMul, Nat.reduceLeDiff, Nat.reduceLT, bxR, h1, c0, c5, nck_p, d2, d3]
    show Wp fns K43_1 _ _ _
    unfold K43_1
    simp (maxSteps := 4000000) (disch := first | omega | assumption | (simp only [bxS, bxV, stOk, Nat.reduceBEq, Nat.reduceEqDiff, Nat.reduceAdd]; done) | (simp only [bxU]; omega) | ((try apply has_setN); apply has_ofL; simp only [bxL]; omega)) only [↓bxD, bxP, bxQ, bxQ2, Nat.reduceBEq, reduceCtorEq, Nat.reduceAdd, Nat.reduceSub, Nat.reduceMul, Nat.reduceLeDiff, Nat.reduceLT, bxR, h1, c0, c5, nck_p, d4, d5, d6]
    show Wp fns K43_0 _ _ _
    unfold K43_0
    simp (maxSteps := 4000000) (disch := first | omega | assumption | (simp only [bxS, bxV, stOk, Nat.reduceBEq, Nat.reduceEqDiff, Nat.reduceAdd]; done) | (simp only [bxU]; omega) | ((try apply has_setN); apply has_ofL; simp only [bxL]; omega)) only [↓bxD, bxP, bxQ, bxQ2, Nat.reduceBEq, reduceCtorEq, Nat.reduceAdd, Nat.reduceSub, Nat.reduceMul, Nat.reduceLeDiff, Nat.reduceLT, bxR, h1, c0, c5, nck_p]
    show Wp fns K43_2 _ _ _
    unfold K43_2
    simp (maxSteps := 4000000) (disch := first | omega | assumption | (simp only [bxS, bxV, stOk, Nat.reduceBEq, Nat.reduceEqDiff, Nat.reduceAdd]; done) | (simp only [bxU]; omega) | ((try apply has_setN); apply has_ofL; simp only [bxL]; omega)) only [↓bxD, bxP, bxQ, bxQ2, Nat.reduceBEq, reduceCtorEq, Nat.reduceAdd, Nat.reduceSub, Nat.reduceMul, Nat.reduceLeDiff, Nat.reduceLT, bxR, h1, c0, c5, nck_p]
    exact ⟨rfl, rfl, trivial, fun e => (e rfl).elim⟩
theorem kids_any {M : MH} {x : Rx} {id off : Nat} (h : NodeAt M x id off) (hlo : M.lo ≤ M.n) : Cp fns 43 [.p id off] M fun m M' => KidsV M x id off m ∧ M' = M := kids_in h (.refl M) hlo
structure Chg (S : Nat → Prop) (M M' : MH) : Prop where
  n : M.n ≤ M'.n
  lo : M'.lo = M.lo
  old : ∀ j, j < M.n → ¬ S j → M'.get j = M.get j
theorem Chg.refl (S : Nat → Prop) (M : MH) : Chg S M M := ⟨Nat.le_refl _, rfl, fun _ _ _ => rfl⟩
theorem Chg.trans {S : Nat → Prop} {a b c : MH} (h : Chg S a b) (k : Chg S b c) : Chg S a c := ⟨Nat.le_trans h.n k.n, k.lo.trans h.lo, fun j hj hs => (k.old j (Nat.lt_of_lt_of_le hj h.n) hs).trans (h.old j hj hs)⟩
theorem Chg.mono {S T : Nat → Prop} {a b : MH} (h : Chg S a b) (k : ∀ j, j < a.n → S j → T j) : Chg T a b := ⟨h.n, h.lo, fun j hj hs => h.old j hj fun hS => hs (k j hj hS)⟩
theorem Chg.ext {S : Nat → Prop} {a b : MH} (h : Chg S a b) (k : ∀ j, j < a.n → ¬ S j) : Ext a b := ⟨h.n, h.lo, fun j hj => h.old j hj (k j hj)⟩
theorem Chg.of {S : Nat → Prop} {a b : MH} (h : Ext a b) : Chg S a b := ⟨h.n, h.lo, fun j hj _ => h.old j hj⟩
theorem Chg.push {S : Nat → Prop} {a b : MH} (h : Chg S a b) (o : MO) : Chg S a (b.push o) := h.trans (.of (.push b o))
theorem Chg.set {S : Nat → Prop} {a b : MH} (h : Chg S a b) {id : Nat} (o : Option MO) (k : S id ∨ a.n ≤ id) : Chg S a (b.set id o) := ⟨h.n, h.lo, fun j hj hs => by
  rw [set_ne (by rcases k with k | k; exact fun e => hs (e ▸ k); omega)]; exact h.old j hj hs⟩
theorem size_add {M : MH} {id off sz : Nat} {c : T MV} {p q a b : Int} (hlo : M.lo ≤ M.n) (hid : M.lo ≤ id) (hn : id < M.n) (hg : M.get id = some (.cs false sz c)) (hc : At c off [.i .i64 p, .i .i64 q]) (hp : 0 ≤ p ∧ p ≤ 1000) (hq : 0 ≤ q ∧ q ≤ 1000) (ha : 0 ≤ a ∧ a ≤ 1000) (hb : 0 ≤ b ∧ b ≤ 1000) :
    Cp fns 61 [.p id off, .ag [.i .i64 a, .i .i64 b]] M fun _ M' => Chg (fun j => j = id) M M' ∧ M'.get id = some (.cs false sz (setN [.i .i64 (min (max q (b + 1)) 201)] (off + 1) (setN [.i .i64 (min (p + a) 151)] off c))) := by
  have c0 : cget c off = some (.i .i64 p) := hc 0 _ rfl
  have c1 : cget c (off + 1) = some (.i .i64 q) := hc 1 _ rfl
  refine Cp_call (fn := F61) (by kernel_rfl) (Nat.le_of_ble_eq_true rfl) ?_
  show Wp fns B61 (T.set q1 (some (.ag [.i .i64 a, .i .i64 b])) (T.set q0 (some (.p id off)) T.lf)) M _
  unfold B61
  have hb0 : hasB c 1 off = true := (At.left (b := [.i .i64 q]) (a := [.i .i64 p]) hc).has
  have hb1 : hasB c 1 (off + 1) = true := (At.right (a := [.i .i64 p]) (b := [.i .i64 q]) hc).has
  have hb2 : ∀ l o, hasB (setN l o c) 1 (off + 1) = true := fun l o => has_setN l o 1 _ hb1
  have hc2 : ∀ x, cget (setN [x] off c) (off + 1) = some (.i .i64 q) := fun x => by rw [cget_setN, if_neg (by simp), c1]
  simp (maxSteps := 4000000) (disch := first | omega | assumption | (simp only [bxS, bxV, stOk, Nat.reduceBEq, Nat.reduceEqDiff, Nat.reduceAdd]; done) | (simp only [bxU]; omega) | ((try apply has_setN); apply has_ofL; simp only [bxL]; omega)) only [↓bxD, bxP, bxQ, bxQ2, Nat.reduceBEq, reduceCtorEq, Nat.reduceAdd, Nat.reduceSub, Nat.reduceMul, Nat.reduceLeDiff, Nat.reduceLT, bxR, hg, c0, hb0, hb1, hb2, nck_p, mn_i, mx_i]
  refine Wp_dreg_of (by show M.lo ≤ M.n + 1; omega) ?_
  simp (maxSteps := 4000000) (disch := first | omega | assumption | (simp only [bxS, bxV, stOk, Nat.reduceBEq, Nat.reduceEqDiff, Nat.reduceAdd]; done) | (simp only [bxU]; omega) | ((try apply has_setN); apply has_ofL; simp only [bxL]; omega)) only [↓bxD, bxP, bxQ, bxQ2, Nat.reduceBEq, reduceCtorEq, Nat.reduceAdd, Nat.reduceSub, Nat.reduceMul, Nat.reduceLeDiff, Nat.reduceLT, bxR, hg, c0, hb0, hb1, hb2, nck_p, mn_i, mx_i]
  have g1 : ∀ x y, ((M.push x).set id y).get id = y := fun x y => set_same id y
  show Wp fns K61_0 _ _ _
  generalize hM1 : MH.set _ _ _ = M1
  have hg1 : M1.get id = some (.cs false sz (setN [.i .i64 (min (p + a) 151)] off c)) := by rw [← hM1]; exact set_same _ _
  have hgb : M1.get M.n = some (.cs false 2 (ofL [MV.i IntKind.i64 a, MV.i IntKind.i64 b] 0)) := by rw [← hM1, set_ne (by omega)]; exact push_new _
  have hx1 : Chg (fun j => j = id) M M1 := by rw [← hM1]; exact ((Chg.refl _ M).push _).set _ (.inl rfl)
  have hn1 : M1.n = M.n + 1 := by rw [← hM1]; rfl
  have hl1 := hx1.lo
  clear hM1
  have hb3 := hb2 [.i .i64 (min (p + a) 151)] off
  unfold K61_0
  refine Wp_dreg_of (by omega) ?_
  simp (maxSteps := 4000000) (disch := first | omega | assumption | (simp only [bxS, bxV, stOk, Nat.reduceBEq, Nat.reduceEqDiff, Nat.reduceAdd]; done) | (simp only [bxU]; omega) | ((try apply has_setN); apply has_ofL; simp only [bxL]; omega)) only [↓bxD, bxP, bxQ, bxQ2, Nat.reduceBEq, reduceCtorEq, Nat.reduceAdd, Nat.reduceSub, Nat.reduceMul, Nat.reduceLeDiff, Nat.reduceLT, bxR, hg1, hgb, hc2, hb2, nck_p, mn_i, mx_i, cells_i]
  simp (maxSteps := 4000000) (disch := first | omega | assumption | (simp only [bxS, bxV, stOk, Nat.reduceBEq, Nat.reduceEqDiff, Nat.reduceAdd]; done) | (simp only [bxU]; omega) | ((try apply has_setN); apply has_ofL; simp only [bxL]; omega)) only [↓bxD, bxP, bxQ, bxQ2, Nat.reduceBEq, reduceCtorEq, Nat.reduceAdd, Nat.reduceSub, Nat.reduceMul, Nat.reduceLeDiff, Nat.reduceLT, bxR, hg1, hgb, hc2, hb2, nck_p, mn_i, mx_i, cells_i, resL_nil]
  exact hx1.set _ (.inl rfl)
noncomputable def cNo (n off : Nat) : Option MO → Option MV
  | some (.cs _ _ c) => (getN c n off).map MV.ag
  | _ => none
noncomputable def cNV (M : MH) (n : Nat) : Option MV → Option MV
  | some (.p id off) => cNo n off (M.get id)
  | _ => none
theorem res_cN (f : Fr) (M : MH) (p : Ky) (n : Nat) : IRes.ev f M (.cN p n) = cNV M n (f.get p) := by
  unfold IRes.ev cNV
  simp only
  cases f.get p with
  | none => rfl
  | some v =>
    cases v <;> try rfl
    rename_i id off
    simp only
    unfold cNo
    cases M.get id with
    | none => rfl
    | some o =>
      cases o <;> try rfl
      simp only
      cases getN _ n off <;> rfl
theorem cNV_p (M : MH) (n id off : Nat) : cNV M n (some (.p id off)) = cNo n off (M.get id) := rfl
theorem cNo_cs (n off : Nat) (r : Bool) (s : Nat) (c : T MV) : cNo n off (some (.cs r s c)) = (getN c n off).map MV.ag := rfl
theorem get_set (p q : Ky) (m : MV) (f : Fr) : (T.set p (some m) f : Fr).get q = if p = q then some m else f.get q := T.get_set p (some m) f q
structure Mk where
  id : Nat
  off : Nat
  x : Rx
  kv : MV
  k : Nat
  done : Bool
  pl : Int
  dp : Int
def Mk.cells (m : Mk) : List MV := [.i .i64 m.pl, .i .i64 m.dp, cutLo 6 m.k m.kv, .b m.done, .b false]
def ents : List Mk → Nat → List (MV × MV × Nat)
  | [], _ => []
  | m :: r, n => (.p m.id m.off, .i .i64 (n : Int), n) :: ents r (n + 1)
theorem ents_app : ∀ (l : List Mk) (m : Mk) (n : Nat), ents (l ++ [m]) n = ents l n ++ [(.p m.id m.off, .i .i64 ((n + l.length : Nat) : Int), n + l.length)]
  | [], m, n => rfl
  | a :: l, m, n => by
    rw [List.cons_append, ents, ents, ents_app l m (n + 1), List.cons_append]
    simp only [List.length_cons]
    rw [show n + 1 + l.length = n + (l.length + 1) from by omega]
theorem ents_same : ∀ {l r : List Mk} {n : Nat}, l.map (fun m => (m.id, m.off)) = r.map (fun m => (m.id, m.off)) → ents l n = ents r n
  | [], [], _, _ => rfl
  | [], _ :: _, _, h => by simp at h
  | _ :: _, [], _, h => by simp at h
  | a :: l, b :: r, n, h => by
    simp only [List.map_cons, List.cons.injEq, Prod.mk.injEq] at h
    rw [ents, ents, h.1.1, h.1.2, ents_same h.2]
def findK (id off : Nat) : List Mk → Option Nat
  | [] => none
  | m :: r => if m.id = id ∧ m.off = off then some 0 else (findK id off r).map (· + 1)
theorem findK_some {id off : Nat} : ∀ {l : List Mk} {n : Nat}, findK id off l = some n → ∃ m, l[n]? = some m ∧ m.id = id ∧ m.off = off
  | [], n, h => by cases h
  | a :: l, n, h => by
    unfold findK at h
    split at h
    · rename_i e
      cases h
      exact ⟨a, rfl, e⟩
    · cases hf : findK id off l with
      | none => rw [hf] at h; cases h
      | some j =>
        rw [hf] at h
        cases h
        obtain ⟨m, h1, h2⟩ := findK_some hf
        exact ⟨m, by simpa using h1, h2⟩
theorem find_ents {M : MH} {id off : Nat} (h0 : rwcs M id = true) : ∀ {l : List Mk} (n i : Nat), (∀ m ∈ l, rwcs M m.id = true) → findP M id off (ents l n) i = some ((findK id off l).map fun j => (i + j, .i .i64 ((n + j : Nat) : Int)))
  | [], n, i, _ => rfl
  | a :: l, n, i, h => by
    rw [ents, findP_cons]
    simp only
    unfold findK
    by_cases e : id = a.id
    · rw [show Nat.beq id a.id = true from by rw [e]; exact Nat.beq_refl _, cond_true]
      by_cases e2 : off = a.off
      · rw [show Nat.beq off a.off = true from by rw [e2]; exact Nat.beq_refl _, cond_true, if_pos ⟨e.symm, e2.symm⟩]
        rfl
      · rw [show Nat.beq off a.off = false from by cases hb : Nat.beq off a.off with | false => rfl | true => exact (e2 (Nat.eq_of_beq_eq_true hb)).elim, cond_false, if_neg (fun x => e2 x.2.symm), find_ents h0 (n + 1) (i + 1) fun m hm => h m (List.mem_cons_of_mem _ hm)]
        cases findK id off l with
        | none => rfl
        | some j => simp only [Option.map_some]; rw [show i + 1 + j = i + (j + 1) from by omega, show n + 1 + j = n + (j + 1) from by omega]
    · rw [show Nat.beq id a.id = false from by cases hb : Nat.beq id a.id with | false => rfl | true => exact (e (Nat.eq_of_beq_eq_true hb)).elim, cond_false, h0, h a List.mem_cons_self, Bool.true_and, cond_true, if_neg (fun x => e x.1.symm), find_ents h0 (n + 1) (i + 1) fun m hm => h m (List.mem_cons_of_mem _ hm)]
      cases findK id off l with
      | none => rfl
      | some j => simp only [Option.map_some]; rw [show i + 1 + j = i + (j + 1) from by omega, show n + 1 + j = n + (j + 1) from by omega]
theorem NodeAt.rw {M : MH} {x : Rx} {id off : Nat} (h : NodeAt M x id off) : rwcs M id = true ∧ id < M.n := by
  obtain ⟨op, a, b, c, d, k⟩ := x
  unfold NodeAt at h
  obtain ⟨t, kv, h1, h2, _⟩ := h
  refine ⟨?_, h2⟩
  unfold rwcs
  rw [h1]; rfl
def szP (x : Rx) : Int := ((min 151 (cnt x) : Nat) : Int)
def szD (x : Rx) : Int := ((min 201 (deep x) : Nat) : Int)
def Known (ms : List Mk) (x : Rx) (id off : Nat) : Prop := x.lk = [] ∨ ∃ n m, findK id off ms = some n ∧ ms[n]? = some m ∧ m.pl = szP x ∧ m.dp = szD x
structure SvRd (M : MH) (sv : Nat) (ms : List Mk) : Prop where
  rd : ∃ ro sz c mid mv, M.get sv = some (.cs ro sz c) ∧ sv < M.n ∧ cget c 0 = some (.m mid) ∧ cget c 1 = some mv ∧ M.get mid = some (.mp (ents ms 0) ms.length) ∧ mid < M.n ∧ RowAt M 5 mv (ms.map Mk.cells)
  nodes : ∀ m ∈ ms, NodeAt M m.x m.id m.off
theorem SvRd.sub {M M' : MH} {sv : Nat} {ms : List Mk} (h : SvRd M sv ms) (k : Sub M M') : SvRd M' sv ms := by
  obtain ⟨ro, sz, c, mid, mv, h1, h2, h3, h4, h5, h6, h7⟩ := h.rd
  exact ⟨⟨ro, sz, c, mid, mv, (k.old _ h2).trans h1, Nat.lt_of_lt_of_le h2 k.n, h3, h4, (k.old _ h6).trans h5, Nat.lt_of_lt_of_le h6 k.n, h7.sub k⟩, fun m hm => NodeAt.sub k (h.nodes m hm)⟩
theorem SvRd.ext {M M' : MH} {sv : Nat} {ms : List Mk} (h : SvRd M sv ms) (k : Ext M M') : SvRd M' sv ms := h.sub k.sub
theorem sizeOf_any {M : MH} {sv : Nat} {ms : List Mk} {x : Rx} {id off : Nat} (h : SvRd M sv ms) (hx : NodeAt M x id off) (hk : Known ms x id off) (hlo : M.lo ≤ M.n) :
    Cp fns 23 [.p sv 0, .p id off] M fun m M' => m = .ag [.i .i64 (szP x), .i .i64 (szD x)] ∧ Ext M M' := by
  refine Cp_call (fn := F23) (by kernel_rfl) (Nat.le_of_ble_eq_true rfl) ?_
  show Wp fns B23 (T.set q1 (some (.p id off)) (T.set q0 (some (.p sv 0)) T.lf)) M _
  unfold B23
  simp (maxSteps := 4000000) (disch := first | omega | assumption | (simp only [bxS, bxV, stOk, Nat.reduceBEq, Nat.reduceEqDiff, Nat.reduceAdd]; done) | (simp only [bxU]; omega) | ((try apply has_setN); apply has_ofL; simp only [bxL]; omega)) only [↓bxD, bxP, bxQ, bxQ2, Nat.reduceBEq, reduceCtorEq, Nat.reduceAdd, Nat.reduceSub, Nat.reduceMul, Nat.reduceLeDiff, Nat.reduceLT, bxR]
  generalize hM1 : M.push _ = M1
  have hb : M1.get M.n = some (.cs false 2 (ofL [MV.i IntKind.i64 0, MV.i IntKind.i64 0] 0)) := by rw [← hM1]; exact push_new _
  have hx1 : Ext M M1 := by rw [← hM1]; exact .push M _
  have hn1 : M1.n = M.n + 1 := by rw [← hM1]; rfl
  have hl1 := hx1.lo
  clear hM1
  refine bindP_call (kids_any (hx.ext hx1) (by omega)) ?_
  rintro kv M2 ⟨⟨k1, k2, k3⟩, rfl⟩
  obtain ⟨op, a, b, c, d, kk⟩ := x
  have hx' : NodeAt M2 (Rx.mk op a b c d kk) id off := NodeAt.ext hx1 hx
  have hrw := NodeAt.rw hx'
  unfold NodeAt at hx'
  obtain ⟨t, kv', h1, h2, h3, h4, h5, h6⟩ := hx'
  have c0 : cget t off = some (.i .i64 op) := h3 0 _ rfl
  have hone : ∀ x y : Int, MV.cells (.ag [.i .i64 x, .i .i64 y]) = [.i .i64 x, .i .i64 y] := fun _ _ => rfl
  have hfin : ∀ x y : Int, Ext M (M2.set M.n (some (.cs false 2 (setN [.i .i64 x, .i .i64 y] 0 (ofL [MV.i IntKind.i64 0, MV.i IntKind.i64 0] 0))))) := fun x y => hx1.set _ (Nat.le_refl _)
  have hgN : ∀ x y : Int, Ev.getN (setN [.i .i64 x, .i .i64 y] 0 (ofL [MV.i IntKind.i64 0, MV.i IntKind.i64 0] 0)) 2 0 = some [.i .i64 x, .i .i64 y] := fun x y => getN_setN' rfl
  have f1 : fillM [(0, 1, MV.i .i64 1), (1, 1, MV.i .i64 1)] [.i .i64 0, .i .i64 0] = some [.i .i64 1, .i .i64 1] := rfl
  have f2 : fillM [(1, 1, MV.i .i64 1)] [.i .i64 0, .i .i64 0] = some [.i .i64 0, .i .i64 1] := rfl
  by_cases hl : (Rx.mk op a b c d kk).lk = []
  · have d0 : decide ((0 : Int) < ((Rx.mk op a b c d kk).lk.length : Int)) = false := decide_eq_false (by rw [hl]; simp)
    have e1 : szD (Rx.mk op a b c d kk) = 1 := by unfold szD; rw [deep_lk, hl]; rfl
    by_cases ho : op = 1
    · have d1 : decide (op = 1) = true := decide_eq_true ho
      have e2 : szP (Rx.mk op a b c d kk) = 1 := by unfold szP; rw [cnt_leaf hl, op_mk, if_pos ho]; rfl
      simp (maxSteps := 4000000) (disch := first | omega | assumption | (simp only [bxS, bxV, stOk, Nat.reduceBEq, Nat.reduceEqDiff, Nat.reduceAdd]; done) | (simp only [bxU]; omega) | ((try apply has_setN); apply has_ofL; simp only [bxL]; omega)) only [↓bxD, bxP, bxQ, bxQ2, Nat.reduceBEq, reduceCtorEq, Nat.reduceAdd, Nat.reduceSub, Nat.reduceMul, Nat.reduceLeDiff, Nat.reduceLT, bxR, k1, k2, len_sl, hb, h1, c0, nck_p, res_cN, cNV_p, cNo_cs, get_set, hgN, hone, map_ag, f1, f2, d0, d1]
      rw [e1, e2]
      exact ⟨rfl, hfin _ _⟩
    · have d1 : decide (op = 1) = false := decide_eq_false ho
      have e2 : szP (Rx.mk op a b c d kk) = 0 := by unfold szP; rw [cnt_leaf hl, op_mk, if_neg ho]; rfl
      simp (maxSteps := 4000000) (disch := first | omega | assumption | (simp only [bxS, bxV, stOk, Nat.reduceBEq, Nat.reduceEqDiff, Nat.reduceAdd]; done) | (simp only [bxU]; omega) | ((try apply has_setN); apply has_ofL; simp only [bxL]; omega)) only [↓bxD, bxP, bxQ, bxQ2, Nat.reduceBEq, reduceCtorEq, Nat.reduceAdd, Nat.reduceSub, Nat.reduceMul, Nat.reduceLeDiff, Nat.reduceLT, bxR, k1, k2, len_sl, hb, h1, c0, nck_p, res_cN, cNV_p, cNo_cs, get_set, hgN, hone, map_ag, f1, f2, d0, d1]
      show Wp fns K23_0 _ _ _
      unfold K23_0
      simp (maxSteps := 4000000) (disch := first | omega | assumption | (simp only [bxS, bxV, stOk, Nat.reduceBEq, Nat.reduceEqDiff, Nat.reduceAdd]; done) | (simp only [bxU]; omega) | ((try apply has_setN); apply has_ofL; simp only [bxL]; omega)) only [↓bxD, bxP, bxQ, bxQ2, Nat.reduceBEq, reduceCtorEq, Nat.reduceAdd, Nat.reduceSub, Nat.reduceMul, Nat.reduceLeDiff, Nat.reduceLT, bxR, k1, k2, len_sl, hb, h1, c0, nck_p, res_cN, cNV_p, cNo_cs, get_set, hgN, hone, map_ag, f1, f2]
      rw [e1, e2]
      exact ⟨rfl, hfin _ _⟩
  · have d0 : decide ((0 : Int) < ((Rx.mk op a b c d kk).lk.length : Int)) = true := decide_eq_true (by have := List.length_pos_iff.2 hl; omega)
    obtain ⟨n, m, hf, hm, hp, hd⟩ := hk.resolve_left hl
    obtain ⟨ro, sz, cs, mid, mv, g1, g2, g3, g4, g5, g6, g7⟩ := (h.ext hx1).rd
    obtain ⟨r1, r2⟩ := g7.sl
    rw [List.length_map] at r2
    have hlen : n < ms.length := (List.getElem?_eq_some_iff.1 hm).1
    obtain ⟨ro2, s2, t2, q1', q2', q3'⟩ := g7.read (i := n) (e := m.cells) (by rw [List.getElem?_map, hm]; rfl)
    have hrd : rdF (.lkpP false (.i .i64 0)) M2 (.m mid) (.p id off) = some (.i .i64 (n : Int)) := by
      show (match M2.get mid with
        | some (.mp es _) => match findP M2 id off es 0 with
          | some (some (_, v)) => some (bif false then MV.tp [v, .b true] else v)
          | some none => some (bif false then MV.tp [.i .i64 0, .b false] else .i .i64 0)
          | none => none
        | _ => none) = _
      rw [g5]
      simp only
      rw [find_ents hrw.1 0 0 (fun m hm => (NodeAt.rw ((h.ext hx1).nodes m hm)).1), hf]
      simp
    have hg2 : Ev.getN t2 2 (soff mv + n * 5) = some [.i .i64 m.pl, .i .i64 m.dp] := (At.left (a := [.i .i64 m.pl, .i .i64 m.dp]) (b := [cutLo 6 m.k m.kv, .b m.done, .b false]) q3').getN
    simp (maxSteps := 4000000) (disch := first | omega | assumption | (simp only [bxS, bxV, stOk, Nat.reduceBEq, Nat.reduceEqDiff, Nat.reduceAdd]; done) | (simp only [bxU]; omega) | ((try apply has_setN); apply has_ofL; simp only [bxL]; omega)) only [↓bxD, bxP, bxQ, bxQ2, Nat.reduceBEq, reduceCtorEq, Nat.reduceAdd, Nat.reduceSub, Nat.reduceMul, Nat.reduceLeDiff, Nat.reduceLT, bxR, k1, k2, len_sl, hb, h1, c0, nck_p, res_cN, cNV_p, cNo_cs, get_set, hgN, hone, map_ag, f1, f2, d0]
    refine Wp_dreg_of (by omega) ?_
    simp (maxSteps := 4000000) (disch := first | omega | assumption | (simp only [bxS, bxV, stOk, Nat.reduceBEq, Nat.reduceEqDiff, Nat.reduceAdd]; done) | (simp only [bxU]; omega) | ((try apply has_setN); apply has_ofL; simp only [bxL]; omega)) only [↓bxD, bxP, bxQ, bxQ2, Nat.reduceBEq, reduceCtorEq, Nat.reduceAdd, Nat.reduceSub, Nat.reduceMul, Nat.reduceLeDiff, Nat.reduceLT, bxR, k1, k2, len_sl, hb, h1, c0, nck_p, res_cN, cNV_p, cNo_cs, get_set, hgN, hone, map_ag, f1, f2, g1, g3, g4, ev_rdm, hrd, r1, r2, q1', hg2]
    show Wp fns IC.ret _ _ _
    simp (maxSteps := 4000000) (disch := first | omega | assumption | (simp only [bxS, bxV, stOk, Nat.reduceBEq, Nat.reduceEqDiff, Nat.reduceAdd]; done) | (simp only [bxU]; omega) | ((try apply has_setN); apply has_ofL; simp only [bxL]; omega)) only [↓bxD, bxP, bxQ, bxQ2, Nat.reduceBEq, reduceCtorEq, Nat.reduceAdd, Nat.reduceSub, Nat.reduceMul, Nat.reduceLeDiff, Nat.reduceLT, bxR, k1, k2, len_sl, hb, h1, c0, nck_p, res_cN, cNV_p, cNo_cs, get_set, hgN, hone, map_ag, f1, f2]
    rw [hp, hd]
    exact ⟨rfl, hfin _ _⟩
theorem ev_wrm (c : CallM) (f : Fr) (M : MH) (g : WG) (x y z : X) : Iop.ev c f M (.wrm g x y z) = wrF g M (x.ev f) (y.ev f) (z.ev f) := rfl
def nv (l : List Nat) : List (List MV) := l.map fun (n : Nat) => [.i .i64 (n : Int)]
theorem nv_len (l : List Nat) : (nv l).length = l.length := by unfold nv; rw [List.length_map]
theorem nv_app (l : List Nat) (n : Nat) : nv (l ++ [n]) = nv l ++ [[.i .i64 (n : Int)]] := by unfold nv; simp
theorem nv_at {l : List Nat} {i n : Nat} (h : l[i]? = some n) : (nv l)[i]? = some [.i .i64 (n : Int)] := by unfold nv; rw [List.getElem?_map, h]; rfl
structure SvO (Mb M : MH) (sv : Nat) (c : T MV) (mid : Nat) (mv pv : MV) (ms : List Mk) (path : List Nat) : Prop where
  ext : Ext Mb M
  g : M.get sv = some (.cs false 3 c)
  svl : Mb.n ≤ sv ∧ sv < M.n
  at_ : At c 0 [.m mid, mv, pv]
  gm : M.get mid = some (.mp (ents ms 0) ms.length)
  ml : Mb.n ≤ mid ∧ mid < M.n
  rm : OwnRow Mb.n M 5 mv (ms.map Mk.cells)
  rp : OwnRow Mb.n M 1 pv (nv path)
  nodes : ∀ m ∈ ms, NodeAt Mb m.x m.id m.off ∧ KidsV Mb m.x m.id m.off m.kv
def Sv (Mb M : MH) (sv : Nat) (ms : List Mk) (path : List Nat) : Prop := ∃ c mid mv pv, SvO Mb M sv c mid mv pv ms path
theorem SvO.rd {Mb M : MH} {sv : Nat} {c : T MV} {mid : Nat} {mv pv : MV} {ms : List Mk} {path : List Nat} (h : SvO Mb M sv c mid mv pv ms path) : SvRd M sv ms :=
  ⟨⟨false, 3, c, mid, mv, h.g, h.svl.2, h.at_ 0 _ rfl, h.at_ 1 _ rfl, h.gm, h.ml.2, h.rm.row⟩, fun m hm => (h.nodes m hm).1.ext h.ext⟩
theorem own_id {lo : Nat} {M : MH} {sz : Nat} {v : MV} {es : List (List MV)} (h : OwnRow lo M sz v es) {a b n d : Nat} (e : v = .sl a b n d) : ∃ c, M.get a = some (.cs false sz c) ∧ lo ≤ a ∧ a < M.n := by
  obtain ⟨hs, ⟨h1, _⟩ | ⟨id, c, h1, h2, h3, h4, h5⟩⟩ := h
  · rw [h1] at e; cases e
  · rw [h1] at e; cases e; exact ⟨c, h2, h3, h4⟩
theorem open_leaf {M : MH} {sv : Nat} {x : Rx} {id off : Nat} (hx : NodeAt M x id off) (hl : x.lk = []) (hlo : M.lo ≤ M.n) : Cp fns 40 [.p sv 0, .p id off] M fun _ M' => M' = M := by
  refine Cp_call (fn := F40) (by kernel_rfl) (Nat.le_of_ble_eq_true rfl) ?_
  show Wp fns B40 (T.set q1 (some (.p id off)) (T.set q0 (some (.p sv 0)) T.lf)) M _
  unfold B40
  simp (maxSteps := 4000000) (disch := first | omega | assumption | (simp only [bxS, bxV, stOk, Nat.reduceBEq, Nat.reduceEqDiff, Nat.reduceAdd]; done) | (simp only [bxU]; omega) | ((try apply has_setN); apply has_ofL; simp only [bxL]; omega)) only [↓bxD, bxP, bxQ, bxQ2, Nat.reduceBEq, reduceCtorEq, Nat.reduceAdd, Nat.reduceSub, Nat.reduceMul, Nat.reduceLeDiff, Nat.reduceLT, bxR]
  refine bindP_call (kids_any hx hlo) ?_
  rintro kv M2 ⟨⟨k1, k2, k3⟩, rfl⟩
  have d0 : decide ((x.lk.length : Int) = 0) = true := decide_eq_true (by rw [hl]; rfl)
  simp (maxSteps := 4000000) (disch := first | omega | assumption | (simp only [bxS, bxV, stOk, Nat.reduceBEq, Nat.reduceEqDiff, Nat.reduceAdd]; done) | (simp only [bxU]; omega) | ((try apply has_setN); apply has_ofL; simp only [bxL]; omega)) only [↓bxD, bxP, bxQ, bxQ2, Nat.reduceBEq, reduceCtorEq, Nat.reduceAdd, Nat.reduceSub, Nat.reduceMul, Nat.reduceLeDiff, Nat.reduceLT, bxR, k1, k2, len_sl, d0, resL_nil]
theorem open_any {Mb M : MH} {sv : Nat} {ms : List Mk} {path : List Nat} {x : Rx} {id off : Nat} (h : Sv Mb M sv ms path) (hlo : Mb.lo ≤ Mb.n) (hx : NodeAt Mb x id off) (hl : x.lk ≠ []) (hf : findK id off ms = none) (hb : ms.length ≤ 1000000000) (hbp : path.length ≤ 1000000000) :
    Cp fns 40 [.p sv 0, .p id off] M fun _ M' => ∃ kv, KidsV Mb x id off kv ∧ Sv Mb M' sv (ms ++ [⟨id, off, x, kv, 0, false, 0, 0⟩]) (path ++ [ms.length]) := by
  obtain ⟨c, mid, mv, pv, h⟩ := h
  have hn := h.ext.n
  have hl2 := h.ext.lo
  refine Cp_call (fn := F40) (by kernel_rfl) (Nat.le_of_ble_eq_true rfl) ?_
  show Wp fns B40 (T.set q1 (some (.p id off)) (T.set q0 (some (.p sv 0)) T.lf)) M _
  unfold B40
  simp (maxSteps := 4000000) (disch := first | omega | assumption | (simp only [bxS, bxV, stOk, Nat.reduceBEq, Nat.reduceEqDiff, Nat.reduceAdd]; done) | (simp only [bxU]; omega) | ((try apply has_setN); apply has_ofL; simp only [bxL]; omega)) only [↓bxD, bxP, bxQ, bxQ2, Nat.reduceBEq, reduceCtorEq, Nat.reduceAdd, Nat.reduceSub, Nat.reduceMul, Nat.reduceLeDiff, Nat.reduceLT, bxR]
  refine bindP_call (kids_in hx h.ext (by omega)) ?_
  rintro kv M2 ⟨⟨k1, k2, k3⟩, rfl⟩
  have d0 : decide ((x.lk.length : Int) = 0) = false := decide_eq_false (by have := List.length_pos_iff.2 hl; omega)
  have g1 := h.g
  have c0 : cget c 0 = some (.m mid) := h.at_ 0 _ rfl
  have c1 : cget c 1 = some mv := h.at_ 1 _ rfl
  have c2 : cget c 2 = some pv := h.at_ 2 _ rfl
  obtain ⟨r1, r2⟩ := h.rm.row.sl
  rw [List.length_map] at r2
  simp (maxSteps := 4000000) (disch := first | omega | assumption | (simp only [bxS, bxV, stOk, Nat.reduceBEq, Nat.reduceEqDiff, Nat.reduceAdd]; done) | (simp only [bxU]; omega) | ((try apply has_setN); apply has_ofL; simp only [bxL]; omega)) only [↓bxD, bxP, bxQ, bxQ2, Nat.reduceBEq, reduceCtorEq, Nat.reduceAdd, Nat.reduceSub, Nat.reduceMul, Nat.reduceLeDiff, Nat.reduceLT, bxR, k1, k2, len_sl, d0, g1, c0, c1, c2, nck_p, r1, r2]
  show Wp fns K40_0 _ _ _
  unfold K40_0
  simp (maxSteps := 4000000) (disch := first | omega | assumption | (simp only [bxS, bxV, stOk, Nat.reduceBEq, Nat.reduceEqDiff, Nat.reduceAdd]; done) | (simp only [bxU]; omega) | ((try apply has_setN); apply has_ofL; simp only [bxL]; omega)) only [↓bxD, bxP, bxQ, bxQ2, Nat.reduceBEq, reduceCtorEq, Nat.reduceAdd, Nat.reduceSub, Nat.reduceMul, Nat.reduceLeDiff, Nat.reduceLT, bxR, k1, k2, len_sl, d0, g1, c0, c1, c2, nck_p, r1, r2]
  have hw : wrF .mupP M2 (.m mid) (.p id off) (.i .i64 (ms.length : Int)) = some (.u, M2.set mid (some (.mp (ents ms 0 ++ [(.p id off, .i .i64 (ms.length : Int), ms.length)]) (ms.length + 1)))) := by
    show (bif Nat.ble M2.lo mid then match M2.get mid with
      | some (.mp es ck) => match findP M2 id off es 0 with
        | some none => some (MV.u, M2.set mid (some (.mp (es ++ [(.p id off, .i .i64 (ms.length : Int), ck)]) (ck + 1))))
        | _ => none
      | _ => none
      else none) = _
    have hl3 := h.ml
    rw [ble_t' (show M2.lo ≤ mid by omega), cond_true, h.gm]
    simp only
    rw [find_ents (NodeAt.rw (hx.ext h.ext)).1 0 0 (fun m hm => (NodeAt.rw ((h.nodes m hm).1.ext h.ext)).1), hf]
    rfl
  rw [← show ents (ms ++ [⟨id, off, x, kv, 0, false, 0, 0⟩]) 0 = ents ms 0 ++ [(.p id off, .i .i64 (ms.length : Int), ms.length)] from by rw [ents_app]; simp] at hw
  have e1 : fillM [(2, 1, kv)] [.i .i64 0, .i .i64 0, .nils, .b false, .b false] = some [.i .i64 0, .i .i64 0, kv, .b false, .b false] := by cases kv <;> first | rfl | cases k1
  have e2 : fillM [(0, 5, .ag [.i .i64 0, .i .i64 0, kv, .b false, .b false])] (zrow [.i .i64 0, .i .i64 0, .nils, .b false, .b false] 1) = some [.i .i64 0, .i .i64 0, kv, .b false, .b false] := by cases kv <;> first | rfl | cases k1
  have hsm : sv ≠ mid := fun e => by have := h.gm; rw [← e, h.g] at this; cases this
  simp (maxSteps := 4000000) (disch := first | omega | assumption | (simp only [bxS, bxV, stOk, Nat.reduceBEq, Nat.reduceEqDiff, Nat.reduceAdd]; done) | (simp only [bxU]; omega) | ((try apply has_setN); apply has_ofL; simp only [bxL]; omega)) only [↓bxD, bxP, bxQ, bxQ2, Nat.reduceBEq, reduceCtorEq, Nat.reduceAdd, Nat.reduceSub, Nat.reduceMul, Nat.reduceLeDiff, Nat.reduceLT, bxR, k1, k2, len_sl, d0, g1, c0, c1, c2, nck_p, r1, r2, ev_wrm, hw, e1, e2, bslW_some]
  generalize hMs : ents (ms ++ [⟨id, off, x, kv, 0, false, 0, 0⟩]) 0 = es'
  have hmc : (⟨id, off, x, kv, 0, false, 0, 0⟩ : Mk).cells = [.i .i64 0, .i .i64 0, kv, .b false, .b false] := by unfold Mk.cells; cases kv <;> first | rfl | cases k1
  generalize hM3 : MH.push _ _ = M3
  have x3 : Chg (fun j => j = mid) M2 M3 := by rw [← hM3]; exact ((Chg.refl (fun j => j = mid) M2).set _ (.inl rfl)).push _
  have n3 : M3.n = M2.n + 1 := by rw [← hM3]; rfl
  have g3 : M3.get sv = some (.cs false 3 c) := by rw [x3.old sv h.svl.2 hsm]; exact h.g
  have m3 : M3.get mid = some (.mp es' (ms.length + 1)) := by rw [← hM3, push_old (by show mid < M2.n; exact h.ml.2)]; exact set_same _ _
  have t3 : RowAt M3 5 (.sl M2.n 0 1 0) [[.i .i64 0, .i .i64 0, kv, .b false, .b false]] := by rw [← hM3]; exact row_one (M := M2.set mid _) rfl
  have rm3 : OwnRow Mb.n M3 5 mv (ms.map Mk.cells) := h.rm.keep (by omega) fun a b n d e => by
    obtain ⟨cc, q1, q2, q3⟩ := own_id h.rm e
    exact x3.old a q3 fun e => by rw [e, h.gm] at q1; cases q1
  have rp3 : OwnRow Mb.n M3 1 pv (nv path) := h.rp.keep (by omega) fun a b n d e => by
    obtain ⟨cc, q1, q2, q3⟩ := own_id h.rp e
    exact x3.old a q3 fun e => by rw [e, h.gm] at q1; cases q1
  have l3 := x3.lo
  clear hM3
  have hone : ∀ e ∈ [[MV.i .i64 0, .i .i64 0, kv, .b false, .b false]], allOne e = true := fun e he => by
    simp only [List.mem_cons, List.not_mem_nil, or_false] at he
    subst he
    cases kv <;> first | rfl | cases k1
  obtain ⟨mv', M4, a1, a2, a3, a4, a5, a6, a7⟩ := app_rowX (bytes := 48) rm3 t3 (by omega) (by omega) hone (by rw [List.length_map]; simp only [List.length_cons, List.length_nil]; omega) (by rw [List.length_map]; simp only [List.length_cons, List.length_nil]; omega)
  obtain ⟨nn, rfl⟩ := a7 (by simp)
  have hsv := h.svl
  have hml := h.ml
  have g4 : M4.get sv = some (.cs false 3 c) := by
    rw [a5 sv (by omega) fun a b n d e e2 => by
      obtain ⟨cc, q1, q2, q3⟩ := own_id rm3 e
      rw [e2, g3] at q1; cases q1]
    exact g3
  have m4 : M4.get mid = some (.mp es' (ms.length + 1)) := by
    rw [a5 mid (by omega) fun a b n d e e2 => by
      obtain ⟨cc, q1, q2, q3⟩ := own_id rm3 e
      rw [e2, m3] at q1; cases q1]
    exact m3
  have rp4 : OwnRow Mb.n M4 1 pv (nv path) := rp3.keep a3 fun a b n d e => by
    obtain ⟨cc, q1, q2, q3⟩ := own_id rp3 e
    exact a5 a q3 fun a' b' n' d' e' e2 => by
      obtain ⟨cc', q1', _⟩ := own_id rm3 e'
      rw [e2, q1] at q1'; cases q1'
  have hb1 : hasB c 1 1 = true := has_at h.at_ (by omega) (by simp)
  have hb2 : hasB c 1 2 = true := has_at h.at_ (by omega) (by simp)
  have ex4 : Ext Mb M4 := ⟨by omega, by omega, fun j hj => by
    rw [a6 j hj (by omega), x3.old j (by omega) (by omega)]; exact h.ext.old j hj⟩
  refine bindP_of a1 ?_
  simp (maxSteps := 4000000) (disch := first | omega | assumption | (simp only [bxS, bxV, stOk, Nat.reduceBEq, Nat.reduceEqDiff, Nat.reduceAdd]; done) | (simp only [bxU]; omega) | ((try apply has_setN); apply has_ofL; simp only [bxL]; omega)) only [↓bxD, bxP, bxQ, bxQ2, Nat.reduceBEq, reduceCtorEq, Nat.reduceAdd, Nat.reduceSub, Nat.reduceMul, Nat.reduceLeDiff, Nat.reduceLT, bxR, g4, c0, c1, c2, nck_p, ev_wrm, bslW_some, cells_sl]
  generalize hM5 : MH.push _ _ = M5
  have n5 : M5.n = M4.n + 1 := by rw [← hM5]; rfl
  have l5 : M5.lo = M4.lo := by rw [← hM5]; rfl
  have x5 : Chg (fun j => j = sv) M4 M5 := by rw [← hM5]; exact ((Chg.refl (fun j => j = sv) M4).set _ (.inl rfl)).push _
  have g5 : M5.get sv = some (.cs false 3 (setN [MV.sl M3.n 0 nn 0] 1 c)) := by rw [← hM5, push_old (by show sv < M4.n; omega)]; exact set_same _ _
  have t5 : RowAt M5 1 (.sl M4.n 0 1 0) [[.i .i64 (ms.length : Int)]] := by rw [← hM5]; exact row_one (M := M4.set sv _) rfl
  clear hM5
  have m5 : M5.get mid = some (.mp es' (ms.length + 1)) := by rw [x5.old mid (by omega) (fun e => hsm e.symm)]; exact m4
  have rm5 : OwnRow Mb.n M5 5 (.sl M3.n 0 nn 0) (ms.map Mk.cells ++ [[.i .i64 0, .i .i64 0, kv, .b false, .b false]]) := a2.keep (by omega) fun a b n d e => by
    obtain ⟨cc, q1, q2, q3⟩ := own_id a2 e
    exact x5.old a q3 fun e => by rw [e, g4] at q1; cases q1
  have rp5 : OwnRow Mb.n M5 1 pv (nv path) := rp4.keep (by omega) fun a b n d e => by
    obtain ⟨cc, q1, q2, q3⟩ := own_id rp4 e
    exact x5.old a q3 fun e => by rw [e, g4] at q1; cases q1
  have at5 : At (setN [MV.sl M3.n 0 nn 0] 1 c) 0 [.m mid, .sl M3.n 0 nn 0, pv] := h.at_.set' 1 _ (by simp) rfl
  have ex5 : Ext Mb M5 := ⟨by omega, by omega, fun j hj => by rw [x5.old j (by omega) (by omega)]; exact ex4.old j hj⟩
  obtain ⟨pv', M6, b1, b2, b3, b4, b5, b6, b7⟩ := app_rowX (bytes := 8) rp5 t5 (by omega) (by omega) (fun e he => by
    simp only [List.mem_cons, List.not_mem_nil, or_false] at he
    subst he; rfl) (by rw [nv_len]; simp only [List.length_cons, List.length_nil]; omega) (by rw [nv_len]; simp only [List.length_cons, List.length_nil]; omega)
  obtain ⟨np, rfl⟩ := b7 (by simp)
  have g6 : M6.get sv = some (.cs false 3 (setN [MV.sl M3.n 0 nn 0] 1 c)) := by
    rw [b5 sv (by omega) fun a b n d e e2 => by
      obtain ⟨cc, q1, q2, q3⟩ := own_id rp5 e
      rw [e2, g5] at q1; cases q1]
    exact g5
  have m6 : M6.get mid = some (.mp es' (ms.length + 1)) := by
    rw [b5 mid (by omega) fun a b n d e e2 => by
      obtain ⟨cc, q1, q2, q3⟩ := own_id rp5 e
      rw [e2, m5] at q1; cases q1]
    exact m5
  have rm6 : OwnRow Mb.n M6 5 (.sl M3.n 0 nn 0) (ms.map Mk.cells ++ [[.i .i64 0, .i .i64 0, kv, .b false, .b false]]) := rm5.keep b3 fun a b n d e => by
    obtain ⟨cc, q1, q2, q3⟩ := own_id rm5 e
    exact b5 a q3 fun a' b' n' d' e' e2 => by
      obtain ⟨cc', q1', _⟩ := own_id rp5 e'
      rw [e2, q1] at q1'; cases q1'
  have ex6 : Ext Mb M6 := ⟨by omega, by omega, fun j hj => by rw [b6 j hj (by omega)]; exact ex5.old j hj⟩
  have hb3 : hasB (setN [MV.sl M3.n 0 nn 0] 1 c) 1 2 = true := has_setN _ _ _ _ hb2
  refine bindP_of b1 ?_
  simp (maxSteps := 4000000) (disch := first | omega | assumption | (simp only [bxS, bxV, stOk, Nat.reduceBEq, Nat.reduceEqDiff, Nat.reduceAdd]; done) | (simp only [bxU]; omega) | ((try apply has_setN); apply has_ofL; simp only [bxL]; omega)) only [↓bxD, bxP, bxQ, bxQ2, Nat.reduceBEq, reduceCtorEq, Nat.reduceAdd, Nat.reduceSub, Nat.reduceMul, Nat.reduceLeDiff, Nat.reduceLT, bxR, g6, nck_p, cells_sl, resL_nil]
  generalize hM7 : MH.set _ _ _ = M7
  have x7 : Chg (fun j => j = sv) M6 M7 := by rw [← hM7]; exact (Chg.refl (fun j => j = sv) M6).set _ (.inl rfl)
  have g7 : M7.get sv = some (.cs false 3 (setN [MV.sl M5.n 0 np 0] 2 (setN [MV.sl M3.n 0 nn 0] 1 c))) := by rw [← hM7]; exact set_same _ _
  have n7 : M7.n = M6.n := by rw [← hM7]; rfl
  have l7 := x7.lo
  clear hM7
  refine ⟨kv, ⟨k1, k2, k3⟩, setN [MV.sl M5.n 0 np 0] 2 (setN [MV.sl M3.n 0 nn 0] 1 c), mid, .sl M3.n 0 nn 0, .sl M5.n 0 np 0, ?_⟩
  · refine ⟨⟨by omega, by omega, fun j hj => by rw [x7.old j (by omega) (by omega)]; exact ex6.old j hj⟩, g7, ⟨hsv.1, by omega⟩, at5.set' 2 _ (by simp) rfl, ?_, ⟨hml.1, by omega⟩, ?_, ?_, ?_⟩
    · rw [x7.old mid (by omega) (fun e => hsm e.symm), m6, hMs, List.length_append]; rfl
    · rw [List.map_append, List.map_cons, List.map_nil, hmc]
      exact rm6.keep (by omega) fun a b n d e => by
        obtain ⟨cc, q1, q2, q3⟩ := own_id rm6 e
        exact x7.old a q3 fun e => by rw [e, g6] at q1; cases q1
    · rw [nv_app]
      exact b2.keep (by omega) fun a b n d e => by
        obtain ⟨cc, q1, q2, q3⟩ := own_id b2 e
        exact x7.old a q3 fun e => by rw [e, g6] at q1; cases q1
    · intro m hm
      rcases List.mem_append.1 hm with hm | hm
      · exact h.nodes m hm
      · simp only [List.mem_cons, List.not_mem_nil, or_false] at hm
        subst hm
        exact ⟨hx, k1, k2, k3⟩
end Go.Proofs.Ytcajphnjiepbaaa.K
