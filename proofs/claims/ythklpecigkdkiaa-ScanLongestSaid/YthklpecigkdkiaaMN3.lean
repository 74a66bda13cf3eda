/-
 What the claim leans on, part 3: What single operations do, told for simp. Conditions: none. What comes in, read into the model's memory as it lies: numbers, bools, strings, slices, structs and arrays of these, of whatever depth. Conditions: none. Arguments of whatever types, read into the model; functions that are known by a contract that hangs on nothing. Conditions: none. Stores into rows, and what stays. Conditions: none. Patterns in memory, their sizes, and what a survey of them knows. Conditions: none. Texts of functions, laid in a tree; names of slots. Conditions: none. The functions that a run comes to, as the model r
-/
import Derived.Test.YthklpecigkdkiaaMN2
import Derived.Deep.Slices
import Derived.Deep.Strs
import Derived.OpenShut
import Derived.DataReads
import Derived.ChangeArms
import Derived.WideShapes
import Derived.KernelRfl
import Derived.Test.YthklpecigkdkiaaProg
set_option linter.unusedSimpArgs false
set_option linter.unusedVariables false
namespace Go.Proofs.Ythklpecigkdkiaa.Ev
open Go
variable {c : CallM} {f : Fr} {M : MH}
def o1 (r : Option MV) (M : MH) : Option (MV × MH) := match r with
 | some m => some (m, M)
 | none => none
theorem o1_some (m : MV) (M : MH) : o1 (some m) M = some (m, M) := rfl
def binV (op : BinOp) (x y : MV) : Option MV := match x, y with
 | .i k a, .i k' b => Ev.binI op k a k' b
 | _, _ => none
def lenV (x : MV) : Option MV := match x with
 | .nils => some (.i .i64 0)
 | .sl _ _ n _ => some (.i .i64 n)
 | _ => none
def ixV (s : Nat) (x i : MV) : Option MV := match x, i with
 | .sl id off ln _, .i _ (.ofNat j) => bif Nat.blt j ln then some (.p id (off + j * s)) else none
 | _, _ => none
def ixAV (n s : Nat) (x i : MV) : Option MV := match x, i with
 | .p id off, .i _ (.ofNat j) => bif Nat.blt j n then some (.p id (off + j * s)) else none
 | _, _ => none
noncomputable def ld1V (M : MH) (x : MV) : Option MV := match x with
 | .p id off => match M.get id with
  | some (.cs _ _ c) => cget c off
  | _ => none
 | _ => none
noncomputable def ldNV (M : MH) (n : Nat) (x : MV) : Option MV := match x with
 | .p id off => match M.get id with
  | some (.cs _ _ c) => match getN c n off with
   | some l => some (.ag l)
   | none => none
  | _ => none
 | _ => none
def faV (o : Nat) (x : MV) : Option MV := match x with
 | .p id off => some (.p id (off + o))
 | _ => none
def nckV (x : MV) : Option MV := match x with
 | .p id off => some (.p id off)
 | _ => none
def fld1V (o : Nat) (x : MV) : Option MV := match x with
 | .ag l => l[o]?
 | _ => none
def fldNV (o n : Nat) (x : MV) : Option MV := match x with
 | .ag l => some (.ag ((l.drop o).take n))
 | _ => none
def extV (i : Nat) (x : MV) : Option MV := match x with
 | .tp l => l[i]?
 | _ => none
def binBV (op : BinOp) (x y : MV) : Option MV := match x, y with
 | .b a, .b b => eqM op (a == b)
 | _, _ => none
def binNV (n : NilKind) (op : BinOp) (x y : MV) : Option MV := match nilR n x y with
 | some r => eqM op r
 | none => none
def pickV (c a b : MV) : Option MV := match c with
 | .b true => some a
 | .b false => some b
 | _ => none
def mnV (x y : MV) : Option MV := match x, y with
 | .i k a, .i _ b => some (.i k (bif decide (b < a) then b else a))
 | _, _ => none
def mxV (x y : MV) : Option MV := match x, y with
 | .i k a, .i _ b => some (.i k (bif decide (a < b) then b else a))
 | _, _ => none
def cvIV (k : IntKind) (x : MV) : Option MV := match x with
 | .i _ n => some (.i k (wrapF k n))
 | _ => none
noncomputable def stV (M : MH) (n : Nat) (x y : MV) : Option (MV × MH) := match x with
 | .p id off => match M.get id with
  | some (.cs false sz c) => bif y.cells.length == n && !isU y && allOne y.cells && Nat.ble M.lo id && hasB c n off then some (.u, M.set id (some (.cs false sz (setN y.cells off c)))) else none
  | _ => none
 | _ => none
noncomputable def pushV (M : MH) (m : MV) (o : MO) : Option (MV × MH) := bif Nat.ble M.lo M.n then some (m, M.push o) else none
theorem ev_mov (x : X) : Iop.ev c f M (.mov x) = some (x.ev f, M) := rfl
theorem ev_pick (a b d : X) : Iop.ev c f M (.pick a b d) = o1 (pickV (a.ev f) (b.ev f) (d.ev f)) M := by
 simp only [Iop.ev, pickV]
 cases a.ev f <;> try rfl
 rename_i t; cases t <;> rfl
theorem ev_new (l : List MV) : Iop.ev c f M (.new l) = pushV M (.p M.n 0) (.cs false l.length (ofL l 0)) := rfl
theorem ev_box (x : X) : Iop.ev c f M (.box x) = if isU (x.ev f) = true then none else pushV M (.p M.n 0) (.cs false (x.ev f).cells.length (ofL (x.ev f).cells 0)) := by
 simp only [Iop.ev, pushV]
 cases isU (x.ev f) <;> simp
theorem ev_build (zs : List MV) (ps : List (Nat × Nat × X)) : Iop.ev c f M (.build zs ps) = o1 ((fillM (ps.map fun x => (x.1, x.2.1, x.2.2.ev f)) zs).map .ag) M := by
 simp only [Iop.ev]
 cases fillM (ps.map fun x => (x.1, x.2.1, x.2.2.ev f)) zs <;> rfl
theorem ev_bsl (sz n : Nat) (zs : List MV) (ps : List (Nat × Nat × X)) : Iop.ev c f M (.bsl sz n zs ps) = bif Nat.ble M.lo M.n then (match fillM (ps.map fun x => (x.1, x.2.1, x.2.2.ev f)) (zrow zs n) with
  | some l => some (.sl M.n 0 n 0, M.push (.cs false sz (ofL l 0)))
  | none => none) else none := rfl
theorem ev_ld1 (x : X) : Iop.ev c f M (.ld1 x) = o1 (ld1V M (x.ev f)) M := by
 simp only [Iop.ev, ld1V]
 cases x.ev f <;> try rfl
 rename_i id off
 simp only
 cases M.get id with
 | none => rfl
 | some o =>
  cases o with
  | mp _ _ => rfl
  | cs r s c => simp only; cases cget c off <;> rfl
theorem ev_ldN (n : Nat) (x : X) : Iop.ev c f M (.ldN n x) = o1 (ldNV M n (x.ev f)) M := by
 simp only [Iop.ev, ldNV]
 cases x.ev f <;> try rfl
 rename_i id off
 simp only
 cases M.get id with
 | none => rfl
 | some o =>
  cases o with
  | mp _ _ => rfl
  | cs r s c => simp only; cases getN c n off <;> rfl
theorem ev_st (n : Nat) (x y : X) : Iop.ev c f M (.st n x y) = stV M n (x.ev f) (y.ev f) := rfl
theorem ev_nck (x : X) : Iop.ev c f M (.nck x) = o1 (nckV (x.ev f)) M := by
 simp only [Iop.ev, nckV]; cases x.ev f <;> rfl
theorem ev_binI (op : BinOp) (x y : X) : Iop.ev c f M (.binI op x y) = o1 (binV op (x.ev f) (y.ev f)) M := by
 simp only [Iop.ev, binV]
 cases x.ev f <;> try rfl
 cases y.ev f <;> try rfl
theorem ev_binB (op : BinOp) (x y : X) : Iop.ev c f M (.binB op x y) = o1 (binBV op (x.ev f) (y.ev f)) M := by
 simp only [Iop.ev, binBV]
 cases x.ev f <;> try rfl
 cases y.ev f <;> try rfl
theorem ev_binN (n : NilKind) (op : BinOp) (x y : X) : Iop.ev c f M (.binN n op x y) = o1 (binNV n op (x.ev f) (y.ev f)) M := by
 simp only [Iop.ev, binNV]
 cases nilR n (x.ev f) (y.ev f) with
 | none => rfl
 | some r => simp only; cases eqM op r <;> rfl
theorem ev_un (op : UnOp) (x : X) : Iop.ev c f M (.un op x) = o1 (unM op (x.ev f)) M := by
 simp only [Iop.ev]; cases unM op (x.ev f) <;> rfl
theorem ev_cvI (k : IntKind) (x : X) : Iop.ev c f M (.cvI k x) = o1 (cvIV k (x.ev f)) M := by
 simp only [Iop.ev, cvIV]; cases x.ev f <;> rfl
theorem ev_fld1 (o : Nat) (x : X) : Iop.ev c f M (.fld1 o x) = o1 (fld1V o (x.ev f)) M := by
 simp only [Iop.ev, fld1V]
 cases x.ev f <;> try rfl
theorem ev_fldN (o n : Nat) (x : X) : Iop.ev c f M (.fldN o n x) = o1 (fldNV o n (x.ev f)) M := by
 simp only [Iop.ev, fldNV]; cases x.ev f <;> rfl
theorem ev_fa (o : Nat) (x : X) : Iop.ev c f M (.fa o x) = o1 (faV o (x.ev f)) M := by
 simp only [Iop.ev, faV]; cases x.ev f <;> rfl
theorem ev_ixA (n s : Nat) (x i : X) : Iop.ev c f M (.ixA n s x i) = o1 (ixAV n s (x.ev f) (i.ev f)) M := by
 simp only [Iop.ev, ixAV]
 cases x.ev f <;> try rfl
 cases i.ev f <;> try rfl
 rename_i id off k z
 cases z with
 | negSucc j => rfl
 | ofNat j => simp only; cases Nat.blt j n <;> rfl
theorem ev_ixS (s : Nat) (x i : X) : Iop.ev c f M (.ixS s x i) = o1 (ixV s (x.ev f) (i.ev f)) M := by
 simp only [Iop.ev, ixV]
 cases x.ev f <;> try rfl
 cases i.ev f <;> try rfl
 rename_i id off ln e k z
 cases z with
 | negSucc j => rfl
 | ofNat j => simp only; cases Nat.blt j ln <;> rfl
theorem ev_ext (x : X) (i : Nat) : Iop.ev c f M (.ext x i) = o1 (extV i (x.ev f)) M := by
 simp only [Iop.ev, extV]
 cases x.ev f <;> try rfl
theorem ev_mkm : Iop.ev c f M .mkm = pushV M (.m M.n) (.mp [] 0) := rfl
theorem ev_cut (sz : Nat) (x : X) (lo hi : Option X) : Iop.ev c f M (.cut sz x lo hi) = o1 (cutM sz (x.ev f) (lo.map (X.ev f)) (hi.map (X.ev f))) M := by
 simp only [Iop.ev]; cases cutM sz (x.ev f) (lo.map (X.ev f)) (hi.map (X.ev f)) <;> rfl
theorem ev_app (sz bytes : Nat) (x y : X) : Iop.ev c f M (.app sz bytes x y) = appM M sz bytes (x.ev f) (y.ev f) := rfl
theorem ev_len (x : X) : Iop.ev c f M (.len x) = o1 (lenV (x.ev f)) M := by
 simp only [Iop.ev, lenV]; cases x.ev f <;> rfl
theorem ev_mn (x y : X) : Iop.ev c f M (.mn x y) = o1 (mnV (x.ev f) (y.ev f)) M := by
 simp only [Iop.ev, mnV]
 cases x.ev f <;> try rfl
 cases y.ev f <;> rfl
theorem ev_mx (x y : X) : Iop.ev c f M (.mx x y) = o1 (mxV (x.ev f) (y.ev f)) M := by
 simp only [Iop.ev, mxV]
 cases x.ev f <;> try rfl
 cases y.ev f <;> rfl
theorem ev_call (g : Nat) (l : List X) : Iop.ev c f M (.call g l) = c g (l.map (X.ev f)) M := rfl
theorem ev_mkf (g : Fn) (a d : List X) : Iop.ev c f M (.mkf g a d) = some (.fn g (a.map (X.ev f)) (d.map (X.ev f)), M) := rfl
theorem ev_pu2 (g : PG) (x y : X) : Iop.ev c f M (.pu2 g x y) = o1 (puM g (x.ev f) (y.ev f)) M := by
 simp only [Iop.ev]; cases puM g (x.ev f) (y.ev f) <;> rfl
theorem ev_rdm (g : RG) (x y : X) : Iop.ev c f M (.rdm g x y) = o1 (rdF g M (x.ev f) (y.ev f)) M := by
 simp only [Iop.ev]; cases rdF g M (x.ev f) (y.ev f) <;> rfl
theorem bin_add (k : IntKind) (a b : Int) : binV .add (.i k a) (.i k b) = some (.i k (wrapF k (a + b))) := by cases k <;> rfl
theorem bin_sub (k : IntKind) (a b : Int) : binV .sub (.i k a) (.i k b) = some (.i k (wrapF k (a - b))) := by cases k <;> rfl
theorem bin_mul (k : IntKind) (a b : Int) : binV .mul (.i k a) (.i k b) = some (.i k (wrapF k (a * b))) := by cases k <;> rfl
theorem bin_eql (k : IntKind) (a b : Int) : binV .eql (.i k a) (.i k b) = some (.b (decide (a = b))) := by cases k <;> rfl
theorem bin_neq (k : IntKind) (a b : Int) : binV .neq (.i k a) (.i k b) = some (.b (decide (a ≠ b))) := by
 have : (a != b) = decide (a ≠ b) := by rw [Bool.eq_iff_iff]; simp
 cases k <;> exact congrArg (fun t => some (MV.b t)) this
theorem bin_lss (k : IntKind) (a b : Int) : binV .lss (.i k a) (.i k b) = some (.b (decide (a < b))) := by cases k <;> rfl
theorem bin_leq (k : IntKind) (a b : Int) : binV .leq (.i k a) (.i k b) = some (.b (decide (a ≤ b))) := by cases k <;> rfl
theorem bin_gtr (k : IntKind) (a b : Int) : binV .gtr (.i k a) (.i k b) = some (.b (decide (b < a))) := by cases k <;> rfl
theorem bin_geq (k : IntKind) (a b : Int) : binV .geq (.i k a) (.i k b) = some (.b (decide (b ≤ a))) := by cases k <;> rfl
theorem binB_eql (a b : Bool) : binBV .eql (.b a) (.b b) = some (.b (a == b)) := rfl
theorem binB_neq (a b : Bool) : binBV .neq (.b a) (.b b) = some (.b (!(a == b))) := rfl
theorem un_not (a : Bool) : unM .not (.b a) = some (.b (!a)) := rfl
theorem not_dec (p : Prop) [Decidable p] : (!decide p) = decide (¬ p) := by
 rw [Bool.eq_iff_iff]; simp
theorem pick_t (a b : MV) : pickV (.b true) a b = some a := rfl
theorem pick_f (a b : MV) : pickV (.b false) a b = some b := rfl
def isSl : MV → Bool
 | .nils => true
 | .sl _ _ _ _ => true
 | _ => false
def sid : MV → Nat
 | .sl id _ _ _ => id
 | _ => 0
def soff : MV → Nat
 | .sl _ o _ _ => o
 | _ => 0
def slen : MV → Nat
 | .sl _ _ n _ => n
 | _ => 0
theorem len_sl {v : MV} (h : isSl v = true) : lenV v = some (.i .i64 (slen v : Int)) := by cases v <;> first | rfl | cases h
theorem ix_sl {s : Nat} {v : MV} {k : IntKind} {i : Nat} (h : isSl v = true) (hi : i < slen v) : ixV s v (.i k (i : Int)) = some (.p (sid v) (soff v + i * s)) := by
 cases v <;> first | (simp [slen] at hi; done) | skip
 rename_i id off n e
 show (bif Nat.blt i n then some (MV.p id (off + i * s)) else none) = _
 rw [blt_t (show i < n from hi)]; rfl
theorem ixA_p {n s id off : Nat} {k : IntKind} {i : Nat} (hi : i < n) : ixAV n s (.p id off) (.i k (i : Int)) = some (.p id (off + i * s)) := by
 show (bif Nat.blt i n then some (MV.p id (off + i * s)) else none) = _
 rw [blt_t hi]; rfl
theorem fa_p (o id off : Nat) : faV o (.p id off) = some (.p id (off + o)) := rfl
theorem nck_p (id off : Nat) : nckV (.p id off) = some (.p id off) := rfl
theorem push_ok {m : MV} {o : MO} (h : M.lo ≤ M.n) : pushV M m o = some (m, M.push o) := by unfold pushV; rw [ble_t' h]; rfl
theorem hasB_of : ∀ {t : T MV} {n off : Nat}, (∀ j, j < n → (cget t (off + j)).isSome = true) → hasB t n off = true
 | t, 0, off, h => rfl
 | t, n + 1, off, h => by
  show (match cget t off with
   | some _ => hasB t n (off + 1)
   | none => false) = true
  have h0 := h 0 (by omega)
  rw [Nat.add_zero] at h0
  cases hc : cget t off with
  | none => rw [hc] at h0; cases h0
  | some v => exact hasB_of fun j hj => by rw [show off + 1 + j = off + (j + 1) from by omega]; exact h (j + 1) (by omega)
theorem At.has {t : T MV} {off : Nat} {l : List MV} (h : At t off l) : hasB t l.length off = true := hasB_of fun j hj => by rw [h j l[j] (List.getElem?_eq_getElem hj)]; rfl
noncomputable def stW (M : MH) (n id off : Nat) (y : MV) (o : Option MO) : Option (MV × MH) := match o with
 | some (.cs false sz c) => bif y.cells.length == n && !isU y && allOne y.cells && Nat.ble M.lo id && hasB c n off then some (.u, M.set id (some (.cs false sz (setN y.cells off c)))) else none
 | _ => none
theorem st_w (n id off : Nat) (y : MV) : stV M n (.p id off) y = stW M n id off y (M.get id) := rfl
theorem stW_cs {n id off sz : Nat} {t : T MV} {y : MV} (hlo : M.lo ≤ id) (hn : y.cells.length = n) (hu : isU y = false) (ho : allOne y.cells = true) (hb : hasB t n off = true) : stW M n id off y (some (.cs false sz t)) = some (.u, M.set id (some (.cs false sz (setN y.cells off t)))) := by
 simp only [stW, hn, beq_self_eq_true, hu, ho, ble_t' hlo, hb, Bool.not_false, Bool.and_true, cond_true]
noncomputable def ldW (off : Nat) (o : Option MO) : Option MV := match o with
 | some (.cs _ _ c) => cget c off
 | _ => none
noncomputable def ldNW (n off : Nat) (o : Option MO) : Option MV := match o with
 | some (.cs _ _ c) => (getN c n off).map .ag
 | _ => none
theorem ld1_w (id off : Nat) : ld1V M (.p id off) = ldW off (M.get id) := by
 simp only [ld1V, ldW]
theorem ldN_w (n id off : Nat) : ldNV M n (.p id off) = ldNW n off (M.get id) := by
 simp only [ldNV, ldNW]
 cases M.get id with
 | none => rfl
 | some o =>
  cases o with
  | mp _ _ => rfl
  | cs r s c => simp only; cases getN c n off <;> rfl
theorem ldW_cs (off : Nat) (r : Bool) (s : Nat) (t : T MV) : ldW off (some (.cs r s t)) = cget t off := rfl
theorem ldNW_cs (n off : Nat) (r : Bool) (s : Nat) (t : T MV) : ldNW n off (some (.cs r s t)) = (getN t n off).map .ag := rfl
theorem map_ag (l : List MV) : (some l).map MV.ag = some (.ag l) := rfl
theorem cells_ag (l : List MV) : (MV.ag l).cells = l := rfl
theorem at_setN (l : List MV) (off : Nat) (t : T MV) : At (setN l off t) off l := fun j x hj => by
 rw [cget_setN, if_pos ⟨by omega, by have := (List.getElem?_eq_some_iff.1 hj).1; omega⟩, show off + j - off = j from by omega, hj]
theorem getN_setN (l : List MV) (off : Nat) (t : T MV) : getN (setN l off t) l.length off = some l := (at_setN l off t).getN
theorem getN_setN' {l : List MV} {n off : Nat} {t : T MV} (h : l.length = n) : getN (setN l off t) n off = some l := by subst h; exact getN_setN l off t
theorem cells_i (k : IntKind) (z : Int) : (MV.i k z).cells = [.i k z] := rfl
theorem cells_b (t : Bool) : (MV.b t).cells = [.b t] := rfl
theorem cells_s (t : ByteArray) : (MV.s t).cells = [.s t] := rfl
theorem cells_p (a b : Nat) : (MV.p a b).cells = [.p a b] := rfl
theorem cells_nilp : (MV.nilp).cells = [.nilp] := rfl
theorem cells_nils : (MV.nils).cells = [.nils] := rfl
theorem cells_m (a : Nat) : (MV.m a).cells = [.m a] := rfl
theorem cells_sl (a b n d : Nat) : (MV.sl a b n d).cells = [.sl a b n d] := rfl
theorem cells_fn (g : Fn) (a b : List MV) : (MV.fn g a b).cells = [.fn g a b] := rfl
theorem one_i (k : IntKind) (z : Int) : (MV.i k z).one = true := rfl
theorem one_b (t : Bool) : (MV.b t).one = true := rfl
theorem one_s (t : ByteArray) : (MV.s t).one = true := rfl
theorem one_p (a b : Nat) : (MV.p a b).one = true := rfl
theorem one_nilp : (MV.nilp).one = true := rfl
theorem one_nils : (MV.nils).one = true := rfl
theorem one_m (a : Nat) : (MV.m a).one = true := rfl
theorem one_sl (a b n d : Nat) : (MV.sl a b n d).one = true := rfl
theorem one_fn (g : Fn) (a b : List MV) : (MV.fn g a b).one = true := rfl
theorem isU_i (k : IntKind) (z : Int) : isU (.i k z) = false := rfl
theorem isU_b (t : Bool) : isU (.b t) = false := rfl
theorem isU_s (t : ByteArray) : isU (.s t) = false := rfl
theorem isU_p (a b : Nat) : isU (.p a b) = false := rfl
theorem isU_nilp : isU .nilp = false := rfl
theorem isU_nils : isU .nils = false := rfl
theorem isU_m (a : Nat) : isU (.m a) = false := rfl
theorem isU_sl (a b n d : Nat) : isU (.sl a b n d) = false := rfl
theorem isU_ag (l : List MV) : isU (.ag l) = false := rfl
theorem isU_fn (g : Fn) (a b : List MV) : isU (.fn g a b) = false := rfl
theorem isSl_cells {v : MV} (h : isSl v = true) : v.cells = [v] := by cases v <;> first | rfl | cases h
theorem isSl_one {v : MV} (h : isSl v = true) : v.one = true := by cases v <;> first | rfl | cases h
theorem isSl_isU {v : MV} (h : isSl v = true) : isU v = false := by cases v <;> first | rfl | cases h
theorem all_nil : allOne [] = true := rfl
theorem all_cons (x : MV) (l : List MV) : allOne (x :: l) = (x.one && allOne l) := rfl
theorem has_ofL (l : List MV) (n off : Nat) (h : off + n ≤ l.length) : hasB (ofL l 0) n off = true := hasB_of fun j hj => by
 rw [cget_ofL, if_pos (Nat.zero_le _), List.getElem?_eq_getElem (by omega)]; rfl
theorem hasB_iff {t : T MV} : ∀ {n off : Nat}, hasB t n off = true → ∀ j, j < n → (cget t (off + j)).isSome = true
 | 0, off, h, j, hj => by omega
 | n + 1, off, h, j, hj => by
  have h' : (match cget t off with
   | some _ => hasB t n (off + 1)
   | none => false) = true := h
  cases hc : cget t off with
  | none => rw [hc] at h'; cases h'
  | some v =>
   rw [hc] at h'
   cases j with
   | zero => rw [Nat.add_zero, hc]; rfl
   | succ j => rw [show off + (j + 1) = off + 1 + j from by omega]; exact hasB_iff h' j (by omega)
theorem has_setN {t : T MV} (l : List MV) (o n off : Nat) (h : hasB t n off = true) : hasB (setN l o t) n off = true := hasB_of fun j hj => by
 rw [cget_setN]
 split
 ·rw [List.getElem?_eq_getElem (by omega)]; rfl
 ·exact hasB_iff h j hj
def stOk (n : Nat) (y : MV) : Bool := (y.cells.length == n) && (!isU y && allOne y.cells)
theorem stW_ok {n id off sz : Nat} {t : T MV} {y : MV} (hlo : M.lo ≤ id) (hy : stOk n y = true) (hb : hasB t n off = true) : stW M n id off y (some (.cs false sz t)) = some (.u, M.set id (some (.cs false sz (setN y.cells off t)))) := by
 unfold stOk at hy
 simp only [Bool.and_eq_true, Bool.not_eq_true'] at hy
 exact stW_cs hlo (by simpa using hy.1) hy.2.1 hy.2.2 hb
noncomputable def bslW (M : MH) (sz n : Nat) (o : Option (List MV)) : Option (MV × MH) := match o with
 | some l => pushV M (.sl M.n 0 n 0) (.cs false sz (ofL l 0))
 | none => none
theorem bslW_some (sz n : Nat) (l : List MV) : bslW M sz n (some l) = pushV M (.sl M.n 0 n 0) (.cs false sz (ofL l 0)) := rfl
theorem ev_bslW (sz n : Nat) (zs : List MV) (ps : List (Nat × Nat × X)) : Iop.ev c f M (.bsl sz n zs ps) = bslW M sz n (fillM (ps.map fun x => (x.1, x.2.1, x.2.2.ev f)) (zrow zs n)) := by
 simp only [ev_bsl, bslW, pushV]
 cases fillM (ps.map fun x => (x.1, x.2.1, x.2.2.ev f)) (zrow zs n) <;> cases Nat.ble M.lo M.n <;> rfl
theorem zrow_one (zs : List MV) : zrow zs 1 = zs := by
 rw [zrow_succ, zrow_zero, List.append_nil]
theorem fill_nil (l : List MV) : fillM [] l = some l := rfl
theorem fill_ag {n : Nat} {e zs : List MV} (h : e.length = n) (hz : zs.length = n) : fillM [(0, n, .ag e)] zs = some e := by
 rw [fillM_cons]
 simp only [cells_ag, h, beq_self_eq_true, Bool.true_and, Nat.zero_add, hz, ble_t' (Nat.le_refl n), isU, Bool.not_false, cond_true, fill_nil, splice, List.take_zero, List.nil_append]
 rw [List.drop_eq_nil_of_le (by omega), List.append_nil]
theorem fill_one {x z : MV} (h : x.cells = [x]) (hu : isU x = false) : fillM [(0, 1, x)] [z] = some [x] := by
 rw [fillM_cons, h, hu]
 rfl
theorem row_one {M : MH} {sz : Nat} {e : List MV} (he : e.length = sz) : RowAt (M.push (.cs false sz (ofL e 0))) sz (.sl M.n 0 1 0) [e] :=
 ⟨fun x hx => by rw [List.mem_singleton.1 hx]; exact he, .inr ⟨M.n, 0, 0, false, sz, ofL e 0, rfl, push_new _, Nat.lt_succ_self _, by simpa using at_ofL e⟩⟩
theorem puM_eqA (n : Nat) (neg : Bool) (a b : List MV) : puM (.eqA n neg) (.ag a) (.ag b) = bif a.length == n then (match eqAg a b with
  | some r => some (.b (bif neg then !r else r))
  | none => none) else none := rfl
theorem eqAg_nil : eqAg [] [] = some true := rfl
theorem eqAg_i (k : IntKind) (x y : Int) (a b : List MV) : eqAg (.i k x :: a) (.i k y :: b) = match eqAg a b with
  | some t => some (bif x == y then t else false)
  | none => none := by cases k <;> rfl
theorem resL_1 (r : IRes) : resL f M [r] = match r.ev f M with
  | some m => some [m]
  | none => none := by
 show (match r.ev f M, resL f M [] with
  | some m, some l => some (m :: l)
  | _, _ => none) = _
 cases r.ev f M <;> rfl
theorem RowAt.sl {sz : Nat} {v : MV} {es : List (List MV)} (h : RowAt M sz v es) : isSl v = true ∧ slen v = es.length := by
 obtain ⟨_, ⟨rfl, rfl⟩ | ⟨id, off, e, ro, s, c, rfl, _⟩⟩ := h <;> exact ⟨rfl, rfl⟩
theorem RowAt.read {sz : Nat} {v : MV} {es : List (List MV)} (h : RowAt M sz v es) {i : Nat} {e : List MV} (he : es[i]? = some e) : ∃ ro s c, M.get (sid v) = some (.cs ro s c) ∧ sid v < M.n ∧ At c (soff v + i * sz) e := by
 obtain ⟨hs, ⟨rfl, rfl⟩ | ⟨id, off, ed, ro, s, c, rfl, h2, h3, h4⟩⟩ := h
 ·simp at he
 ·exact ⟨ro, s, c, h2, h3, h4.elem hs he⟩
def consO : Option MV → Option (List MV) → Option (List MV)
 | some m, some l => some (m :: l)
 | _, _ => none
theorem resL_c (r s : IRes) (rs : List IRes) : resL f M (r :: s :: rs) = consO (r.ev f M) (resL f M (s :: rs)) := by
 show (match r.ev f M, resL f M (s :: rs) with
  | some m, some l => some (m :: l)
  | _, _ => none) = _
 cases r.ev f M <;> cases resL f M (s :: rs) <;> rfl
theorem consO_some (m : MV) (l : List MV) : consO (some m) (some l) = some (m :: l) := rfl
theorem pack1 (x : MV) : packM [x] = x := rfl
theorem pack2 (x y : MV) : packM [x, y] = .tp [x, y] := rfl
theorem pack3 (x y z : MV) : packM [x, y, z] = .tp [x, y, z] := rfl
theorem ext_tp (i : Nat) (l : List MV) : extV i (.tp l) = l[i]? := rfl
end Go.Proofs.Ythklpecigkdkiaa.Ev
set_option linter.unusedSimpArgs false
set_option linter.unusedVariables false
namespace Go.Proofs.Ythklpecigkdkiaa.Ev
open Go Go.Deep
def TypedFs (T : TypeId → List MV → Prop) : List Field → List MV → Prop
 | [], cs => cs = []
 | f :: fs, cs => ∃ a b, cs = a ++ b ∧ T f.type a ∧ TypedFs T fs b
def TypedN (T : TypeId → List MV → Prop) (e : TypeId) : Nat → List MV → Prop
 | 0, cs => cs = []
 | n + 1, cs => ∃ a b, cs = a ++ b ∧ T e a ∧ TypedN T e n b
def Typed (P : Program) (M : MH) : Nat → TypeId → List MV → Prop
 | 0, _, _ => False
 | n + 1, t, cs => match P.underlying t with
  | some .bool => ∃ b, cs = [.b b]
  | some (.int k) => ∃ z, cs = [.i k z] ∧ (Lit.int k z).wf = true
  | some .string => ∃ s, cs = [.s s] ∧ s.size ≤ maxLen
  | some (.slice e) => ∃ v es, cs = [v] ∧ RowAt M (P.cellsOf e) v es ∧ es.length ≤ maxLen ∧ ∀ x ∈ es, Typed P M n e x
  | some (.struct fs) => TypedFs (Typed P M n) fs.toList cs
  | some (.array m e) => TypedN (Typed P M n) e m cs
  | _ => False
theorem TypedFs.mono {T T' : TypeId → List MV → Prop} (h : ∀ t cs, T t cs → T' t cs) : ∀ {fs : List Field} {cs : List MV}, TypedFs T fs cs → TypedFs T' fs cs
 | [], cs, k => k
 | f :: fs, cs, ⟨a, b, h1, h2, h3⟩ => ⟨a, b, h1, h _ _ h2, TypedFs.mono h h3⟩
theorem TypedN.mono {T T' : TypeId → List MV → Prop} (h : ∀ t cs, T t cs → T' t cs) {e : TypeId} : ∀ {n : Nat} {cs : List MV}, TypedN T e n cs → TypedN T' e n cs
 | 0, cs, k => k
 | n + 1, cs, ⟨a, b, h1, h2, h3⟩ => ⟨a, b, h1, h _ _ h2, TypedN.mono h h3⟩
theorem Typed.ext {P : Program} {M M' : MH} (k : Ext M M') : ∀ {n : Nat} {t : TypeId} {cs : List MV}, Typed P M n t cs → Typed P M' n t cs
 | 0, t, cs, h => h
 | n + 1, t, cs, h => by
  have ih : ∀ t cs, Typed P M n t cs → Typed P M' n t cs := fun t cs h => Typed.ext k h
  unfold Typed at h ⊢
  cases hu : P.underlying t with
  | none => rw [hu] at h; exact h.elim
  | some d =>
   rw [hu] at h
   cases d <;> simp only at h ⊢ <;> first | exact h | skip
   ·obtain ⟨v, es, h1, h2, h3, h4⟩ := h
    exact ⟨v, es, h1, h2.ext k, h3, fun x hx => ih _ _ (h4 x hx)⟩
   ·exact h.mono ih
   ·exact h.mono ih
def fieldsOk (P : Program) (S : List TypeId) : List Field → Nat → Bool
 | [], _ => true
 | f :: r, o => (S.contains f.type && Nat.beq f.offset o) && fieldsOk P S r (o + P.cellsOf f.type)
def sumF (P : Program) : List Field → Nat → Nat
 | [], o => o
 | f :: r, o => sumF P r (o + P.cellsOf f.type)
def typeOk (P : Program) (S : List TypeId) (t : TypeId) : Bool := match P.underlying t with
 | some .bool => Nat.beq (P.cellsOf t) 1
 | some (.int _) => Nat.beq (P.cellsOf t) 1
 | some .string => Nat.beq (P.cellsOf t) 1
 | some (.slice e) => (S.contains e && Nat.blt 0 (P.cellsOf e)) && Nat.beq (P.cellsOf t) 1
 | some (.struct fs) => fieldsOk P S fs.toList 0 && Nat.beq (sumF P fs.toList 0) (P.cellsOf t)
 | some (.array m e) => S.contains e && Nat.beq (m * P.cellsOf e) (P.cellsOf t)
 | _ => false
def Closed (P : Program) (S : List TypeId) : Prop := ∀ t ∈ S, typeOk P S t = true
structure Opened (P : Program) (w : World) (β : BM) (M : MH) : Prop where
 inv : Inv β M w
 glob : GlobOk β
 ro : ∀ id o, M.get id = some o → o.rw = false
 lo : M.lo ≤ M.n
 zero : 0 < w.heap.size ∨ (M.get 0 = some thinO ∧ 0 < M.n ∧ β 0 = some ⟨0, 0, 0⟩)
theorem Opened.push {P : Program} {w : World} {β : BM} {M : MH} (h : Opened P w β M) (sz : Nat) (c : T MV) (B : Bl) (hB : B.blk < w.heap.size) (hc : ∀ i x, cget c i = some x → ∃ v, w.cell? ⟨B.blk, B.off + i, none⟩ = some v ∧ Den β x v) :
  ∃ β', Opened P w β' (M.push (.cs true sz c)) ∧ β.le β' ∧ β' M.n = some B := by
 have hle : β.le fun id => if id = M.n then some B else β id := fun id B' e => by
  by_cases h1 : id = M.n
  ·subst h1; rw [h.inv.fresh M.n (Nat.le_refl _)] at e; cases e
  ·show (if id = M.n then some B else β id) = some B'
   rw [if_neg h1]; exact e
 refine ⟨fun id => if id = M.n then some B else β id, ⟨⟨fun id hid => ?_, fun id B' e => ?_, fun id o ho => ?_, fun id id' o o' B1 B2 ho ho' hr e1 e2 hne => ?_⟩, h.glob.mono hle, fun id o ho => ?_, ?_, ?_⟩, hle, if_pos rfl⟩
 ·have hid : M.n + 1 ≤ id := hid
  show (if id = M.n then some B else β id) = none
  rw [if_neg (by omega)]
  exact h.inv.fresh id (by omega)
 ·by_cases h1 : id = M.n
  ·have e' : some B = some B' := by rw [← e]; exact (if_pos h1).symm
   injection e' with e'; subst e'; exact .inl hB
  ·have e' : β id = some B' := by rw [← e]; exact (if_neg h1).symm
   rcases h.inv.old id B' e' with h2 | ⟨rfl, h2⟩
   ·exact .inl h2
   ·exact .inr ⟨rfl, by rw [MH.get_push, if_neg fun x => h1 x.symm]; exact h2⟩
 ·rw [MH.get_push] at ho
  by_cases h1 : M.n = id
  ·rw [if_pos h1] at ho
   injection ho with ho
   subst ho
   exact ⟨B, if_pos h1.symm, fun i x hx => let ⟨v, a, b⟩ := hc i x hx; ⟨v, a, b.mono hle⟩⟩
  ·rw [if_neg h1] at ho
   obtain ⟨B', e, hk⟩ := h.inv.obj id o ho
   exact ⟨B', hle _ _ e, hk.mono hle rfl⟩
 ·exfalso
  rw [MH.get_push] at ho
  by_cases h1 : M.n = id
  ·rw [if_pos h1] at ho; injection ho with ho; subst ho; cases hr
  ·rw [if_neg h1] at ho; rw [h.ro id o ho] at hr; cases hr
 ·rw [MH.get_push] at ho
  by_cases h1 : M.n = id
  ·rw [if_pos h1] at ho; injection ho with ho; subst ho; rfl
  ·rw [if_neg h1] at ho; exact h.ro id o ho
 ·exact Nat.le_succ_of_le h.lo
 ·exact .inl (Nat.lt_of_le_of_lt (Nat.zero_le _) hB)
def OpenAs (P : Program) (w : World) (n : Nat) (t : TypeId) (vs : List Value) : Prop := ∀ β M, Opened P w β M → ∃ β' M' cs, Opened P w β' M' ∧ β.le β' ∧ Ext M M' ∧ DenL β' cs vs ∧ Typed P M' n t cs
variable {H : Type} {enc : TypeId × Value → H} {P : Program} {w : World} {held : Bool}
theorem open_fields {T : TypeId → List Value → Prop} {n : Nat} {S : List TypeId} (hT : ∀ t vs, t ∈ S → T t vs → OpenAs P w n t vs) : ∀ (fs : List Field) (o : Nat) (vs : List Value), fieldsOk P S fs o = true → o + vs.length = sumF P fs o → (∀ f ∈ fs, T f.type (((vs.drop (f.offset - o)).take (P.cellsOf f.type)))) →
  ∀ β M, Opened P w β M → ∃ β' M' cs, Opened P w β' M' ∧ β.le β' ∧ Ext M M' ∧ DenL β' cs vs ∧ TypedFs (Typed P M' n) fs cs
 | [], o, vs, hk, hl, hf, β, M, hO => by
  have : vs = [] := List.length_eq_zero_iff.1 (by have : o + vs.length = o := hl; omega)
  subst this
  exact ⟨β, M, [], hO, .refl β, .refl M, .nil β, rfl⟩
 | f :: fs, o, vs, hk, hl, hf, β, M, hO => by
  simp only [fieldsOk, Bool.and_eq_true] at hk
  obtain ⟨⟨hS, ho⟩, hr⟩ := hk
  have ho : f.offset = o := Nat.eq_of_beq_eq_true ho
  have hS : f.type ∈ S := by simpa using hS
  have hle : ∀ (fs : List Field) (o : Nat), o ≤ sumF P fs o := by
   intro fs
   induction fs with
   | nil => exact fun o => Nat.le_refl _
   | cons f fs ih => exact fun o => Nat.le_trans (Nat.le_add_right _ _) (ih (o + P.cellsOf f.type))
  have hl' : o + vs.length = sumF P fs (o + P.cellsOf f.type) := hl
  have h0 := hle fs (o + P.cellsOf f.type)
  have hoff : ∀ (fs : List Field) (o : Nat), fieldsOk P S fs o = true → ∀ f ∈ fs, o ≤ f.offset := by
   intro fs
   induction fs with
   | nil => exact fun o _ f hf => by cases hf
   | cons f fs ih =>
    intro o hk g hg
    simp only [fieldsOk, Bool.and_eq_true] at hk
    rcases List.mem_cons.1 hg with rfl | hg
    ·exact Nat.le_of_eq (Nat.eq_of_beq_eq_true hk.1.2).symm
    ·exact Nat.le_trans (Nat.le_add_right _ _) (ih _ hk.2 g hg)
  have h1 := hf f List.mem_cons_self
  rw [ho, Nat.sub_self, List.drop_zero] at h1
  obtain ⟨β1, M1, a, hO1, hb1, hx1, hd1, ht1⟩ := hT _ _ hS h1 β M hO
  obtain ⟨β2, M2, b, hO2, hb2, hx2, hd2, ht2⟩ := open_fields hT fs (o + P.cellsOf f.type) (vs.drop (P.cellsOf f.type)) hr (by rw [List.length_drop]; omega) (fun g hg => by
   have := hf g (List.mem_cons_of_mem _ hg)
   have hge := hoff fs _ hr g hg
   rw [List.drop_drop, show P.cellsOf f.type + (g.offset - (o + P.cellsOf f.type)) = g.offset - o from by omega]
   exact this) β1 M1 hO1
  refine ⟨β2, M2, a ++ b, hO2, hb1.trans hb2, hx1.trans hx2, ?_, a, b, rfl, Typed.ext hx2 ht1, ht2⟩
  have := (hd1.mono hb2).append hd2
  rwa [List.take_append_drop] at this
theorem open_cells {T : TypeId → List Value → Prop} {n : Nat} {e : TypeId} (hT : ∀ vs, T e vs → OpenAs P w n e vs) : ∀ (m : Nat) (vs : List Value), vs.length = m * P.cellsOf e → (∀ i, i < m → T e ((vs.drop (i * P.cellsOf e)).take (P.cellsOf e))) →
  ∀ β M, Opened P w β M → ∃ β' M' cs, Opened P w β' M' ∧ β.le β' ∧ Ext M M' ∧ DenL β' cs vs ∧ TypedN (Typed P M' n) e m cs
 | 0, vs, hl, hf, β, M, hO => by
  have : vs = [] := List.length_eq_zero_iff.1 (by rw [hl, Nat.zero_mul])
  subst this
  exact ⟨β, M, [], hO, .refl β, .refl M, .nil β, rfl⟩
 | m + 1, vs, hl, hf, β, M, hO => by
  have h1 := hf 0 (Nat.succ_pos _)
  rw [Nat.zero_mul, List.drop_zero] at h1
  rw [Nat.succ_mul] at hl
  obtain ⟨β1, M1, a, hO1, hb1, hx1, hd1, ht1⟩ := hT _ h1 β M hO
  obtain ⟨β2, M2, b, hO2, hb2, hx2, hd2, ht2⟩ := open_cells hT m (vs.drop (P.cellsOf e)) (by rw [List.length_drop]; omega) (fun i hi => by
   have := hf (i + 1) (by omega)
   rw [List.drop_drop, show P.cellsOf e + i * P.cellsOf e = (i + 1) * P.cellsOf e from by rw [Nat.succ_mul]; omega]
   exact this) β1 M1 hO1
  refine ⟨β2, M2, a ++ b, hO2, hb1.trans hb2, hx1.trans hx2, ?_, a, b, rfl, Typed.ext hx2 ht1, ht2⟩
  have := (hd1.mono hb2).append hd2
  rwa [List.take_append_drop] at this
theorem open_elems {n L : Nat} {e : TypeId} {a : Addr} (hT : ∀ i, i < L → OpenAs P w n e ((w.cells? 0 (a.add (i * P.cellsOf e)) (P.cellsOf e)).getD [])) : ∀ (m i : Nat), i + m ≤ L → ∀ β M, Opened P w β M → ∃ (β' : BM) (M' : MH) (es : List (List MV)), Opened P w β' M' ∧ β.le β' ∧ Ext M M' ∧ es.length = m ∧ (∀ x ∈ es, Typed P M' n e x) ∧ ∀ j x, es[j]? = some x → DenL β' x ((w.cells? 0 (a.add ((i + j) * P.cellsOf e)) (P.cellsOf e)).getD [])
 | 0, i, _, β, M, hO => ⟨β, M, [], hO, .refl β, .refl M, rfl, fun x hx => (by cases hx), fun j x hj => (by simp at hj)⟩
 | m + 1, i, hL, β, M, hO => by
  obtain ⟨β1, M1, c, hO1, hb1, hx1, hd1, ht1⟩ := hT i (by omega) β M hO
  obtain ⟨β2, M2, es, hO2, hb2, hx2, hl2, ht2, hd2⟩ := open_elems hT m (i + 1) (by omega) β1 M1 hO1
  refine ⟨β2, M2, c :: es, hO2, hb1.trans hb2, hx1.trans hx2, by rw [List.length_cons, hl2], fun x hx => ?_, fun j x hj => ?_⟩
  ·rcases List.mem_cons.1 hx with rfl | hx
   ·exact Typed.ext hx2 ht1
   ·exact ht2 x hx
  ·cases j with
   | zero =>
    simp only [List.getElem?_cons_zero, Option.some.injEq] at hj
    subst hj
    exact hd1.mono hb2
   | succ j =>
    rw [show i + (j + 1) = i + 1 + j from by omega]
    exact hd2 j x (by simpa using hj)
theorem add_at (a : Addr) (k : Nat) (h : a.spot = none) : a.add k = ⟨a.block, a.off + k, none⟩ := by
 obtain ⟨b, o, s⟩ := a
 simp only at h
 subst h
 unfold Addr.add
 split
 ·rename_i hk; subst hk; rfl
 ·rfl
theorem spot_none {a : Addr} {v : Value} (h : w.cell? a = some v) : a.spot = none := by
 obtain ⟨B, o, sp⟩ := a
 cases sp with
 | none => rfl
 | some q =>
  simp only [World.cell?, Option.isSome_some, if_true] at h
  split at h <;> simp at h
theorem Sized.at {sz : Nat} : ∀ {es : List (List MV)} {i : Nat} {x : MV}, Sized sz es → es.flatten[i]? = some x → ∃ j r c, i = j * sz + r ∧ r < sz ∧ es[j]? = some c ∧ c[r]? = some x
 | [], i, x, hs, h => by simp at h
 | e :: es, i, x, hs, h => by
  have he : e.length = sz := hs e List.mem_cons_self
  rw [List.flatten_cons] at h
  by_cases hi : i < e.length
  ·rw [List.getElem?_append_left hi] at h
   exact ⟨0, i, e, by omega, by omega, rfl, h⟩
  ·rw [List.getElem?_append_right (by omega)] at h
   obtain ⟨j, r, c, h1, h2, h3, h4⟩ := Sized.at (fun y hy => hs y (List.mem_cons_of_mem _ hy)) h
   exact ⟨j + 1, r, c, by rw [Nat.succ_mul]; omega, h2, by simpa using h3, h4⟩
theorem open_any {S : List TypeId} (hS : Closed P S) : ∀ (n : Nat) (t : TypeId) (vs : List Value) (x : DataW H × List MemPlace), t ∈ S → DataW.trod enc P w 0 (fun _ => true) held n t vs = some x → OpenAs P w n t vs
 | 0, t, vs, x, ht, h => by simp [DataW.trod] at h
 | n + 1, t, vs, x, ht, h => by
  have ih : ∀ t vs x, t ∈ S → DataW.trod enc P w 0 (fun _ => true) held n t vs = some x → OpenAs P w n t vs := open_any hS n
  have hk := hS t ht
  unfold typeOk at hk
  intro β M hO
  cases hu : P.underlying t with
  | none => rw [hu] at hk; cases hk
  | some d =>
   rw [hu] at hk
   cases d <;> simp only [Bool.and_eq_true] at hk <;> first | (cases hk; done) | skip
   ·obtain ⟨b, rfl, _⟩ := DataW.trod_bool hu h
    exact ⟨β, M, [.b b], hO, .refl β, .refl M, .cons (.b b) (.nil β), by simp only [Typed, hu]; exact ⟨b, rfl⟩⟩
   ·obtain ⟨z, rfl, _, hz⟩ := DataW.trod_int hu h
    exact ⟨β, M, [.i _ z], hO, .refl β, .refl M, .cons (.i _ z) (.nil β), by simp only [Typed, hu]; exact ⟨z, rfl, hz⟩⟩
   ·obtain ⟨s, rfl, _, hs⟩ := DataW.trod_string hu h
    exact ⟨β, M, [.s s], hO, .refl β, .refl M, .cons (.s s) (.nil β), by simp only [Typed, hu]; exact ⟨s, rfl, hs⟩⟩
   ·rename_i e
    obtain ⟨⟨hc, hz⟩, h1⟩ := hk
    have hc : e ∈ S := by simpa using hc
    have hz : 0 < P.cellsOf e := Nat.le_of_ble_eq_true hz
    rcases DataW.trod_slice hu h with ⟨rfl, _⟩ | ⟨a, len, cap, elems, rest, q, e1, rfl, _, hb, hl, hm, hlen, hel, hsp, hns⟩
    ·exact ⟨β, M, [.nils], hO, .refl β, .refl M, .cons .nils (.nil β), by simp only [Typed, hu]; exact ⟨.nils, [], rfl, ⟨fun x hx => (by cases hx), .inl ⟨rfl, rfl⟩⟩, Nat.zero_le _, fun x hx => (by cases hx)⟩⟩
    injection e1 with e1
    subst e1
    have hone : ∀ i, i < len → ∃ cs, w.cells? 0 (a.add (i * P.cellsOf e)) (P.cellsOf e) = some cs ∧ OpenAs P w n e cs := fun i hi => by
     have := hel i hi
     rw [List.getElem?_eq_getElem (by omega), Option.bind_eq_some_iff] at this
     obtain ⟨cs, g1, g2⟩ := this
     exact ⟨cs, g1, ih e cs _ hc g2⟩
    have hcap : 0 < cap → a.spot = none ∧ a.block < w.heap.size := fun hcap => by
     have hfirst : ∃ cs, w.cells? 0 a (P.cellsOf e) = some cs := by
      by_cases h0 : 0 < len
      ·obtain ⟨cs, g, _⟩ := hone 0 h0
       rw [Nat.zero_mul] at g
       exact ⟨cs, g⟩
      ·have := (hsp rfl).2 0 (by omega)
       rw [List.getElem?_eq_getElem (by have := (hsp rfl).1; omega), Option.bind_eq_some_iff] at this
       obtain ⟨cs, g, _⟩ := this
       rw [show len + 0 = 0 from by omega, Nat.zero_mul] at g
       exact ⟨cs, g⟩
     obtain ⟨cs, g⟩ := hfirst
     obtain ⟨_, gl, gat⟩ := World.cells?_some g
     have g0 := gat 0 hz
     have : cs[0]? = some cs[0] := List.getElem?_eq_getElem (by omega)
     rw [this] at g0
     exact ⟨spot_none (a := a) g0, World.block_lt_of_cell? w a g0⟩
    obtain ⟨β1, M1, es, hO1, hb1, hx1, hl1, ht1, hd1⟩ := open_elems (P := P) (w := w) (n := n) (L := len) (e := e) (a := a) (fun i hi => by
     obtain ⟨cs, g1, g2⟩ := hone i hi
     rw [g1]
     exact g2) len 0 (by omega) β M hO
    have hsz : Sized (P.cellsOf e) es := fun x hx => by
     obtain ⟨j, hj, rfl⟩ := List.mem_iff_getElem.1 hx
     obtain ⟨cs, g1, g2⟩ := hone j (by omega)
     have := hd1 j _ (List.getElem?_eq_getElem hj)
     rw [Nat.zero_add, g1] at this
     rw [this.1]
     exact (World.cells?_some g1).2.1
    have hcell : ∀ i x, cget (ofL es.flatten 0) i = some x → ∃ v, w.cell? ⟨a.block, a.off + i, none⟩ = some v ∧ Den β1 x v := fun i x hx => by
     rw [cget_ofL, if_pos (Nat.zero_le _), Nat.sub_zero] at hx
     obtain ⟨j, r, c, rfl, hr, hj, hcr⟩ := hsz.at hx
     have hjl : j < len := by have := (List.getElem?_eq_some_iff.1 hj).1; omega
     obtain ⟨cs, g1, g2⟩ := hone j hjl
     have hd := hd1 j c hj
     rw [Nat.zero_add, g1] at hd
     obtain ⟨v, g3, g4⟩ := hd.2 r x hcr
     obtain ⟨_, gl, gat⟩ := World.cells?_some g1
     have g5 := gat r hr
     have hsp0 := (hcap (by omega)).1
     rw [add_at a _ hsp0, add_at _ _ rfl] at g5
     rw [← Nat.add_assoc]
     exact ⟨v, g5.trans g3, g4⟩
    by_cases h0 : 0 < cap
    ·obtain ⟨hsp0, hblk⟩ := hcap h0
     obtain ⟨β2, hO2, hb2, hβ⟩ := hO1.push (P.cellsOf e) (ofL es.flatten 0) ⟨a.block, a.off, cap⟩ hblk hcell
     refine ⟨β2, _, [.sl M1.n 0 len 0], hO2, hb1.trans hb2, hx1.trans (.push M1 _), .cons (.sl M1.n 0 len 0 _ a hβ (by simpa using hl) fun _ => ?_) (.nil _), ?_⟩
     ·obtain ⟨b, o, sp⟩ := a
      simp only at hsp0
      subst hsp0
      rfl
     ·simp only [Typed, hu]
      refine ⟨_, es, rfl, ⟨hsz, .inr ⟨M1.n, 0, 0, true, _, _, by rw [hl1], push_new _, Nat.lt_succ_self _, at_ofL _⟩⟩, by rw [hl1]; omega, fun x hx => Typed.ext (.push M1 _) (ht1 x hx)⟩
    ·have hc0 : cap = 0 := by omega
     have hl0 : len = 0 := by omega
     subst hc0 hl0
     have he0 : es = [] := List.length_eq_zero_iff.1 hl1
     subst he0
     rcases hO1.zero with hw | ⟨z1, z2, z3⟩
     ·obtain ⟨β2, hO2, hb2, hβ⟩ := hO1.push (P.cellsOf e) (ofL [] 0) ⟨0, 0, 0⟩ hw (fun i x hx => by rw [cget_ofL] at hx; simp at hx)
      refine ⟨β2, _, [.sl M1.n 0 0 0], hO2, hb1.trans hb2, hx1.trans (.push M1 _), .cons (.sl M1.n 0 0 0 _ a hβ (Nat.le_refl _) fun h => absurd h (Nat.lt_irrefl _)) (.nil _), ?_⟩
      simp only [Typed, hu]
      exact ⟨_, [], rfl, ⟨hsz, .inr ⟨M1.n, 0, 0, true, _, _, rfl, push_new _, Nat.lt_succ_self _, at_ofL _⟩⟩, Nat.zero_le _, fun x hx => (by cases hx)⟩
     ·refine ⟨β1, M1, [.sl 0 0 0 0], hO1, hb1, hx1, .cons (.sl 0 0 0 0 ⟨0, 0, 0⟩ a z3 (Nat.le_refl _) fun h => absurd h (Nat.lt_irrefl _)) (.nil _), ?_⟩
      simp only [Typed, hu]
      exact ⟨_, [], rfl, ⟨hsz, .inr ⟨0, 0, 0, true, 0, .lf, rfl, z1, z2, .nil _ _⟩⟩, Nat.zero_le _, fun x hx => (by cases hx)⟩
   ·rename_i m e
    obtain ⟨hc, hz⟩ := hk
    obtain ⟨xs, q, e1, _, hl, hlen, hf⟩ := DataW.trod_array hu h
    injection e1 with e1
    subst e1
    have hz := Nat.eq_of_beq_eq_true hz
    have hc : e ∈ S := by simpa using hc
    obtain ⟨β', M', cs, k1, k2, k3, k4, k5⟩ := open_cells (P := P) (w := w) (n := n) (e := e) (T := fun t vs => ∃ x, DataW.trod enc P w 0 (fun _ => true) held n t vs = some x) (fun vs ⟨x, hx⟩ => ih e vs x hc hx) m vs (by rw [hl, hz]) (fun i hi => by
     have := hf i hi
     rw [List.getElem?_eq_getElem (by omega)] at this
     exact ⟨_, this⟩) β M hO
    exact ⟨β', M', cs, k1, k2, k3, k4, by simp only [Typed, hu]; exact k5⟩
   ·rename_i fs
    obtain ⟨hf, hz⟩ := hk
    have hz := Nat.eq_of_beq_eq_true hz
    obtain ⟨xs, q, e1, _, hl, hlen, hg⟩ := DataW.trod_struct hu h
    injection e1 with e1
    subst e1
    obtain ⟨β', M', cs, k1, k2, k3, k4, k5⟩ := open_fields (P := P) (w := w) (n := n) (S := S) (T := fun t vs => ∃ x, DataW.trod enc P w 0 (fun _ => true) held n t vs = some x) (fun t vs ht ⟨x, hx⟩ => ih t vs x ht hx) fs.toList 0 vs hf (by rw [Nat.zero_add, hl, hz]) (fun f hf => by
     obtain ⟨i, hi, rfl⟩ := List.mem_iff_getElem.1 hf
     have := hg i fs.toList[i] (by simp)
     rw [List.getElem?_eq_getElem (by rw [hlen]; simpa using hi)] at this
     rw [Nat.sub_zero]
     exact ⟨_, this⟩) β M hO
    exact ⟨β', M', cs, k1, k2, k3, k4, by simp only [Typed, hu]; exact k5⟩
end Go.Proofs.Ythklpecigkdkiaa.Ev
set_option linter.unusedSimpArgs false
set_option linter.unusedVariables false
namespace Go.Proofs.Ythklpecigkdkiaa.Ev
open Go Go.Deep Go.RowKit Go.WideShapes Kit
def ArgTyped (P : Program) (M : MH) (t : TypeId) (m : MV) : Prop := ∃ n cs, Typed P M n t cs ∧ match P.underlying t with
 | some (.struct _) => m = .ag cs
 | some (.array _ _) => m = .ag cs
 | _ => cs = [m]
def ArgsTyped (P : Program) (M : MH) : List TypeId → List MV → Prop
 | [], ms => ms = []
 | t :: ts, ms => ∃ m r, ms = m :: r ∧ ArgTyped P M t m ∧ ArgsTyped P M ts r
theorem ArgTyped.ext {P : Program} {M M' : MH} (k : Ext M M') {t : TypeId} {m : MV} (h : ArgTyped P M t m) : ArgTyped P M' t m :=
 let ⟨n, cs, h1, h2⟩ := h
 ⟨n, cs, Typed.ext k h1, h2⟩
variable {H : Type} {enc : TypeId × Value → H} {P : Program} {w : World}
theorem open_arg {S : List TypeId} (hS : Closed P S) {t : TypeId} {v : Value} {d : DataW H} {ps : List MemPlace} {r : Reach} {base : Nat} (ht : t ∈ S) (h : DataW.Trod enc P w 0 (fun _ => true) true t v d ps) (hv : Value.okWide P w r base t v) :
  ∀ β M, Opened P w β M → ∃ β' M' m, Opened P w β' M' ∧ β.le β' ∧ Ext M M' ∧ Den β' m v ∧ ArgTyped P M' t m := by
 intro β M hO
 obtain ⟨n, hn⟩ := h
 obtain ⟨β', M', cs, h1, h2, h3, h4, h5⟩ := open_any hS n t v.cells.toList _ ht hn β M hO
 have hk := hS t ht
 unfold typeOk at hk
 have one : (∀ xs, v ≠ .agg xs) → (∀ cs, Typed P M' n t cs → ∃ x, cs = [x]) → ∃ m, Den β' m v ∧ cs = [m] := fun hne hc => by
  obtain ⟨x, rfl⟩ := hc cs h5
  have hcell : v.cells.toList = [v] := by
   cases v <;> first | rfl | exact absurd rfl (hne _)
  rw [hcell] at h4
  obtain ⟨v', ws, e, hd, hr⟩ := h4.inv
  injection e with e1 e2
  subst e1
  exact ⟨x, hd, rfl⟩
 cases n with
 | zero => exact h5.elim
 | succ n =>
 cases hu : P.underlying t with
 | none => rw [hu] at hk; cases hk
 | some k =>
  rw [hu] at hk
  cases k <;> simp only [Bool.and_eq_true] at hk <;> first | (cases hk; done) | skip
  ·obtain ⟨b, rfl⟩ := okWide_bool hu hv
   obtain ⟨m, hm, rfl⟩ := one (fun xs e => by cases e) fun cs hc => by simp only [Typed, hu] at hc; obtain ⟨b, rfl⟩ := hc; exact ⟨_, rfl⟩
   exact ⟨β', M', m, h1, h2, h3, hm, n + 1, [m], h5, by simp only [hu]⟩
  ·obtain ⟨b, rfl⟩ := okWide_int hu hv
   obtain ⟨m, hm, rfl⟩ := one (fun xs e => by cases e) fun cs hc => by simp only [Typed, hu] at hc; obtain ⟨b, rfl, _⟩ := hc; exact ⟨_, rfl⟩
   exact ⟨β', M', m, h1, h2, h3, hm, n + 1, [m], h5, by simp only [hu]⟩
  ·obtain ⟨b, rfl⟩ := okWide_string hu hv
   obtain ⟨m, hm, rfl⟩ := one (fun xs e => by cases e) fun cs hc => by simp only [Typed, hu] at hc; obtain ⟨b, rfl, _⟩ := hc; exact ⟨_, rfl⟩
   exact ⟨β', M', m, h1, h2, h3, hm, n + 1, [m], h5, by simp only [hu]⟩
  ·obtain ⟨a, l, c, rfl⟩ := okWide_slice hu hv
   obtain ⟨m, hm, rfl⟩ := one (fun xs e => by cases e) fun cs hc => by simp only [Typed, hu] at hc; obtain ⟨v, es, rfl, _⟩ := hc; exact ⟨_, rfl⟩
   exact ⟨β', M', m, h1, h2, h3, hm, n + 1, [m], h5, by simp only [hu]⟩
  ·unfold Value.okWide at hv
   rw [hu] at hv
   obtain ⟨xs, rfl, _⟩ := hv
   exact ⟨β', M', .ag cs, h1, h2, h3, DenL.agg h4, n + 1, cs, h5, by simp only [hu]⟩
  ·obtain ⟨xs, rfl, _⟩ := okWide_struct hu hv
   exact ⟨β', M', .ag cs, h1, h2, h3, DenL.agg h4, n + 1, cs, h5, by simp only [hu]⟩
theorem open_args {S : List TypeId} (hS : Closed P S) {r : Reach} {base : Nat} : ∀ (ts : List TypeId) (vs : List Value) (ds : List (DataW H)) (ps : List MemPlace), (∀ t ∈ ts, t ∈ S) → DataW.TrodAll enc P w 0 (fun _ => true) true ts vs ds ps → (∀ (j : Nat) t v, ts[j]? = some t → vs[j]? = some v → Value.okWide P w r base t v) →
  ∀ β M, Opened P w β M → ∃ β' M' ms, Opened P w β' M' ∧ β.le β' ∧ Ext M M' ∧ DenL β' ms vs ∧ ArgsTyped P M' ts ms
 | [], [], [], ps, hin, h, hv, β, M, hO => ⟨β, M, [], hO, .refl β, .refl M, .nil β, rfl⟩
 | t :: ts, v :: vs, d :: ds, ps, hin, h, hv, β, M, hO => by
  obtain ⟨p, q, h1, h2, _⟩ := h
  obtain ⟨β1, M1, m, a1, a2, a3, a4, a5⟩ := open_arg hS (hin t List.mem_cons_self) h1 (hv 0 t v rfl rfl) β M hO
  obtain ⟨β2, M2, ms, b1, b2, b3, b4, b5⟩ := open_args hS ts vs ds q (fun t ht => hin t (List.mem_cons_of_mem _ ht)) h2 (fun j t v h h' => hv (j + 1) t v (by simpa using h) (by simpa using h')) β1 M1 a1
  exact ⟨β2, M2, m :: ms, b1, a2.trans b2, a3.trans b3, .cons (a4.mono b2) b4, m, ms, rfl, a5.ext b3, b5⟩
theorem law_in (hm : P.follows .mixedOrders = true) {fns : Nat → Option IFn} (hfns : ∀ g fn, fns g = some fn → FitsF P g fn) {S : List TypeId} (hS : Closed P S) {r : Reach} {base g : Nat} {ts : List TypeId} {vs : List Value} {ds : List (DataW H)} {ps : List MemPlace} (hin : ∀ t ∈ ts, t ∈ S)
  (h : DataW.TrodAll enc P w 0 (fun _ => true) true ts vs ds ps) (hv : ∀ (j : Nat) t v, ts[j]? = some t → vs[j]? = some v → Value.okWide P w r base t v) {β0 : BM} {M0 : MH} (hO : Opened P w β0 M0)
  (law : ∀ M ms, Ext M0 M → M.lo ≤ M.n → ArgsTyped P M ts ms → Cp fns g ms M fun m _ => m = .b true) :
  Calls P g vs.toArray w fun e w' => e = .returned (.bool true) ∧ Kept w w' := by
 obtain ⟨β, M, ms, h1, h2, h3, h4, h5⟩ := open_args hS ts vs ds ps hin h hv β0 M0 hO
 obtain ⟨m, M', h6, rfl⟩ := law M ms h3 h1.lo h5
 obtain ⟨n, h7⟩ := callA_ex h6
 refine (calls_run_at hm hfns n g ms vs (.b true) β M M' w h1.glob h1.inv h1.ro h7 h4).mono ?_
 rintro e w' ⟨v, β', rfl, hd, hk⟩
 cases hd
 exact ⟨rfl, hk⟩
theorem callF_inv {fns : Nat → Option IFn} {n g : Nat} {fn : IFn} {args : List MV} {M M' : MH} {m : MV} (hg : fns g = some fn) (h : callF fns n g args M = some (m, M')) : args.length ≤ fn.sz ∧ Wp fns fn.body (argsF args 0 .lf) M (retQ fn fun m' M3 => m' = m ∧ M3 = M') := by
 unfold callF at h
 rw [hg] at h
 simp only at h
 cases hb : Nat.ble args.length fn.sz with
 | false => rw [hb] at h; cases h
 | true =>
  rw [hb] at h
  simp only [cond_true] at h
  refine ⟨Nat.le_of_ble_eq_true hb, ?_⟩
  cases h1 : run fns n fn.body (argsF args 0 .lf) M with
  | none => rw [h1] at h; cases h
  | some x =>
   obtain ⟨ex, f, M1⟩ := x
   rw [h1] at h
   refine ⟨n, ex, f, M1, h1, ?_⟩
   cases ex with
   | exit i => cases h
   | norm =>
    simp only at h
    cases h2 : resL f M1 fn.res with
    | none => rw [h2] at h; cases h
    | some l =>
     rw [h2] at h
     injection h with h; injection h with h3 h4
     exact ⟨l, h2, h3, h4⟩
   | ret =>
    simp only at h
    cases h2 : resL f M1 fn.res with
    | none => rw [h2] at h; cases h
    | some l =>
     rw [h2] at h
     injection h with h; injection h with h3 h4
     exact ⟨l, h2, h3, h4⟩
theorem Step.of_kept {β : BM} {M : MH} {w w' : World} (h : Inv β M w) (k : Kept w w') : Step β β M M w w' := by
 obtain ⟨k1, k2, k3, k4, k5⟩ := k
 refine ⟨⟨h.fresh, fun id B e => (h.old id B e).imp (fun x => Nat.lt_of_lt_of_le x k4) (fun x => x), fun id o ho => h.keep (.refl β) (fun b hb => k5 b hb) ho, h.inj⟩, .refl β, k4, k1, k2, k3, fun b hb _ => k5 b hb, fun b hb => .inl hb, Nat.le_refl _, rfl, fun _ _ => rfl, fun _ _ h => h, fun _ _ => rfl, fun _ _ h _ => h⟩
def Ftrue : IFn := ⟨0, [.tmp (.k1 .d0)], .reg [⟨some (.k1 .d0), none, .mov (.c (.b true))⟩]⟩
theorem sem_true {g : Nat} {fn : Func} {c : Code} (h1 : P.funcs[g]? = some fn) (h2 : (fn.name == "runtime.NumGoroutine") = false) (h3 : fn.body = some c) (h : ∀ w, Calls P g #[] w fun e w' => e = .returned (.bool true) ∧ Kept w w') : SemF P g Ftrue := by
 intro fns n hg _ args M M' m hc
 refine ⟨⟨fn, c, h1, h2, h3⟩, fun β w vs hgl hi hd => ?_⟩
 obtain ⟨ha, hW⟩ := callF_inv hg hc
 have ha : args = [] := List.length_eq_zero_iff.1 (Nat.le_zero.1 ha)
 subst ha
 cases hd.inv0
 have hW : Wp fns (.reg [⟨some (.k1 .d0), none, .mov (.c (.b true))⟩]) (argsF [] 0 .lf) M (retQ Ftrue fun m' M3 => m' = m ∧ M3 = M') := hW
 simp only [Wp_reg_iff, Wl_op_iff, Wl_nil_iff, bindP_some, ev_mov, ev_c, setD_some, ev_args, retQ_norm, show Ftrue.res = [.tmp (.k1 .d0)] from rfl, resL_1, res_set, if_true] at hW
 obtain ⟨rfl, rfl⟩ := hW
 refine (h w).mono ?_
 rintro e w' ⟨rfl, hk⟩
 exact ⟨_, β, rfl, .b true, Step.of_kept hi hk⟩
noncomputable def Mz : MH := ⟨T.set (path 0) (some thinO) .lf, 1, 0⟩
def Bz : BM := fun id => if id = 0 then some ⟨0, 0, 0⟩ else none
theorem Mz_get (id : Nat) : Mz.get id = if id = 0 then some thinO else none := by
 unfold Mz MH.get
 show (T.set (path 0) (some thinO) .lf).get (path id) = _
 rw [T.get_set]
 by_cases h : id = 0
 ·subst h; simp
 ·have hp : ¬ path 0 = path id := fun e => h (path_inj e).symm
  simp [h, hp, T.get_lf]
theorem opened_none (hg : ∀ g, gtab g = none) : Opened P w Bz Mz := by
 refine ⟨⟨fun id hid => ?_, fun id B hB => ?_, fun id o ho => ?_, fun id id' o o' B B' ho _ hr => ?_⟩, fun g id cap e => ?_, fun id o ho => ?_, Nat.zero_le _, .inr ⟨by rw [Mz_get, if_pos rfl], Nat.one_pos, rfl⟩⟩
 ·have : (1 : Nat) ≤ id := hid
  unfold Bz; rw [if_neg (by omega)]
 ·unfold Bz at hB
  split at hB
  ·rename_i h
   exact .inr ⟨h, by rw [Mz_get, if_pos rfl]⟩
  ·cases hB
 ·rw [Mz_get] at ho
  split at ho
  ·rename_i e
   subst e
   injection ho with ho
   subst ho
   exact ⟨⟨0, 0, 0⟩, rfl, .thin _ _ _⟩
  ·cases ho
 ·rw [Mz_get] at ho
  split at ho
  ·injection ho with ho
   subst ho
   cases hr
  ·cases ho
 ·rw [hg g] at e; cases e
 ·rw [Mz_get] at ho
  split at ho
  ·injection ho with ho
   subst ho
   rfl
  ·cases ho
end Go.Proofs.Ythklpecigkdkiaa.Ev
set_option linter.unusedSimpArgs false
set_option linter.unusedVariables false
namespace Go.Proofs.Ythklpecigkdkiaa.Ev
open Go
theorem At.set {c : T MV} {off : Nat} {l : List MV} (h : At c off l) (j : Nat) (x : MV) (hj : j < l.length) : At (setN [x] (off + j) c) off (l.set j x) := fun i y hi => by
 rw [cget_setN]
 rw [List.getElem?_set] at hi
 by_cases e : j = i
 ·subst e
  rw [if_pos rfl, if_pos hj] at hi
  rw [if_pos ⟨Nat.le_refl _, by simp⟩, Nat.sub_self]
  exact hi
 ·rw [if_neg e] at hi
  rw [if_neg (by simp only [List.length_singleton]; omega)]
  exact h i y hi
theorem At.set' {c : T MV} {off k : Nat} {l : List MV} (h : At c off l) (j : Nat) (x : MV) (hj : j < l.length) (hk : k = off + j) : At (setN [x] k c) off (l.set j x) := by subst hk; exact h.set j x hj
theorem flat_set {sz : Nat} : ∀ {es : List (List MV)} {i o : Nat} {e : List MV} {x : MV}, Sized sz es → es[i]? = some e → o < sz → es.flatten.set (i * sz + o) x = (es.set i (e.set o x)).flatten
 | [], i, o, e, x, hs, he, ho => by simp at he
 | a :: es, 0, o, e, x, hs, he, ho => by
  simp only [List.getElem?_cons_zero, Option.some.injEq] at he
  subst he
  have hl : a.length = sz := hs a List.mem_cons_self
  rw [List.flatten_cons, List.set_cons_zero, List.flatten_cons, Nat.zero_mul, Nat.zero_add, List.set_append_left _ _ (by omega)]
 | a :: es, i + 1, o, e, x, hs, he, ho => by
  have hl : a.length = sz := hs a List.mem_cons_self
  rw [List.flatten_cons, List.set_cons_succ, List.flatten_cons, List.set_append_right _ _ (by rw [hl, Nat.succ_mul]; omega), hl, Nat.succ_mul, show i * sz + sz + o - sz = i * sz + o from by omega]
  rw [flat_set (fun y hy => hs y (List.mem_cons_of_mem _ hy)) (by simpa using he) ho]
theorem At.elem_set {c : T MV} {sz : Nat} {es : List (List MV)} (hs : Sized sz es) (h : At c 0 es.flatten) {i o : Nat} {e : List MV} {x : MV} (he : es[i]? = some e) (ho : o < sz) {k : Nat} (hk : k = i * sz + o) : At (setN [x] k c) 0 (es.set i (e.set o x)).flatten := by
 rw [← flat_set hs he ho]
 have hi := (List.getElem?_eq_some_iff.1 he).1
 refine h.set' _ x ?_ (by rw [hk, Nat.zero_add])
 rw [hs.flat]
 have : (i + 1) * sz ≤ es.length * sz := Nat.mul_le_mul_right sz hi
 rw [Nat.succ_mul] at this
 omega
theorem has_at {c : T MV} {off : Nat} {l : List MV} (h : At c off l) {k n : Nat} (hk : off ≤ k) (hn : k + n ≤ off + l.length) : hasB c n k = true := hasB_of fun j hj => by
 rw [show k + j = off + (k - off + j) from by omega, h (k - off + j) _ (List.getElem?_eq_getElem (by omega))]
 rfl
theorem OwnRow.keep {lo : Nat} {M M' : MH} {sz : Nat} {v : MV} {es : List (List MV)} (h : OwnRow lo M sz v es) (hn : M.n ≤ M'.n) (k : ∀ a b n d, v = .sl a b n d → M'.get a = M.get a) : OwnRow lo M' sz v es := by
 obtain ⟨hs, h | ⟨id, c, h1, h2, h3, h4, h5⟩⟩ := h
 ·exact ⟨hs, .inl h⟩
 ·exact ⟨hs, .inr ⟨id, c, h1, (k _ _ _ _ h1).trans h2, h3, Nat.lt_of_lt_of_le h4 hn, h5⟩⟩
end Go.Proofs.Ythklpecigkdkiaa.Ev
set_option linter.unusedSimpArgs false
set_option linter.unusedVariables false
namespace Go.Proofs.Ythklpecigkdkiaa.Ev
open Go
inductive Rx where
 | mk (op : Int) (a b c d : Int) (kids : List Rx)
def Rx.op : Rx → Int
 | .mk op _ _ _ _ _ => op
def Rx.lk : Rx → List Rx
 | .mk op _ _ _ _ k => if op = 2 ∨ op = 3 then k else if op = 4 ∨ op = 5 ∨ op = 6 then k.take 1 else []
mutual
def cnt : Rx → Nat
 | .mk op _ _ _ _ kids => if op = 1 then 1 else if op = 2 ∨ op = 3 then cntL kids else if op = 4 ∨ op = 5 ∨ op = 6 then cnt1 kids else 0
def cntL : List Rx → Nat
 | [] => 0
 | k :: r => cnt k + cntL r
def cnt1 : List Rx → Nat
 | [] => 0
 | k :: _ => cnt k
end
mutual
def deep : Rx → Nat
 | .mk op _ _ _ _ kids => (if op = 2 ∨ op = 3 then deepL kids else if op = 4 ∨ op = 5 ∨ op = 6 then deep1 kids else 0) + 1
def deepL : List Rx → Nat
 | [] => 0
 | k :: r => max (deep k) (deepL r)
def deep1 : List Rx → Nat
 | [] => 0
 | k :: _ => deep k
end
mutual
def wei : Rx → Nat
 | .mk _ _ _ _ _ kids => 2 + weiL kids
def weiL : List Rx → Nat
 | [] => 0
 | k :: r => wei k + weiL r
end
theorem lk_mk (op a b c d : Int) (k : List Rx) : (Rx.mk op a b c d k).lk = if op = 2 ∨ op = 3 then k else if op = 4 ∨ op = 5 ∨ op = 6 then k.take 1 else [] := rfl
theorem cnt_lk {x : Rx} (h : x.lk ≠ []) : cnt x = cntL x.lk := by
 obtain ⟨op, a, b, c, d, k⟩ := x
 unfold cnt
 rw [lk_mk] at h ⊢
 by_cases h2 : op = 2 ∨ op = 3
 ·rw [if_pos h2] at h
  rw [if_pos h2, if_neg (by omega), if_pos h2]
 ·rw [if_neg h2] at h
  by_cases h4 : op = 4 ∨ op = 5 ∨ op = 6
  ·rw [if_pos h4] at h
   rw [if_neg h2, if_pos h4, if_neg (by omega), if_neg h2, if_pos h4]
   cases k with
   | nil => simp at h
   | cons x r => simp [cnt1, cntL]
  ·rw [if_neg h4] at h
   exact (h rfl).elim
theorem cnt_leaf {x : Rx} (h : x.lk = []) : cnt x = if x.op = 1 then 1 else 0 := by
 obtain ⟨op, a, b, c, d, k⟩ := x
 unfold cnt
 rw [lk_mk] at h
 rw [show (if (Rx.mk op a b c d k).op = 1 then 1 else 0) = if op = 1 then 1 else 0 from rfl]
 by_cases h1 : op = 1
 ·rw [if_pos h1, if_pos h1]
 ·rw [if_neg h1, if_neg h1]
  by_cases h2 : op = 2 ∨ op = 3
  ·rw [if_pos h2] at h
   rw [if_pos h2, h]; rfl
  ·rw [if_neg h2] at h
   rw [if_neg h2]
   by_cases h4 : op = 4 ∨ op = 5 ∨ op = 6
   ·rw [if_pos h4] at h
    rw [if_pos h4]
    cases k with
    | nil => rfl
    | cons x r => simp at h
   ·rw [if_neg h4]
theorem deep_lk (x : Rx) : deep x = deepL x.lk + 1 := by
 obtain ⟨op, a, b, c, d, k⟩ := x
 rw [lk_mk]
 unfold deep
 by_cases h2 : op = 2 ∨ op = 3
 ·rw [if_pos h2, if_pos h2]
 ·rw [if_neg h2, if_neg h2]
  by_cases h4 : op = 4 ∨ op = 5 ∨ op = 6
  ·rw [if_pos h4, if_pos h4]
   cases k with
   | nil => rfl
   | cons x r => simp [deep1, deepL]
  ·rw [if_neg h4, if_neg h4]; rfl
theorem wei_lk (x : Rx) : weiL x.lk + 2 ≤ wei x := by
 obtain ⟨op, a, b, c, d, k⟩ := x
 rw [lk_mk]
 unfold wei
 split
 ·omega
 ·split
  ·cases k with
   | nil => simp [weiL]
   | cons x r => simp [weiL]; omega
  ·simp [weiL]
theorem cntL_app : ∀ (l r : List Rx), cntL (l ++ r) = cntL l + cntL r
 | [], r => by simp [cntL]
 | x :: l, r => by rw [List.cons_append, cntL, cntL, cntL_app l r]; omega
theorem deepL_app : ∀ (l r : List Rx), deepL (l ++ r) = max (deepL l) (deepL r)
 | [], r => by simp [deepL]
 | x :: l, r => by rw [List.cons_append, deepL, deepL, deepL_app l r]; omega
theorem wei_mem {l : List Rx} {i : Nat} {x : Rx} (h : l[i]? = some x) : wei x ≤ weiL l := by
 induction l generalizing i with
 | nil => simp at h
 | cons a l ih =>
  cases i with
  | zero => simp at h; subst h; rw [weiL]; omega
  | succ i => have := ih (i := i) (by simpa using h); rw [weiL]; omega
mutual
def NodeAt (M : MH) : Rx → Nat → Nat → Prop
 | .mk op a b c d kids, id, off => ∃ t kv, M.get id = some (.cs false 6 t) ∧ id < M.n ∧ At t off [.i .i64 op, .i .u64 a, .i .u64 b, .i .u64 c, .i .u64 d, kv] ∧ isSl kv = true ∧ slen kv = kids.length ∧ NodesAt M kids (sid kv) (soff kv)
def NodesAt (M : MH) : List Rx → Nat → Nat → Prop
 | [], _, _ => True
 | x :: r, id, off => NodeAt M x id off ∧ NodesAt M r id (off + 6)
end
structure Sub (M M' : MH) : Prop where
 n : M.n ≤ M'.n
 old : ∀ id, id < M.n → M'.get id = M.get id
theorem Ext.sub {M M' : MH} (k : Ext M M') : Sub M M' := ⟨k.n, k.old⟩
theorem Sub.lift (M : MH) : Sub M M.lift := ⟨Nat.le_refl _, fun _ _ => rfl⟩
theorem Sub.down (M : MH) (lo : Nat) : Sub M (M.down lo) := ⟨Nat.le_refl _, fun _ _ => rfl⟩
theorem Sub.trans {a b c : MH} (h : Sub a b) (k : Sub b c) : Sub a c := ⟨Nat.le_trans h.n k.n, fun j hj => (k.old j (Nat.lt_of_lt_of_le hj h.n)).trans (h.old j hj)⟩
theorem Sub.ext {a b : MH} (h : Sub a b) (e : b.lo = a.lo) : Ext a b := ⟨h.n, e, h.old⟩
theorem RowAt.sub {M M' : MH} {sz : Nat} {v : MV} {es : List (List MV)} (h : RowAt M sz v es) (k : Sub M M') : RowAt M' sz v es := by
 obtain ⟨hs, h | ⟨id, off, e, ro, s, c, h1, h2, h3, h4⟩⟩ := h
 ·exact ⟨hs, .inl h⟩
 ·exact ⟨hs, .inr ⟨id, off, e, ro, s, c, h1, (k.old id h3).trans h2, Nat.lt_of_lt_of_le h3 k.n, h4⟩⟩
mutual
theorem NodeAt.sub {M M' : MH} (k : Sub M M') : ∀ {x : Rx} {id off : Nat}, NodeAt M x id off → NodeAt M' x id off
 | .mk op a b c d kids, id, off, h => by
  unfold NodeAt at h ⊢
  obtain ⟨t, kv, h1, h2, h3, h4, h5, h6⟩ := h
  exact ⟨t, kv, (k.old id h2).trans h1, Nat.lt_of_lt_of_le h2 k.n, h3, h4, h5, NodesAt.sub k h6⟩
theorem NodesAt.sub {M M' : MH} (k : Sub M M') : ∀ {l : List Rx} {id off : Nat}, NodesAt M l id off → NodesAt M' l id off
 | [], id, off, h => trivial
 | x :: r, id, off, h => by
  unfold NodesAt at h ⊢
  exact ⟨NodeAt.sub k h.1, NodesAt.sub k h.2⟩
end
theorem NodesAt.ext {M M' : MH} (k : Ext M M') {l : List Rx} {id off : Nat} (h : NodesAt M l id off) : NodesAt M' l id off := NodesAt.sub k.sub h
theorem NodesAt.get {M : MH} : ∀ {l : List Rx} {id off i : Nat} {x : Rx}, NodesAt M l id off → l[i]? = some x → NodeAt M x id (off + i * 6)
 | [], id, off, i, x, h, hi => by simp at hi
 | a :: l, id, off, 0, x, h, hi => by
  unfold NodesAt at h
  simp at hi; subst hi; simpa using h.1
 | a :: l, id, off, i + 1, x, h, hi => by
  unfold NodesAt at h
  have := NodesAt.get (i := i) (x := x) h.2 (by simpa using hi)
  rwa [show off + 6 + i * 6 = off + (i + 1) * 6 from by omega] at this

end Go.Proofs.Ythklpecigkdkiaa.Ev
set_option linter.unusedSimpArgs false
set_option linter.unusedVariables false
namespace Go.Proofs.Ythklpecigkdkiaa.Ev
open Go
noncomputable def idK {α : Type} (h : T α) (id : Nat) : Option α := h.get (path id)
noncomputable def mkT (l : List (Nat × IFn)) : T IFn := List.rec (motive := fun _ => T IFn) .lf (fun x _ ih => T.set (path x.1) (some x.2) ih) l
theorem mkT_get : ∀ (l : List (Nat × IFn)) (g : Nat) (fn : IFn), (mkT l).get (path g) = some fn → (g, fn) ∈ l
 | [], g, fn, h => by cases (T.get_lf (α := IFn) (path g)).symm.trans h
 | (n, F) :: l, g, fn, h => by
  have e : mkT ((n, F) :: l) = T.set (path n) (some F) (mkT l) := rfl
  rw [e, T.get_set] at h
  by_cases hp : path n = path g
  ·rw [if_pos hp] at h
   injection h with h
   rw [← h, path_inj hp]
   exact List.mem_cons_self
  ·rw [if_neg hp] at h
   exact List.mem_cons_of_mem _ (mkT_get l g fn h)
theorem fits_of {P : Program} {l : List (Nat × IFn)} {t : T IFn} (ht : t = mkT l) (h : ∀ x ∈ l, FitsF P x.1 x.2) : ∀ g fn, idK t g = some fn → FitsF P g fn := fun g fn e => by
 subst ht
 unfold idK at e
 exact h (g, fn) (mkT_get l g fn e)
def q0 : Ky := .k1 .d0
def q1 : Ky := .k1 .d1
def q2 : Ky := .k1 .d2
def q3 : Ky := .k1 .d3
def q4 : Ky := .k1 .d4
def q5 : Ky := .k1 .d5
def q6 : Ky := .k1 .d6
def q7 : Ky := .k1 .d7
def q8 : Ky := .k1 .d8
def q9 : Ky := .k1 .d9
def q10 : Ky := .k1 .d10
def q11 : Ky := .k1 .d11
def q12 : Ky := .k1 .d12
def q13 : Ky := .k1 .d13
def q14 : Ky := .k1 .d14
def q15 : Ky := .k1 .d15
def q16 : Ky := .k2 .d1 .d0
def q17 : Ky := .k2 .d1 .d1
def q18 : Ky := .k2 .d1 .d2
def q19 : Ky := .k2 .d1 .d3
def q20 : Ky := .k2 .d1 .d4
def q21 : Ky := .k2 .d1 .d5
def q22 : Ky := .k2 .d1 .d6
def q23 : Ky := .k2 .d1 .d7
def q24 : Ky := .k2 .d1 .d8
def q25 : Ky := .k2 .d1 .d9
def q26 : Ky := .k2 .d1 .d10
def q27 : Ky := .k2 .d1 .d11
def q28 : Ky := .k2 .d1 .d12
def q29 : Ky := .k2 .d1 .d13
def q30 : Ky := .k2 .d1 .d14
def q31 : Ky := .k2 .d1 .d15
def q32 : Ky := .k2 .d2 .d0
def q33 : Ky := .k2 .d2 .d1
def q34 : Ky := .k2 .d2 .d2
def q35 : Ky := .k2 .d2 .d3
def q36 : Ky := .k2 .d2 .d4
def q37 : Ky := .k2 .d2 .d5
def q38 : Ky := .k2 .d2 .d6
def q39 : Ky := .k2 .d2 .d7
def q40 : Ky := .k2 .d2 .d8
def q41 : Ky := .k2 .d2 .d9
def q42 : Ky := .k2 .d2 .d10
def q43 : Ky := .k2 .d2 .d11
def q44 : Ky := .k2 .d2 .d12
def q45 : Ky := .k2 .d2 .d13
def q46 : Ky := .k2 .d2 .d14
def q47 : Ky := .k2 .d2 .d15
def q48 : Ky := .k2 .d3 .d0
def q49 : Ky := .k2 .d3 .d1
def q50 : Ky := .k2 .d3 .d2
def q51 : Ky := .k2 .d3 .d3
def q52 : Ky := .k2 .d3 .d4
def q53 : Ky := .k2 .d3 .d5
def q54 : Ky := .k2 .d3 .d6
def q55 : Ky := .k2 .d3 .d7
def q56 : Ky := .k2 .d3 .d8
def q57 : Ky := .k2 .d3 .d9
def q58 : Ky := .k2 .d3 .d10
def q59 : Ky := .k2 .d3 .d11
def q60 : Ky := .k2 .d3 .d12
def q61 : Ky := .k2 .d3 .d13
def q62 : Ky := .k2 .d3 .d14
def q63 : Ky := .k2 .d3 .d15
def q64 : Ky := .k2 .d4 .d0
def q65 : Ky := .k2 .d4 .d1
def q66 : Ky := .k2 .d4 .d2
def q67 : Ky := .k2 .d4 .d3
def q68 : Ky := .k2 .d4 .d4
def q69 : Ky := .k2 .d4 .d5
def q70 : Ky := .k2 .d4 .d6
def q71 : Ky := .k2 .d4 .d7
def q72 : Ky := .k2 .d4 .d8
def q73 : Ky := .k2 .d4 .d9
def q74 : Ky := .k2 .d4 .d10
def q75 : Ky := .k2 .d4 .d11
def q76 : Ky := .k2 .d4 .d12
def q77 : Ky := .k2 .d4 .d13
def q78 : Ky := .k2 .d4 .d14
def q79 : Ky := .k2 .d4 .d15
def q80 : Ky := .k2 .d5 .d0
def q81 : Ky := .k2 .d5 .d1
def q82 : Ky := .k2 .d5 .d2
def q83 : Ky := .k2 .d5 .d3
def q84 : Ky := .k2 .d5 .d4
def q85 : Ky := .k2 .d5 .d5
def q86 : Ky := .k2 .d5 .d6
def q87 : Ky := .k2 .d5 .d7
def q88 : Ky := .k2 .d5 .d8
def q89 : Ky := .k2 .d5 .d9
def q90 : Ky := .k2 .d5 .d10
def q91 : Ky := .k2 .d5 .d11
def q92 : Ky := .k2 .d5 .d12
def q93 : Ky := .k2 .d5 .d13
def q94 : Ky := .k2 .d5 .d14
def q95 : Ky := .k2 .d5 .d15
def q96 : Ky := .k2 .d6 .d0
def q97 : Ky := .k2 .d6 .d1
def q98 : Ky := .k2 .d6 .d2
def q99 : Ky := .k2 .d6 .d3
def q100 : Ky := .k2 .d6 .d4
def q101 : Ky := .k2 .d6 .d5
def q102 : Ky := .k2 .d6 .d6
def q103 : Ky := .k2 .d6 .d7
def q104 : Ky := .k2 .d6 .d8
def q105 : Ky := .k2 .d6 .d9
def q106 : Ky := .k2 .d6 .d10
def q107 : Ky := .k2 .d6 .d11
def q108 : Ky := .k2 .d6 .d12
def q109 : Ky := .k2 .d6 .d13
def q110 : Ky := .k2 .d6 .d14
def q111 : Ky := .k2 .d6 .d15
def q112 : Ky := .k2 .d7 .d0
def q113 : Ky := .k2 .d7 .d1
def q114 : Ky := .k2 .d7 .d2
def q115 : Ky := .k2 .d7 .d3
def q116 : Ky := .k2 .d7 .d4
def q117 : Ky := .k2 .d7 .d5
def q118 : Ky := .k2 .d7 .d6
def q119 : Ky := .k2 .d7 .d7
def q120 : Ky := .k2 .d7 .d8
def q121 : Ky := .k2 .d7 .d9
def q122 : Ky := .k2 .d7 .d10
def q123 : Ky := .k2 .d7 .d11
def q124 : Ky := .k2 .d7 .d12
def q125 : Ky := .k2 .d7 .d13
def q126 : Ky := .k2 .d7 .d14
def q127 : Ky := .k2 .d7 .d15
def q128 : Ky := .k2 .d8 .d0
def q129 : Ky := .k2 .d8 .d1
def q130 : Ky := .k2 .d8 .d2
def q131 : Ky := .k2 .d8 .d3
def q132 : Ky := .k2 .d8 .d4
def q133 : Ky := .k2 .d8 .d5
def q134 : Ky := .k2 .d8 .d6
def q135 : Ky := .k2 .d8 .d7
def q136 : Ky := .k2 .d8 .d8
def q137 : Ky := .k2 .d8 .d9
def q138 : Ky := .k2 .d8 .d10
def q139 : Ky := .k2 .d8 .d11
def q140 : Ky := .k2 .d8 .d12
def q141 : Ky := .k2 .d8 .d13
def q142 : Ky := .k2 .d8 .d14
def q143 : Ky := .k2 .d8 .d15
def q144 : Ky := .k2 .d9 .d0
def q145 : Ky := .k2 .d9 .d1
def q146 : Ky := .k2 .d9 .d2
def q147 : Ky := .k2 .d9 .d3
def q148 : Ky := .k2 .d9 .d4
def q149 : Ky := .k2 .d9 .d5
def q150 : Ky := .k2 .d9 .d6
def q151 : Ky := .k2 .d9 .d7
def q152 : Ky := .k2 .d9 .d8
def q153 : Ky := .k2 .d9 .d9
def q154 : Ky := .k2 .d9 .d10
def q155 : Ky := .k2 .d9 .d11
def q156 : Ky := .k2 .d9 .d12
def q157 : Ky := .k2 .d9 .d13
def q158 : Ky := .k2 .d9 .d14
def q159 : Ky := .k2 .d9 .d15
def q160 : Ky := .k2 .d10 .d0
def q161 : Ky := .k2 .d10 .d1
def q162 : Ky := .k2 .d10 .d2
def q163 : Ky := .k2 .d10 .d3
def q164 : Ky := .k2 .d10 .d4
def q165 : Ky := .k2 .d10 .d5
def q166 : Ky := .k2 .d10 .d6
def q167 : Ky := .k2 .d10 .d7
def q168 : Ky := .k2 .d10 .d8
def q169 : Ky := .k2 .d10 .d9
def q170 : Ky := .k2 .d10 .d10
def q171 : Ky := .k2 .d10 .d11
def q172 : Ky := .k2 .d10 .d12
def q173 : Ky := .k2 .d10 .d13
def q174 : Ky := .k2 .d10 .d14
def q175 : Ky := .k2 .d10 .d15
def q176 : Ky := .k2 .d11 .d0
def q177 : Ky := .k2 .d11 .d1
def q178 : Ky := .k2 .d11 .d2
def q179 : Ky := .k2 .d11 .d3
def q180 : Ky := .k2 .d11 .d4
def q181 : Ky := .k2 .d11 .d5
def q182 : Ky := .k2 .d11 .d6
def q183 : Ky := .k2 .d11 .d7
def q184 : Ky := .k2 .d11 .d8
def q185 : Ky := .k2 .d11 .d9
def q186 : Ky := .k2 .d11 .d10
def q187 : Ky := .k2 .d11 .d11
def q188 : Ky := .k2 .d11 .d12
def q189 : Ky := .k2 .d11 .d13
def q190 : Ky := .k2 .d11 .d14
def q191 : Ky := .k2 .d11 .d15
def q192 : Ky := .k2 .d12 .d0
def q193 : Ky := .k2 .d12 .d1
def q194 : Ky := .k2 .d12 .d2
def q195 : Ky := .k2 .d12 .d3
def q196 : Ky := .k2 .d12 .d4
def q197 : Ky := .k2 .d12 .d5
def q198 : Ky := .k2 .d12 .d6
def q199 : Ky := .k2 .d12 .d7
def q200 : Ky := .k2 .d12 .d8
def q201 : Ky := .k2 .d12 .d9
def q202 : Ky := .k2 .d12 .d10
def q203 : Ky := .k2 .d12 .d11
def q204 : Ky := .k2 .d12 .d12
def q205 : Ky := .k2 .d12 .d13
def q206 : Ky := .k2 .d12 .d14
def q207 : Ky := .k2 .d12 .d15
def q208 : Ky := .k2 .d13 .d0
def q209 : Ky := .k2 .d13 .d1
def q210 : Ky := .k2 .d13 .d2
def q211 : Ky := .k2 .d13 .d3
def q212 : Ky := .k2 .d13 .d4
def q213 : Ky := .k2 .d13 .d5
def q214 : Ky := .k2 .d13 .d6
def q215 : Ky := .k2 .d13 .d7
def q216 : Ky := .k2 .d13 .d8
def q217 : Ky := .k2 .d13 .d9
def q218 : Ky := .k2 .d13 .d10
def q219 : Ky := .k2 .d13 .d11
def q220 : Ky := .k2 .d13 .d12
def q221 : Ky := .k2 .d13 .d13
def q222 : Ky := .k2 .d13 .d14
def q223 : Ky := .k2 .d13 .d15
def q224 : Ky := .k2 .d14 .d0
def q225 : Ky := .k2 .d14 .d1
def q226 : Ky := .k2 .d14 .d2
def q227 : Ky := .k2 .d14 .d3
def q228 : Ky := .k2 .d14 .d4
def q229 : Ky := .k2 .d14 .d5
end Go.Proofs.Ythklpecigkdkiaa.Ev
set_option maxRecDepth 100000
namespace Go.Proofs.Ythklpecigkdkiaa.K
open Go Ev
abbrev oO (d : Ky) (i : Iop) : IOper := ⟨some d, none, i⟩
abbrev oM (d s : Ky) : IOper := ⟨some d, none, .mov (.t s)⟩
abbrev oG (d c : Ky) (b : Bool) (i : Iop) : IOper := ⟨some d, some (c, b), i⟩
def K6_0 : IC := .reg [oM q92 q10, oO q93 (.ldN 5 (.t q15)), oO q94 (.bsl 5 1 [.nils, .b false, .nils, .nils, .nils] [(0, 5, .t q93)]), oO q95 (.app 5 104 (.t q92) (.t q94)), oM q10 q95]
def K6_1 : IC := .seq (.reg [oO q86 (.ldN 6 (.t q12)), oO q87 (.call 15 [.t q86]), oM q85 q87, oO q88 (.ext (.t q85) 0), oO q89 (.ext (.t q85) 1), oO q15 (.new [.nils, .b false, .nils, .nils, .nils]), ⟨none, none, .st 5 (.t q15) (.t q88)⟩, oM q16 q89]) (.seq (.seq (.reg [oM q90 q16, oO q91 (.binI .neq (.t q90) (.c (.i .i64 0)))]) (.cond (.t q91) (.seq (.reg [oO q8 (.mov (.c (.b true)))]) .ret) .skip)) K6_0)
def K6_2 : IC := .reg [oM q64 q11, oO q65 (.binI .add (.t q64) (.c (.i .i64 1))), oM q11 q65]
def K6_3 : IC := .seq (.block 1 (.seq (.reg [oM q67 q0, oM q68 q11, oO q69 (.ixS 1 (.t q67) (.t q68)), oO q70 (.ld1 (.t q69)), oO q71 (.call 8 [.t q70]), oM q66 q71, oO q72 (.ext (.t q66) 0), oO q73 (.ext (.t q66) 1), oO q74 (.ext (.t q66) 2), oO q12 (.new [.i .i64 0, .i .u64 0, .i .u64 0, .i .u64 0, .i .u64 0, .nils]), ⟨none, none, .st 6 (.t q12) (.t q72)⟩, oM q13 q73, oM q14 q74]) (.seq (.seq (.reg [oM q75 q14, oO q76 (.binI .neq (.t q75) (.c (.i .i64 0))), oM q77 q76, oG q78 q77 false (.mov (.t q0)), oG q79 q77 false (.mov (.t q11)), oG q80 q77 false (.ixS 1 (.t q78) (.t q79)), oG q81 q77 false (.ld1 (.t q80)), oG q82 q77 false (.lenT (.t q81)), oG q83 q77 false (.binI .gtr (.t q82) (.c (.i .i64 40))), oO q84 (.pick (.t q77) (.c (.b true)) (.t q83))]) (.cond (.t q84) (.seq (.reg [oO q8 (.mov (.c (.b true)))]) .ret) .skip)) K6_1))) K6_2
def L6_4 : IC := .seq (.seq (.reg [oM q60 q11, oM q61 q0, oO q62 (.len (.t q61)), oO q63 (.binI .lss (.t q60) (.t q62))]) (.cond (.t q63) .skip (.exit 0))) K6_3
def K6_5 : IC := .cond (.t q135) (.seq (.reg [oM q136 q26, oM q23 q136]) (.reg [oM q137 q25, oM q138 q3, oO q139 (.binI .sub (.t q137) (.t q138)), oM q24 q139])) .skip
def K6_6 : IC := .reg [oM q125 q26, oO q126 (.binI .sub (.t q125) (.c (.i .i64 1))), oM q26 q126]
def K6_7 : IC := .seq (.block 5 (.seq (.dreg 0 [(oM q127 q10, .pu), (oM q128 q26, .pu), (oO q129 (.ixS 5 (.t q127) (.t q128)), .pu), (oO q130 (.ldN 5 (.t q129)), .rd 0), (oM q131 q1, .pu), (oM q132 q3, .pu), (oM q133 q25, .pu), (oO q134 (.cut 1 (.t q131) (some (.t q132)) (some (.t q133))), .pu)] [oO q135 (.call 18 [.t q130, .t q134])] []) K6_5)) K6_6
def L6_8 : IC := .seq (.seq (.reg [oM q123 q26, oO q124 (.binI .geq (.t q123) (.c (.i .i64 0)))]) (.cond (.t q124) .skip (.exit 4))) K6_7
def K6_9 : IC := .reg [oM q118 q25, oO q119 (.binI .add (.t q118) (.c (.i .i64 1))), oM q25 q119]
def K6_10 : IC := .seq (.block 3 (.seq (.reg [oM q120 q10, oO q121 (.len (.t q120)), oO q122 (.binI .sub (.t q121) (.c (.i .i64 1))), oM q26 q122]) (.block 4 (.loop L6_8)))) K6_9
def L6_11 : IC := .seq (.seq (.reg [oM q114 q25, oM q115 q1, oO q116 (.len (.t q115)), oO q117 (.binI .leq (.t q114) (.t q116))]) (.cond (.t q117) .skip (.exit 2))) K6_10
def K6_12 : IC := .seq (.reg [oM q168 q1, oM q169 q3, oM q170 q22, oO q171 (.binI .add (.t q169) (.t q170)), oO q172 (.cut 1 (.t q168) none (some (.t q171))), oO q173 (.app 1 1 (.c .nils) (.t q172)), oM q174 q2, oO q175 (.app 1 1 (.t q173) (.t q174)), oM q27 q175]) (.seq (.reg [oO q177 (.ldN 2 (.t q17)), oM q178 q27, oM q179 q3, oO q180 (.call 17 [.t q177, .t q178, .t q179]), oM q176 q180, oO q181 (.ext (.t q176) 0), oO q182 (.ext (.t q176) 1), oO q183 (.ext (.t q176) 2), oM q28 q181, oM q29 q182, oM q30 q183]) (.seq (.reg [oM q184 q28, oM q185 q20, oO q186 (.binI .eql (.t q184) (.t q185)), oM q187 q186, oG q188 q187 true (.mov (.t q29)), oG q189 q187 true (.mov (.t q21)), oG q190 q187 true (.binI .eql (.t q188) (.t q189)), oO q191 (.pick (.t q187) (.t q190) (.c (.b false))), oM q192 q191, oG q193 q192 true (.mov (.t q30)), oG q194 q192 true (.mov (.t q22)), oG q195 q192 true (.binI .eql (.t q193) (.t q194)), oO q196 (.pick (.t q192) (.t q195) (.c (.b false))), oM q8 q196]) .ret))
def K6_13 : IC := .seq (.seq (.reg [oM q162 q22, oM q163 q1, oO q164 (.len (.t q163)), oM q165 q3, oO q166 (.binI .sub (.t q164) (.t q165)), oO q167 (.binI .gtr (.t q162) (.t q166))]) (.cond (.t q167) (.seq (.reg [oO q8 (.mov (.c (.b true)))]) .ret) .skip)) K6_12
def K6_14 : IC := .seq (.seq (.reg [oM q140 q20, oM q141 q23, oO q142 (.binI .neq (.t q140) (.t q141)), oM q143 q142, oG q144 q143 false (.mov (.t q21)), oG q145 q143 false (.mov (.t q24)), oG q146 q143 false (.binI .neq (.t q144) (.t q145)), oO q147 (.pick (.t q143) (.c (.b true)) (.t q146)), oM q148 q147, oG q149 q148 false (.mov (.t q22)), oG q150 q148 false (.mov (.t q21)), oG q151 q148 false (.binI .lss (.t q149) (.t q150)), oO q152 (.pick (.t q148) (.c (.b true)) (.t q151)), oM q153 q152, oG q154 q153 false (.mov (.t q22)), oG q155 q153 false (.mov (.t q1)), oG q156 q153 false (.len (.t q155)), oG q157 q153 false (.mov (.t q3)), oG q158 q153 false (.binI .sub (.t q156) (.t q157)), oG q159 q153 false (.binI .add (.t q158) (.c (.i .i64 1))), oG q160 q153 false (.binI .gtr (.t q154) (.t q159)), oO q161 (.pick (.t q153) (.c (.b true)) (.t q160))]) (.cond (.t q161) (.seq (.reg [oO q8 (.mov (.c (.b false)))]) .ret) .skip)) K6_13
def K6_15 : IC := .seq (.reg [oO q105 (.ldN 2 (.t q17)), oM q106 q1, oM q107 q3, oO q108 (.call 17 [.t q105, .t q106, .t q107]), oM q104 q108, oO q109 (.ext (.t q104) 0), oO q110 (.ext (.t q104) 1), oO q111 (.ext (.t q104) 2), oM q20 q109, oM q21 q110, oM q22 q111]) (.seq (.reg [oO q23 (.mov (.c (.i .i64 (.negSucc 0))))]) (.seq (.reg [oO q24 (.mov (.c (.i .i64 0)))]) (.seq (.seq (.reg [oM q112 q3, oO q113 (.binI .add (.t q112) (.c (.i .i64 1))), oM q25 q113]) (.block 2 (.loop L6_11))) K6_14)))
def K6_16 : IC := .seq (.reg [oM q97 q10, oO q98 (.call 16 [.t q97]), oM q96 q98, oO q99 (.ext (.t q96) 0), oO q100 (.ext (.t q96) 1), oO q101 (.ext (.t q96) 2), oO q17 (.new [.nils, .nils]), ⟨none, none, .st 2 (.t q17) (.t q99)⟩, oM q18 q100, oM q19 q101]) (.seq (.seq (.reg [oM q102 q19, oO q103 (.un .not (.t q102))]) (.cond (.t q103) (.seq (.reg [oO q8 (.mov (.c (.b true)))]) .ret) .skip)) K6_15)
def K6_17 : IC := .seq (.reg [oO q10 (.mov (.c .nils))]) (.seq (.seq (.reg [oO q11 (.mov (.c (.i .i64 0)))]) (.block 0 (.loop L6_4))) K6_16)
def B6 : IC := .seq (.reg [oO q8 (.mov (.c (.b false)))]) (.seq (.reg [oO q31 (.call 14 []), oM q9 q31]) (.seq (.seq (.reg [oM q32 q9, oO q33 (.un .not (.t q32)), oM q34 q33, oG q35 q34 false (.mov (.t q0)), oG q36 q34 false (.len (.t q35)), oG q37 q34 false (.binI .gtr (.t q36) (.c (.i .i64 6))), oO q38 (.pick (.t q34) (.c (.b true)) (.t q37)), oM q39 q38, oG q40 q39 false (.mov (.t q1)), oG q41 q39 false (.len (.t q40)), oG q42 q39 false (.binI .gtr (.t q41) (.c (.i .i64 60))), oO q43 (.pick (.t q39) (.c (.b true)) (.t q42)), oM q44 q43, oG q45 q44 false (.mov (.t q2)), oG q46 q44 false (.len (.t q45)), oG q47 q44 false (.binI .gtr (.t q46) (.c (.i .i64 60))), oO q48 (.pick (.t q44) (.c (.b true)) (.t q47)), oM q49 q48, oG q50 q49 false (.mov (.t q3)), oG q51 q49 false (.binI .lss (.t q50) (.c (.i .i64 0))), oO q52 (.pick (.t q49) (.c (.b true)) (.t q51)), oM q53 q52, oG q54 q53 false (.mov (.t q3)), oG q55 q53 false (.mov (.t q1)), oG q56 q53 false (.len (.t q55)), oG q57 q53 false (.binI .gtr (.t q54) (.t q56)), oO q58 (.pick (.t q53) (.c (.b true)) (.t q57))]) (.cond (.t q58) (.seq (.reg [oM q59 q9, oM q8 q59]) .ret) .skip)) K6_17))
def F6 : IFn := ⟨197, [.tmp q8], B6⟩
theorem R6 : F6.res = [.tmp q8] := rfl
theorem fits6 : FitsF Try.prog 6 F6 := cmpF_fits (pol := fun _ => false) Try.func6 (by kernel_rfl)
def K8_0 : IC := .seq (.reg [oO q46 (.ldN 6 (.t q6)), oM q47 q0, oO q48 (.lenT (.t q47)), ⟨none, none, .st 6 (.t q2) (.t q46)⟩, oM q3 q48, oO q4 (.mov (.c (.i .i64 0)))]) .ret
def K8_1 : IC := .seq (.seq (.reg [oM q32 q5, oO q33 (.nck (.t q32)), oO q34 (.fa 2 (.t q33)), oO q35 (.ld1 (.t q34)), oO q36 (.binI .neq (.t q35) (.c (.i .i64 0)))]) (.cond (.t q36) (.seq (.dreg 0 [(oO q37 (.build [.i .i64 0, .i .u64 0, .i .u64 0, .i .u64 0, .i .u64 0, .nils] []), .pu), (oM q38 q5, .pu), (oO q39 (.nck (.t q38)), .pu), (oO q40 (.fa 3 (.t q39)), .pu), (oO q41 (.ld1 (.t q40)), .rd 0), (oM q42 q5, .pu), (oO q43 (.nck (.t q42)), .pu), (oO q44 (.fa 2 (.t q43)), .pu), (oO q45 (.ld1 (.t q44)), .rd 0), (⟨none, none, .st 6 (.t q2) (.t q37)⟩, .md), (oM q3 q41, .pu)] [oM q4 q45] [(9, 4), (9, 8)]) .ret) .skip)) K8_0
def K8_2 : IC := .seq (.reg [oM q11 q0, oO q12 (.build [.s (ByteArray.mk (Array.mk [])), .i .i64 0, .i .i64 0, .i .i64 0] [(0, 1, .t q11)]), oO q13 (.box (.t q12)), oM q5 q13]) (.seq (.reg [oM q14 q5, oO q15 (.call 19 [.t q14, .c (.i .i64 0)]), oO q6 (.new [.i .i64 0, .i .u64 0, .i .u64 0, .i .u64 0, .i .u64 0, .nils]), ⟨none, none, .st 6 (.t q6) (.t q15)⟩]) (.seq (.seq (.reg [oM q16 q5, oO q17 (.nck (.t q16)), oO q18 (.fa 2 (.t q17)), oO q19 (.ld1 (.t q18)), oO q20 (.binI .eql (.t q19) (.c (.i .i64 0))), oM q21 q20, oG q22 q21 true (.mov (.t q5)), oG q23 q21 true (.call 20 [.t q22]), oG q24 q21 true (.un .not (.t q23)), oO q25 (.pick (.t q21) (.t q24) (.c (.b false)))]) (.cond (.t q25) (.reg [oM q26 q5, oM q27 q5, oO q28 (.nck (.t q27)), oO q29 (.fa 1 (.t q28)), oO q30 (.ld1 (.t q29)), oO q31 (.call 21 [.t q26, .c (.i .i64 2), .t q30])]) .skip)) K8_1))
def B8 : IC := .seq (.reg [oO q2 (.new [.i .i64 0, .i .u64 0, .i .u64 0, .i .u64 0, .i .u64 0, .nils]), oO q3 (.mov (.c (.i .i64 0))), oO q4 (.mov (.c (.i .i64 0)))]) (.seq (.seq (.reg [oM q7 q0, oO q8 (.lenT (.t q7)), oO q9 (.binI .gtr (.t q8) (.c (.i .i64 200)))]) (.cond (.t q9) (.seq (.reg [oO q10 (.build [.i .i64 0, .i .u64 0, .i .u64 0, .i .u64 0, .i .u64 0, .nils] []), ⟨none, none, .st 6 (.t q2) (.t q10)⟩, oO q3 (.mov (.c (.i .i64 0))), oO q4 (.mov (.c (.i .i64 3)))]) .ret) .skip)) K8_2)
def F8 : IFn := ⟨49, [.cN q2 6, .tmp q3, .tmp q4], B8⟩
theorem R8 : F8.res = [.cN q2 6, .tmp q3, .tmp q4] := rfl
theorem fits8 : FitsF Try.prog 8 F8 := cmpF_fits (pol := fun _ => false) Try.func8 (by kernel_rfl)
def K14_0 : IC := .reg [oM q18 q5, oO q19 (.binI .add (.t q18) (.c (.i .i64 1))), oM q5 q19]
def K14_1 : IC := .seq (.block 1 (.reg [oM q20 q4, oM q21 q5, oO q22 (.ixS 1 (.t q20) (.t q21)), ⟨none, none, .st 1 (.t q22) (.c (.i .i64 (.negSucc 0)))⟩])) K14_0
def L14_2 : IC := .seq (.seq (.reg [oM q16 q5, oO q17 (.binI .lss (.t q16) (.c (.i .i64 256)))]) (.cond (.t q17) .skip (.exit 0))) K14_1
def K14_3 : IC := .seq (.reg [oM q23 q4, oO q24 (.ixS 1 (.t q23) (.c (.i .i64 97))), ⟨none, none, .st 1 (.t q24) (.c (.i .i64 0))⟩]) (.seq (.reg [oM q26 q4, oO q27 (.bsl 1 1 [.nils] [(0, 1, .t q26)]), oO q28 (.bsl 1 1 [.i .i64 0] [(0, 1, .c (.i .i64 3))]), oO q29 (.build [.nils, .nils] [(0, 1, .t q27), (1, 1, .t q28)]), oO q30 (.bsl 1 3 [.i .u8 0] [(0, 1, .c (.i .u8 97)), (1, 1, .c (.i .u8 97)), (2, 1, .c (.i .u8 98))]), oO q31 (.cvS (.t q30)), oO q32 (.call 17 [.t q29, .t q31, .c (.i .i64 0)]), oM q25 q32, oO q33 (.ext (.t q25) 0), oO q34 (.ext (.t q25) 1), oO q35 (.ext (.t q25) 2), oM q6 q33, oM q7 q34, oM q8 q35]) (.seq (.reg [oM q36 q1, oO q37 (.binI .eql (.t q36) (.c (.i .i64 (.negSucc 0)))), oM q38 q37, oG q39 q38 true (.mov (.t q2)), oG q40 q38 true (.binI .eql (.t q39) (.c (.i .i64 0))), oO q41 (.pick (.t q38) (.t q40) (.c (.b false))), oM q42 q41, oG q43 q42 true (.mov (.t q3)), oG q44 q42 true (.binI .eql (.t q43) (.c (.i .i64 1))), oO q45 (.pick (.t q42) (.t q44) (.c (.b false))), oM q46 q45, oG q47 q46 true (.mov (.t q6)), oG q48 q46 true (.binI .eql (.t q47) (.c (.i .i64 3))), oO q49 (.pick (.t q46) (.t q48) (.c (.b false))), oM q50 q49, oG q51 q50 true (.mov (.t q7)), oG q52 q50 true (.binI .eql (.t q51) (.c (.i .i64 2))), oO q53 (.pick (.t q50) (.t q52) (.c (.b false))), oM q54 q53, oG q55 q54 true (.mov (.t q8)), oG q56 q54 true (.binI .eql (.t q55) (.c (.i .i64 3))), oO q57 (.pick (.t q54) (.t q56) (.c (.b false))), oM q0 q57]) .ret))
def B14 : IC := .seq (.reg [oO q0 (.mov (.c (.b false)))]) (.seq (.reg [oO q10 (.build [.nils, .nils] []), oO q11 (.call 17 [.t q10, .c .nils, .c (.i .i64 0)]), oM q9 q11, oO q12 (.ext (.t q9) 0), oO q13 (.ext (.t q9) 1), oO q14 (.ext (.t q9) 2), oM q1 q12, oM q2 q13, oM q3 q14]) (.seq (.reg [oO q15 (.mks 1 8 [.i .i64 0] (.c (.i .i64 256)) (.c (.i .i64 256))), oM q4 q15]) (.seq (.seq (.reg [oO q5 (.mov (.c (.i .i64 0)))]) (.block 0 (.loop L14_2))) K14_3)))
def F14 : IFn := ⟨58, [.tmp q0], B14⟩
theorem fits14 : FitsF Try.prog 14 F14 := cmpF_fits (pol := fun _ => false) Try.func14 (by kernel_rfl)
def K15_0 : IC := .seq (.reg [oO q14 (.build [.nils, .b false, .nils, .nils, .nils] []), oO q15 (.box (.t q14)), oM q4 q15]) (.seq (.reg [oM q16 q4, oO q17 (.ldN 6 (.t q1)), oO q18 (.call 32 [.t q16, .t q17]), oO q5 (.new [.b false, .nils, .nils]), ⟨none, none, .st 3 (.t q5) (.t q18)⟩]) (.seq (.reg [oM q19 q4, oO q20 (.fa 0 (.t q5)), oO q21 (.ld1 (.t q20)), oO q22 (.nck (.t q19)), oO q23 (.fa 0 (.t q22)), oO q24 (.fa 1 (.t q23)), ⟨none, none, .st 1 (.t q24) (.t q21)⟩]) (.seq (.reg [oM q25 q4, oO q26 (.fa 1 (.t q5)), oO q27 (.ld1 (.t q26)), oO q28 (.nck (.t q25)), oO q29 (.fa 0 (.t q28)), oO q30 (.fa 2 (.t q29)), ⟨none, none, .st 1 (.t q30) (.t q27)⟩]) (.seq (.reg [oM q31 q4, oO q32 (.fa 2 (.t q5)), oO q33 (.ld1 (.t q32)), oO q34 (.nck (.t q31)), oO q35 (.fa 0 (.t q34)), oO q36 (.fa 3 (.t q35)), ⟨none, none, .st 1 (.t q36) (.t q33)⟩]) (.seq (.reg [oM q37 q4, oO q38 (.nck (.t q37)), oO q39 (.fa 0 (.t q38)), oO q40 (.ldN 5 (.t q39)), ⟨none, none, .st 5 (.t q2) (.t q40)⟩, oO q3 (.mov (.c (.i .i64 0)))]) .ret)))))
def K15_1 : IC := .seq (.seq (.reg [oO q10 (.ldN 6 (.t q1)), oO q11 (.call 31 [.t q10]), oO q12 (.binI .gtr (.t q11) (.c (.i .i64 200)))]) (.cond (.t q12) (.seq (.reg [oO q13 (.build [.nils, .b false, .nils, .nils, .nils] []), ⟨none, none, .st 5 (.t q2) (.t q13)⟩, oO q3 (.mov (.c (.i .i64 4)))]) .ret) .skip)) K15_0
def B15 : IC := .seq (.reg [oO q1 (.box (.t q0)), oO q2 (.new [.nils, .b false, .nils, .nils, .nils]), oO q3 (.mov (.c (.i .i64 0)))]) (.seq (.seq (.reg [oO q6 (.ldN 6 (.t q1)), oO q7 (.call 30 [.t q6]), oO q8 (.binI .gtr (.t q7) (.c (.i .i64 150)))]) (.cond (.t q8) (.seq (.reg [oO q9 (.build [.nils, .b false, .nils, .nils, .nils] []), ⟨none, none, .st 5 (.t q2) (.t q9)⟩, oO q3 (.mov (.c (.i .i64 3)))]) .ret) .skip)) K15_1)
def F15 : IFn := ⟨41, [.cN q2 5, .tmp q3], B15⟩
theorem R15 : F15.res = [.cN q2 5, .tmp q3] := rfl
theorem fits15 : FitsF Try.prog 15 F15 := cmpF_fits (pol := fun _ => false) Try.func15 (by kernel_rfl)
def K16_0 : IC := .reg [oM q37 q8, oO q38 (.binI .add (.t q37) (.c (.i .i64 1))), oM q8 q38]
def K16_1 : IC := .seq (.block 3 (.seq (.reg [oO q39 (.fa 0 (.t q5)), oO q40 (.ld1 (.t q39)), oM q41 q7, oO q42 (.ixS 1 (.t q40) (.t q41)), oO q43 (.ld1 (.t q42)), oM q44 q8, oO q45 (.ixS 1 (.t q43) (.t q44)), oO q46 (.ld1 (.t q45)), oO q47 (.binI .geq (.t q46) (.c (.i .i64 0))), oM q48 q47, oG q49 q48 true (.mov (.t q6)), oG q50 q48 true (.fa 0 (.t q5)), oG q51 q48 true (.ld1 (.t q50)), oG q52 q48 true (.mov (.t q7)), oG q53 q48 true (.ixS 1 (.t q51) (.t q52)), oG q54 q48 true (.ld1 (.t q53)), oG q55 q48 true (.mov (.t q8)), oG q56 q48 true (.ixS 1 (.t q54) (.t q55)), oG q57 q48 true (.ld1 (.t q56)), oG q58 q48 true (.ixS 1 (.t q49) (.t q57)), oG q59 q48 true (.ld1 (.t q58)), oG q60 q48 true (.un .not (.t q59)), oO q61 (.pick (.t q48) (.t q60) (.c (.b false)))]) (.cond (.t q61) (.reg [oO q62 (.fa 0 (.t q5)), oO q63 (.ld1 (.t q62)), oM q64 q7, oO q65 (.ixS 1 (.t q63) (.t q64)), oO q66 (.ld1 (.t q65)), oM q67 q8, oO q68 (.ixS 1 (.t q66) (.t q67)), ⟨none, none, .st 1 (.t q68) (.c (.i .i64 (.negSucc 0)))⟩]) .skip))) K16_0
def L16_2 : IC := .seq (.seq (.reg [oM q35 q8, oO q36 (.binI .lss (.t q35) (.c (.i .i64 256)))]) (.cond (.t q36) .skip (.exit 2))) K16_1
def K16_3 : IC := .reg [oM q33 q7, oO q34 (.binI .add (.t q33) (.c (.i .i64 1))), oM q7 q34]
def K16_4 : IC := .seq (.block 1 (.seq (.reg [oO q8 (.mov (.c (.i .i64 0)))]) (.block 2 (.loop L16_2)))) K16_3
def L16_5 : IC := .seq (.seq (.reg [oM q28 q7, oO q29 (.fa 0 (.t q5)), oO q30 (.ld1 (.t q29)), oO q31 (.len (.t q30)), oO q32 (.binI .lss (.t q28) (.t q31))]) (.cond (.t q32) .skip (.exit 0))) K16_4
def K16_6 : IC := .cond (.t q123) (.reg [oM q124 q13, oM q125 q14, oM q126 q16, oO q127 (.ixS 1 (.t q124) (.t q125)), ⟨none, none, .st 1 (.t q127) (.t q126)⟩]) .skip
def K16_7 : IC := .reg [oM q110 q16, oO q111 (.binI .add (.t q110) (.c (.i .i64 1))), oM q16 q111]
def K16_8 : IC := .seq (.block 9 (.seq (.dreg 0 [(oM q112 q9, .pu), (oM q113 q11, .pu), (oM q114 q16, .pu), (oO q115 (.ixS 1 (.t q113) (.t q114)), .pu), (oO q116 (.ld1 (.t q115)), .rd 0), (oO q117 (.ixS 1 (.t q112) (.t q116)), .pu), (oO q118 (.ld1 (.t q117)), .rd 0), (oM q119 q9, .pu), (oM q120 q15, .pu), (oO q121 (.ixS 1 (.t q119) (.t q120)), .pu), (oO q122 (.ld1 (.t q121)), .rd 0)] [oO q123 (.binI .eql (.t q118) (.t q122))] []) K16_6)) K16_7
def L16_9 : IC := .seq (.seq (.reg [oM q99 q16, oM q100 q11, oO q101 (.len (.t q100)), oO q102 (.binI .lss (.t q99) (.t q101)), oM q103 q102, oG q104 q103 true (.mov (.t q13)), oG q105 q103 true (.mov (.t q14)), oG q106 q103 true (.ixS 1 (.t q104) (.t q105)), oG q107 q103 true (.ld1 (.t q106)), oG q108 q103 true (.binI .lss (.t q107) (.c (.i .i64 0))), oO q109 (.pick (.t q103) (.t q108) (.c (.b false)))]) (.cond (.t q109) .skip (.exit 8))) K16_8
def K16_10 : IC := .seq (.reg [oM q128 q13, oM q129 q14, oO q130 (.ixS 1 (.t q128) (.t q129)), oO q131 (.ld1 (.t q130)), oO q132 (.binI .lss (.t q131) (.c (.i .i64 0)))]) (.cond (.t q132) (.seq (.reg [oM q133 q13, oM q134 q14, oM q135 q11, oO q136 (.len (.t q135)), oO q137 (.ixS 1 (.t q133) (.t q134)), ⟨none, none, .st 1 (.t q137) (.t q136)⟩]) (.reg [oM q138 q11, oM q139 q15, oO q140 (.bsl 1 1 [.i .i64 0] [(0, 1, .t q139)]), oO q141 (.app 1 8 (.t q138) (.t q140)), oM q11 q141])) .skip)
def K16_11 : IC := .seq (.seq (.reg [oO q16 (.mov (.c (.i .i64 0)))]) (.block 8 (.loop L16_9))) K16_10
def K16_12 : IC := .seq (.seq (.reg [oM q97 q15, oO q98 (.binI .lss (.t q97) (.c (.i .i64 0)))]) (.cond (.t q98) (.exit 7) .skip)) K16_11
def K16_13 : IC := .reg [oM q81 q14, oO q82 (.binI .add (.t q81) (.c (.i .i64 1))), oM q14 q82]
def K16_14 : IC := .seq (.block 7 (.seq (.reg [oM q83 q13, oM q84 q14, oO q85 (.ixS 1 (.t q83) (.t q84)), ⟨none, none, .st 1 (.t q85) (.c (.i .i64 (.negSucc 0)))⟩]) (.seq (.dreg 0 [(oO q86 (.fa 0 (.t q5)), .pu), (oO q87 (.ld1 (.t q86)), .rd 0), (oM q88 q11, .pu), (oM q89 q12, .pu), (oO q90 (.ixS 1 (.t q88) (.t q89)), .pu), (oO q91 (.ld1 (.t q90)), .rd 0), (oO q92 (.ixS 1 (.t q87) (.t q91)), .pu), (oO q93 (.ld1 (.t q92)), .rd 0), (oM q94 q14, .pu)] [oO q95 (.ixS 1 (.t q93) (.t q94)), oO q96 (.ld1 (.t q95)), oM q15 q96] []) K16_12))) K16_13
def L16_15 : IC := .seq (.seq (.reg [oM q79 q14, oO q80 (.binI .lss (.t q79) (.c (.i .i64 256)))]) (.cond (.t q80) .skip (.exit 6))) K16_14
def K16_16 : IC := .seq (.reg [oO q142 (.fa 0 (.t q10)), oO q143 (.ld1 (.t q142)), oM q144 q13, oO q145 (.bsl 1 1 [.nils] [(0, 1, .t q144)]), oO q146 (.app 1 24 (.t q143) (.t q145)), oO q147 (.fa 0 (.t q10)), ⟨none, none, .st 1 (.t q147) (.t q146)⟩]) (.dreg 0 [(oO q148 (.fa 1 (.t q10)), .pu), (oO q149 (.ld1 (.t q148)), .rd 0), (oO q150 (.fa 1 (.t q5)), .pu), (oO q151 (.ld1 (.t q150)), .rd 0), (oM q152 q11, .pu), (oM q153 q12, .pu), (oO q154 (.ixS 1 (.t q152) (.t q153)), .pu), (oO q155 (.ld1 (.t q154)), .rd 0), (oO q156 (.ixS 1 (.t q151) (.t q155)), .pu), (oO q157 (.ld1 (.t q156)), .rd 0), (oO q158 (.bsl 1 1 [.i .i64 0] [(0, 1, .t q157)]), .ad)] [oO q159 (.app 1 8 (.t q149) (.t q158)), oO q160 (.fa 1 (.t q10)), ⟨none, none, .st 1 (.t q160) (.t q159)⟩] [])
def K16_17 : IC := .reg [oM q76 q12, oO q77 (.binI .add (.t q76) (.c (.i .i64 1))), oM q12 q77]
def K16_18 : IC := .seq (.block 5 (.seq (.reg [oO q78 (.mks 1 8 [.i .i64 0] (.c (.i .i64 256)) (.c (.i .i64 256))), oM q13 q78]) (.seq (.seq (.reg [oO q14 (.mov (.c (.i .i64 0)))]) (.block 6 (.loop L16_15))) K16_16))) K16_17
def L16_19 : IC := .seq (.seq (.reg [oM q72 q12, oM q73 q11, oO q74 (.len (.t q73)), oO q75 (.binI .lss (.t q72) (.t q74))]) (.cond (.t q75) .skip (.exit 4))) K16_18
def K16_20 : IC := .seq (.reg [oO q161 (.ldN 2 (.t q10)), ⟨none, none, .st 2 (.t q2) (.t q161)⟩, oO q3 (.mov (.c (.i .i64 0))), oO q4 (.mov (.c (.b true)))]) .ret
def K16_21 : IC := .seq (.reg [oO q69 (.ldN 3 (.t q5)), oO q70 (.call 35 [.t q69]), oM q9 q70]) (.seq (.reg [oO q10 (.new [.nils, .nils])]) (.seq (.reg [oO q71 (.bsl 1 1 [.i .i64 0] [(0, 1, .c (.i .i64 0))]), oM q11 q71]) (.seq (.seq (.reg [oO q12 (.mov (.c (.i .i64 0)))]) (.block 4 (.loop L16_19))) K16_20)))
def K16_22 : IC := .seq (.reg [oO q26 (.ldN 3 (.t q5)), oO q27 (.call 34 [.t q26]), oM q6 q27]) (.seq (.seq (.reg [oO q7 (.mov (.c (.i .i64 0)))]) (.block 0 (.loop L16_5))) K16_21)
def K16_23 : IC := .seq (.reg [oM q21 q0, oO q22 (.call 33 [.t q21]), oO q5 (.new [.nils, .nils, .b false]), ⟨none, none, .st 3 (.t q5) (.t q22)⟩]) (.seq (.seq (.reg [oO q23 (.fa 2 (.t q5)), oO q24 (.ld1 (.t q23))]) (.cond (.t q24) (.seq (.reg [oO q25 (.build [.nils, .nils] []), ⟨none, none, .st 2 (.t q2) (.t q25)⟩, oO q3 (.mov (.c (.i .i64 0))), oO q4 (.mov (.c (.b false)))]) .ret) .skip)) K16_22)
def B16 : IC := .seq (.reg [oO q2 (.new [.nils, .nils]), oO q3 (.mov (.c (.i .i64 0))), oO q4 (.mov (.c (.b false)))]) (.seq (.seq (.reg [oM q17 q0, oO q18 (.len (.t q17)), oO q19 (.binI .gtr (.t q18) (.c (.i .i64 40)))]) (.cond (.t q19) (.seq (.reg [oO q20 (.build [.nils, .nils] []), ⟨none, none, .st 2 (.t q2) (.t q20)⟩, oO q3 (.mov (.c (.i .i64 3))), oO q4 (.mov (.c (.b true)))]) .ret) .skip)) K16_23)
def F16 : IFn := ⟨162, [.cN q2 2, .tmp q3, .tmp q4], B16⟩
theorem R16 : F16.res = [.cN q2 2, .tmp q3, .tmp q4] := rfl
theorem fits16 : FitsF Try.prog 16 F16 := cmpF_fits (pol := fun _ => false) Try.func16 (by kernel_rfl)
def K17_0 : IC := .seq (.reg [oM q44 q15, oM q12 q44]) (.seq (.reg [oO q45 (.fa 1 (.t q3)), oO q46 (.ld1 (.t q45)), oM q47 q12, oO q48 (.ixS 1 (.t q46) (.t q47)), oO q49 (.ld1 (.t q48)), oO q50 (.binI .gtr (.t q49) (.c (.i .i64 (.negSucc 0))))]) (.cond (.t q50) (.reg [oO q51 (.fa 1 (.t q3)), oO q52 (.ld1 (.t q51)), oM q53 q12, oO q54 (.ixS 1 (.t q52) (.t q53)), oO q55 (.ld1 (.t q54)), oM q56 q13, oO q57 (.binI .add (.t q56) (.c (.i .i64 1))), oM q10 q55, oM q11 q57]) .skip))
def K17_1 : IC := .reg [oO q58 (.binI .add (.t q26) (.c (.i .i64 1))), oM q26 q58]
def K17_2 : IC := .seq (.block 1 (.seq (.reg [oM q28 q26, oO q29 (.ixS 1 (.t q24) (.t q26)), oO q30 (.ld1 (.t q29)), oM q13 q28, oM q14 q30]) (.seq (.reg [oO q32 (.ldN 2 (.t q3)), oM q33 q12, oM q34 q14, oO q35 (.call 36 [.t q32, .t q33, .t q34]), oM q31 q35, oO q36 (.ext (.t q31) 0), oO q37 (.ext (.t q31) 1), oM q15 q36, oM q16 q37]) (.seq (.seq (.reg [oM q38 q16, oO q39 (.un .not (.t q38))]) (.cond (.t q39) (.seq (.reg [oM q40 q10, oM q41 q11, oM q42 q13, oO q43 (.binI .add (.t q42) (.c (.i .i64 1))), oM q6 q40, oM q7 q41, oM q8 q43]) .ret) .skip)) K17_0)))) K17_1
def L17_3 : IC := .seq (.reg [oO q27 (.binI .lss (.t q26) (.t q25))]) (.seq (.cond (.t q27) .skip (.exit 0)) K17_2)
def K17_4 : IC := .seq (.reg [oM q59 q10, oM q60 q11, oM q61 q9, oO q62 (.len (.t q61)), oO q63 (.binI .add (.t q62) (.c (.i .i64 1))), oM q6 q59, oM q7 q60, oM q8 q63]) .ret
def B17 : IC := .seq (.reg [oO q3 (.box (.t q0)), oO q6 (.mov (.c (.i .i64 0))), oO q7 (.mov (.c (.i .i64 0))), oO q8 (.mov (.c (.i .i64 0)))]) (.seq (.reg [oM q17 q1, oM q18 q2, oO q19 (.mx (.t q18) (.c (.i .i64 0))), oM q20 q1, oO q21 (.len (.t q20)), oO q22 (.mn (.t q19) (.t q21)), oO q23 (.cut 1 (.t q17) (some (.t q22)) none), oM q9 q23]) (.seq (.reg [oO q10 (.mov (.c (.i .i64 (.negSucc 0)))), oO q11 (.mov (.c (.i .i64 0)))]) (.seq (.reg [oO q12 (.mov (.c (.i .i64 0)))]) (.seq (.seq (.reg [oM q24 q9, oO q25 (.len (.t q24)), oO q26 (.mov (.c (.i .i64 0)))]) (.block 0 (.loop L17_3))) K17_4))))
def F17 : IFn := ⟨64, [.tmp q6, .tmp q7, .tmp q8], B17⟩
theorem R17 : F17.res = [.tmp q6, .tmp q7, .tmp q8] := rfl
theorem fits17 : FitsF Try.prog 17 F17 := cmpF_fits (pol := fun _ => false) Try.func17 (by kernel_rfl)
def K18_0 : IC := .cond (.t q56) (.seq (.reg [oM q57 q8, oM q58 q10, oO q59 (.bsl 1 1 [.i .i64 0] [(0, 1, .t q58)]), oO q60 (.app 1 8 (.t q57) (.t q59)), oM q8 q60]) (.seq (.reg [oM q61 q10, oO q62 (.fa 4 (.t q2)), oO q63 (.ld1 (.t q62)), oO q64 (.len (.t q63)), oO q65 (.binI .lss (.t q61) (.t q64))]) (.cond (.t q65) (.reg [oM q66 q7, oO q67 (.fa 4 (.t q2)), oO q68 (.ld1 (.t q67)), oM q69 q10, oO q70 (.ixS 1 (.t q68) (.t q69)), oO q71 (.ld1 (.t q70)), oO q72 (.call 37 [.t q66, .t q71]), oM q7 q72]) .skip))) .skip
def K18_1 : IC := .reg [oM q30 q9, oO q31 (.binI .add (.t q30) (.c (.i .i64 1))), oM q9 q31]
def K18_2 : IC := .seq (.block 3 (.seq (.reg [oM q32 q5, oM q33 q9, oO q34 (.ixS 1 (.t q32) (.t q33)), oO q35 (.ld1 (.t q34)), oM q10 q35]) (.seq (.dreg 0 [(oM q36 q10, .pu), (oO q37 (.binI .geq (.t q36) (.c (.i .i64 0))), .pu), (oM q38 q37, .pu), (oG q39 q38 true (.mov (.t q10)), .pu), (oG q40 q38 true (.fa 0 (.t q2)), .pu), (oG q41 q38 true (.ld1 (.t q40)), .rd 0), (oG q42 q38 true (.len (.t q41)), .pu), (oG q43 q38 true (.binI .lss (.t q39) (.t q42)), .pu), (oO q44 (.pick (.t q38) (.t q43) (.c (.b false))), .pu), (oM q45 q44, .pu), (oG q46 q45 true (.fa 0 (.t q2)), .pu), (oG q47 q45 true (.ld1 (.t q46)), .rd 0), (oG q48 q45 true (.mov (.t q10)), .pu), (oG q49 q45 true (.ixS 4 (.t q47) (.t q48)), .pu), (oG q50 q45 true (.ldN 4 (.t q49)), .rd 0), (oG q51 q45 true (.mov (.t q1)), .pu), (oG q52 q45 true (.mov (.t q6)), .pu), (oG q53 q45 true (.ixS 1 (.t q51) (.t q52)), .pu), (oG q54 q45 true (.ld1 (.t q53)), .rd 0)] [oG q55 q45 true (.call 29 [.t q50, .t q54]), oO q56 (.pick (.t q45) (.t q55) (.c (.b false)))] []) K18_0))) K18_1
def L18_3 : IC := .seq (.seq (.reg [oM q26 q9, oM q27 q5, oO q28 (.len (.t q27)), oO q29 (.binI .lss (.t q26) (.t q28))]) (.cond (.t q29) .skip (.exit 2))) K18_2
def K18_4 : IC := .cond (.t q100) (.seq (.reg [oO q4 (.mov (.c (.b true)))]) .ret) .skip
def K18_5 : IC := .reg [oM q89 q12, oO q90 (.binI .add (.t q89) (.c (.i .i64 1))), oM q12 q90]
def K18_6 : IC := .seq (.block 7 (.seq (.dreg 0 [(oO q91 (.fa 3 (.t q2)), .pu), (oO q92 (.ld1 (.t q91)), .rd 0), (oM q93 q12, .pu), (oO q94 (.ixS 1 (.t q92) (.t q93)), .pu), (oO q95 (.ld1 (.t q94)), .rd 0), (oM q96 q8, .pu), (oM q97 q11, .pu), (oO q98 (.ixS 1 (.t q96) (.t q97)), .pu), (oO q99 (.ld1 (.t q98)), .rd 0)] [oO q100 (.binI .eql (.t q95) (.t q99))] []) K18_4)) K18_5
def L18_7 : IC := .seq (.seq (.reg [oM q84 q12, oO q85 (.fa 3 (.t q2)), oO q86 (.ld1 (.t q85)), oO q87 (.len (.t q86)), oO q88 (.binI .lss (.t q84) (.t q87))]) (.cond (.t q88) .skip (.exit 6))) K18_6
def K18_8 : IC := .reg [oM q82 q11, oO q83 (.binI .add (.t q82) (.c (.i .i64 1))), oM q11 q83]
def K18_9 : IC := .seq (.block 5 (.seq (.reg [oO q12 (.mov (.c (.i .i64 0)))]) (.block 6 (.loop L18_7)))) K18_8
def L18_10 : IC := .seq (.seq (.reg [oM q78 q11, oM q79 q8, oO q80 (.len (.t q79)), oO q81 (.binI .lss (.t q78) (.t q80))]) (.cond (.t q81) .skip (.exit 4))) K18_9
def K18_11 : IC := .seq (.reg [oO q4 (.mov (.c (.b false)))]) .ret
def K18_12 : IC := .reg [oM q101 q7, oM q5 q101]
def K18_13 : IC := .seq (.seq (.reg [oM q73 q6, oM q74 q1, oO q75 (.len (.t q74)), oO q76 (.binI .sub (.t q75) (.c (.i .i64 1))), oO q77 (.binI .eql (.t q73) (.t q76))]) (.cond (.t q77) (.seq (.seq (.reg [oO q11 (.mov (.c (.i .i64 0)))]) (.block 4 (.loop L18_10))) K18_11) .skip)) K18_12
def K18_14 : IC := .reg [oM q24 q6, oO q25 (.binI .add (.t q24) (.c (.i .i64 1))), oM q6 q25]
def K18_15 : IC := .seq (.block 1 (.seq (.reg [oO q7 (.mov (.c .nils)), oO q8 (.mov (.c .nils))]) (.seq (.seq (.reg [oO q9 (.mov (.c (.i .i64 0)))]) (.block 2 (.loop L18_3))) K18_13))) K18_14
def L18_16 : IC := .seq (.seq (.reg [oM q20 q6, oM q21 q1, oO q22 (.len (.t q21)), oO q23 (.binI .lss (.t q20) (.t q22))]) (.cond (.t q23) .skip (.exit 0))) K18_15
def K18_17 : IC := .seq (.reg [oO q4 (.mov (.c (.b false)))]) .ret
def K18_18 : IC := .seq (.reg [oO q18 (.fa 2 (.t q2)), oO q19 (.ld1 (.t q18)), oM q5 q19]) (.seq (.seq (.reg [oO q6 (.mov (.c (.i .i64 0)))]) (.block 0 (.loop L18_16))) K18_17)
def B18 : IC := .seq (.reg [oO q2 (.box (.t q0)), oO q4 (.mov (.c (.b false)))]) (.seq (.seq (.reg [oM q13 q1, oO q14 (.len (.t q13)), oO q15 (.binI .eql (.t q14) (.c (.i .i64 0)))]) (.cond (.t q15) (.seq (.reg [oO q16 (.fa 1 (.t q2)), oO q17 (.ld1 (.t q16)), oM q4 q17]) .ret) .skip)) K18_18)
def F18 : IFn := ⟨102, [.tmp q4], B18⟩
theorem R18 : F18.res = [.tmp q4] := rfl
theorem fits18 : FitsF Try.prog 18 F18 := cmpF_fits (pol := fun _ => false) Try.func18 (by kernel_rfl)
def K19_0 : IC := .block 1 (.seq (.reg [oM q19 q0, oO q20 (.nck (.t q19)), oO q21 (.fa 1 (.t q20)), oO q22 (.ld1 (.t q21)), oO q23 (.binI .add (.t q22) (.c (.i .i64 1))), oO q24 (.nck (.t q19)), oO q25 (.fa 1 (.t q24)), ⟨none, none, .st 1 (.t q25) (.t q23)⟩]) (.reg [oM q26 q5, oM q27 q0, oM q28 q1, oO q29 (.call 38 [.t q27, .t q28]), oO q30 (.bsl 6 1 [.i .i64 0, .i .u64 0, .i .u64 0, .i .u64 0, .i .u64 0, .nils] [(0, 6, .t q29)]), oO q31 (.app 6 64 (.t q26) (.t q30)), oM q5 q31]))
def L19_1 : IC := .seq (.seq (.reg [oM q10 q0, oO q11 (.nck (.t q10)), oO q12 (.fa 2 (.t q11)), oO q13 (.ld1 (.t q12)), oO q14 (.binI .eql (.t q13) (.c (.i .i64 0))), oM q15 q14, oG q16 q15 true (.mov (.t q0)), oG q17 q15 true (.call 39 [.t q16, .c (.i .u8 124)]), oO q18 (.pick (.t q15) (.t q17) (.c (.b false)))]) (.cond (.t q18) .skip (.exit 0))) K19_0
def K19_2 : IC := .seq (.reg [oM q38 q5, oO q39 (.build [.i .i64 0, .i .u64 0, .i .u64 0, .i .u64 0, .i .u64 0, .nils] [(0, 1, .c (.i .i64 3)), (5, 1, .t q38)]), ⟨none, none, .st 6 (.t q4) (.t q39)⟩]) .ret
def K19_3 : IC := .seq (.seq (.reg [oM q32 q5, oO q33 (.len (.t q32)), oO q34 (.binI .eql (.t q33) (.c (.i .i64 1)))]) (.cond (.t q34) (.seq (.reg [oM q35 q5, oO q36 (.ixS 6 (.t q35) (.c (.i .i64 0))), oO q37 (.ldN 6 (.t q36)), ⟨none, none, .st 6 (.t q4) (.t q37)⟩]) .ret) .skip)) K19_2
def B19 : IC := .seq (.reg [oO q4 (.new [.i .i64 0, .i .u64 0, .i .u64 0, .i .u64 0, .i .u64 0, .nils])]) (.seq (.reg [oM q6 q0, oM q7 q1, oO q8 (.call 38 [.t q6, .t q7]), oO q9 (.bsl 6 1 [.i .i64 0, .i .u64 0, .i .u64 0, .i .u64 0, .i .u64 0, .nils] [(0, 6, .t q8)]), oM q5 q9]) (.seq (.block 0 (.loop L19_1)) K19_3))
def F19 : IFn := ⟨40, [.cN q4 6], B19⟩
theorem R19 : F19.res = [.cN q4 6] := rfl
theorem fits19 : FitsF Try.prog 19 F19 := cmpF_fits (pol := fun _ => false) Try.func19 (by kernel_rfl)
def B20 : IC := .seq (.reg [oO q2 (.mov (.c (.b false)))]) (.seq (.dreg 0 [(oM q3 q0, .pu), (oO q4 (.nck (.t q3)), .pu), (oO q5 (.fa 1 (.t q4)), .pu), (oO q6 (.ld1 (.t q5)), .rd 0), (oM q7 q0, .pu), (oO q8 (.nck (.t q7)), .pu), (oO q9 (.fa 0 (.t q8)), .pu), (oO q10 (.ld1 (.t q9)), .rd 0), (oO q11 (.lenT (.t q10)), .pu)] [oO q12 (.binI .geq (.t q6) (.t q11)), oM q2 q12] []) .ret)
def F20 : IFn := ⟨13, [.tmp q2], B20⟩
theorem R20 : F20.res = [.tmp q2] := rfl
theorem fits20 : FitsF Try.prog 20 F20 := cmpF_fits (pol := fun _ => false) Try.func20 (by kernel_rfl)
def B21 : IC := .seq (.reg [oM q6 q0, oO q7 (.nck (.t q6)), oO q8 (.fa 2 (.t q7)), oO q9 (.ld1 (.t q8)), oO q10 (.binI .eql (.t q9) (.c (.i .i64 0)))]) (.cond (.t q10) (.seq (.reg [oM q11 q0, oM q12 q1, oO q13 (.nck (.t q11)), oO q14 (.fa 2 (.t q13)), ⟨none, none, .st 1 (.t q14) (.t q12)⟩]) (.reg [oM q15 q0, oM q16 q2, oO q17 (.nck (.t q15)), oO q18 (.fa 3 (.t q17)), ⟨none, none, .st 1 (.t q18) (.t q16)⟩])) .skip)
def F21 : IFn := ⟨19, [], B21⟩
theorem R21 : F21.res = [] := rfl
theorem fits21 : FitsF Try.prog 21 F21 := cmpF_fits (pol := fun _ => false) Try.func21 (by kernel_rfl)
def B29 : IC := .seq (.reg [oO q2 (.box (.t q0)), oO q4 (.mov (.c (.b false)))]) (.seq (.reg [oM q5 q1, oO q6 (.binI .shr (.t q5) (.c (.i .u64 6))), oO q7 (.ixA 4 1 (.t q2) (.t q6)), oO q8 (.ld1 (.t q7)), oM q9 q1, oO q10 (.binI .and (.t q9) (.c (.i .u8 63))), oO q11 (.cvI .u64 (.t q10)), oO q12 (.binI .shr (.t q8) (.t q11)), oO q13 (.binI .and (.t q12) (.c (.i .u64 1))), oO q14 (.binI .eql (.t q13) (.c (.i .u64 1))), oM q4 q14]) .ret)
def F29 : IFn := ⟨15, [.tmp q4], B29⟩
theorem R29 : F29.res = [.tmp q4] := rfl
theorem fits29 : FitsF Try.prog 29 F29 := cmpF_fits (pol := fun _ => false) Try.func29 (by kernel_rfl)
def K30_0 : IC := .reg [oM q34 q4, oO q35 (.binI .add (.t q34) (.c (.i .i64 1))), oM q4 q35]
def K30_1 : IC := .seq (.block 1 (.reg [oM q36 q3, oO q37 (.fa 5 (.t q1)), oO q38 (.ld1 (.t q37)), oM q39 q4, oO q40 (.ixS 6 (.t q38) (.t q39)), oO q41 (.ldN 6 (.t q40)), oO q42 (.call 30 [.t q41]), oO q43 (.binI .add (.t q36) (.t q42)), oM q3 q43])) K30_0
def L30_2 : IC := .seq (.seq (.reg [oM q16 q4, oO q17 (.fa 5 (.t q1)), oO q18 (.ld1 (.t q17)), oO q19 (.len (.t q18)), oO q20 (.binI .lss (.t q16) (.t q19)), oM q21 q20, oG q22 q21 true (.mov (.t q4)), oG q23 q21 true (.binI .eql (.t q22) (.c (.i .i64 0))), oG q24 q21 true (.mov (.t q23)), oG q25 q24 false (.fa 0 (.t q1)), oG q26 q24 false (.ld1 (.t q25)), oG q27 q24 false (.binI .leq (.t q26) (.c (.i .i64 3))), oG q28 q21 true (.pick (.t q24) (.c (.b true)) (.t q27)), oO q29 (.pick (.t q21) (.t q28) (.c (.b false))), oM q30 q29, oG q31 q30 true (.mov (.t q3)), oG q32 q30 true (.binI .leq (.t q31) (.c (.i .i64 150))), oO q33 (.pick (.t q30) (.t q32) (.c (.b false)))]) (.cond (.t q33) .skip (.exit 0))) K30_1
def K30_3 : IC := .seq (.reg [oM q44 q3, oM q2 q44]) .ret
def K30_4 : IC := .seq (.seq (.reg [oO q4 (.mov (.c (.i .i64 0)))]) (.block 0 (.loop L30_2))) K30_3
def K30_5 : IC := .seq (.seq (.reg [oO q8 (.fa 0 (.t q1)), oO q9 (.ld1 (.t q8)), oO q10 (.binI .lss (.t q9) (.c (.i .i64 2))), oM q11 q10, oG q12 q11 false (.fa 0 (.t q1)), oG q13 q11 false (.ld1 (.t q12)), oG q14 q11 false (.binI .gtr (.t q13) (.c (.i .i64 6))), oO q15 (.pick (.t q11) (.c (.b true)) (.t q14))]) (.cond (.t q15) (.seq (.reg [oO q2 (.mov (.c (.i .i64 0)))]) .ret) .skip)) K30_4
def B30 : IC := .seq (.reg [oO q1 (.box (.t q0)), oO q2 (.mov (.c (.i .i64 0)))]) (.seq (.reg [oO q3 (.mov (.c (.i .i64 0)))]) (.seq (.seq (.reg [oO q5 (.fa 0 (.t q1)), oO q6 (.ld1 (.t q5)), oO q7 (.binI .eql (.t q6) (.c (.i .i64 1)))]) (.cond (.t q7) (.seq (.reg [oO q2 (.mov (.c (.i .i64 1)))]) .ret) .skip)) K30_5))
def F30 : IFn := ⟨45, [.tmp q2], B30⟩
theorem R30 : F30.res = [.tmp q2] := rfl
theorem fits30 : FitsF Try.prog 30 F30 := cmpF_fits (pol := fun _ => false) Try.func30 (by kernel_rfl)
def K31_0 : IC := .reg [oM q30 q4, oO q31 (.binI .add (.t q30) (.c (.i .i64 1))), oM q4 q31]
def K31_1 : IC := .seq (.block 1 (.seq (.reg [oO q32 (.fa 5 (.t q1)), oO q33 (.ld1 (.t q32)), oM q34 q4, oO q35 (.ixS 6 (.t q33) (.t q34)), oO q36 (.ldN 6 (.t q35)), oO q37 (.call 31 [.t q36]), oM q5 q37]) (.seq (.reg [oM q38 q5, oM q39 q3, oO q40 (.binI .gtr (.t q38) (.t q39))]) (.cond (.t q40) (.reg [oM q41 q5, oM q3 q41]) .skip)))) K31_0
def L31_2 : IC := .seq (.seq (.reg [oM q6 q4, oO q7 (.fa 5 (.t q1)), oO q8 (.ld1 (.t q7)), oO q9 (.len (.t q8)), oO q10 (.binI .lss (.t q6) (.t q9)), oM q11 q10, oG q12 q11 true (.fa 0 (.t q1)), oG q13 q11 true (.ld1 (.t q12)), oG q14 q11 true (.binI .geq (.t q13) (.c (.i .i64 2))), oO q15 (.pick (.t q11) (.t q14) (.c (.b false))), oM q16 q15, oG q17 q16 true (.fa 0 (.t q1)), oG q18 q16 true (.ld1 (.t q17)), oG q19 q16 true (.binI .leq (.t q18) (.c (.i .i64 6))), oO q20 (.pick (.t q16) (.t q19) (.c (.b false))), oM q21 q20, oG q22 q21 true (.mov (.t q4)), oG q23 q21 true (.binI .eql (.t q22) (.c (.i .i64 0))), oG q24 q21 true (.mov (.t q23)), oG q25 q24 false (.fa 0 (.t q1)), oG q26 q24 false (.ld1 (.t q25)), oG q27 q24 false (.binI .leq (.t q26) (.c (.i .i64 3))), oG q28 q21 true (.pick (.t q24) (.c (.b true)) (.t q27)), oO q29 (.pick (.t q21) (.t q28) (.c (.b false)))]) (.cond (.t q29) .skip (.exit 0))) K31_1
def K31_3 : IC := .seq (.reg [oM q42 q3, oO q43 (.binI .add (.t q42) (.c (.i .i64 1))), oM q2 q43]) .ret
def B31 : IC := .seq (.reg [oO q1 (.box (.t q0)), oO q2 (.mov (.c (.i .i64 0)))]) (.seq (.reg [oO q3 (.mov (.c (.i .i64 0)))]) (.seq (.seq (.reg [oO q4 (.mov (.c (.i .i64 0)))]) (.block 0 (.loop L31_2))) K31_3))
def F31 : IFn := ⟨44, [.tmp q2], B31⟩
theorem R31 : F31.res = [.tmp q2] := rfl
theorem fits31 : FitsF Try.prog 31 F31 := cmpF_fits (pol := fun _ => false) Try.func31 (by kernel_rfl)
def K32_0 : IC := .seq (.reg [oM q36 q0, oM q37 q0, oO q38 (.nck (.t q37)), oO q39 (.fa 0 (.t q38)), oO q40 (.fa 4 (.t q39)), oO q41 (.ld1 (.t q40)), oO q42 (.bsl 1 1 [.nils] [(0, 1, .c .nils)]), oO q43 (.app 1 24 (.t q41) (.t q42)), oO q44 (.nck (.t q36)), oO q45 (.fa 0 (.t q44)), oO q46 (.fa 4 (.t q45)), ⟨none, none, .st 1 (.t q46) (.t q43)⟩]) (.seq (.reg [oM q47 q5, oO q48 (.bsl 1 1 [.i .i64 0] [(0, 1, .t q47)]), oM q49 q5, oO q50 (.bsl 1 1 [.i .i64 0] [(0, 1, .t q49)]), oO q51 (.build [.b false, .nils, .nils] [(1, 1, .t q48), (2, 1, .t q50)]), ⟨none, none, .st 3 (.t q4) (.t q51)⟩]) .ret)
def K32_1 : IC := .cond (.t q52) (.seq (.reg [oO q55 (.fa 5 (.t q3)), oO q56 (.ld1 (.t q55)), oO q57 (.len (.t q56)), oO q58 (.binI .eql (.t q57) (.c (.i .i64 0)))]) (.cond (.t q58) (.seq (.reg [oO q59 (.build [.b false, .nils, .nils] [(0, 1, .c (.b true))]), ⟨none, none, .st 3 (.t q4) (.t q59)⟩]) .ret) .skip)) .skip
def K32_2 : IC := .reg [oO q104 (.fa 0 (.t q6)), oO q105 (.ld1 (.t q104)), oM q106 q105, oG q107 q106 true (.fa 0 (.t q8)), oG q108 q106 true (.ld1 (.t q107)), oO q109 (.pick (.t q106) (.t q108) (.c (.b false))), oO q110 (.fa 0 (.t q6)), ⟨none, none, .st 1 (.t q110) (.t q109)⟩]
def K32_3 : IC := .seq (.seq (.reg [oO q93 (.fa 0 (.t q8)), oO q94 (.ld1 (.t q93))]) (.cond (.t q94) (.reg [oO q95 (.fa 2 (.t q6)), oO q96 (.ld1 (.t q95)), oO q97 (.fa 2 (.t q8)), oO q98 (.ld1 (.t q97)), oO q99 (.call 37 [.t q96, .t q98]), oO q100 (.fa 2 (.t q6)), ⟨none, none, .st 1 (.t q100) (.t q99)⟩]) (.reg [oO q101 (.fa 2 (.t q8)), oO q102 (.ld1 (.t q101)), oO q103 (.fa 2 (.t q6)), ⟨none, none, .st 1 (.t q103) (.t q102)⟩]))) K32_2
def K32_4 : IC := .reg [oM q70 q7, oO q71 (.binI .add (.t q70) (.c (.i .i64 1))), oM q7 q71]
def K32_5 : IC := .seq (.block 3 (.seq (.reg [oM q72 q0, oO q73 (.fa 5 (.t q3)), oO q74 (.ld1 (.t q73)), oM q75 q7, oO q76 (.ixS 6 (.t q74) (.t q75)), oO q77 (.ldN 6 (.t q76)), oO q78 (.call 32 [.t q72, .t q77]), oO q8 (.new [.b false, .nils, .nils]), ⟨none, none, .st 3 (.t q8) (.t q78)⟩]) (.seq (.reg [oM q79 q0, oO q80 (.fa 2 (.t q6)), oO q81 (.ld1 (.t q80)), oO q82 (.fa 1 (.t q8)), oO q83 (.ld1 (.t q82)), oO q84 (.call 52 [.t q79, .t q81, .t q83])]) (.seq (.seq (.reg [oO q85 (.fa 0 (.t q6)), oO q86 (.ld1 (.t q85))]) (.cond (.t q86) (.reg [oO q87 (.fa 1 (.t q6)), oO q88 (.ld1 (.t q87)), oO q89 (.fa 1 (.t q8)), oO q90 (.ld1 (.t q89)), oO q91 (.call 37 [.t q88, .t q90]), oO q92 (.fa 1 (.t q6)), ⟨none, none, .st 1 (.t q92) (.t q91)⟩]) .skip)) K32_3)))) K32_4
def L32_6 : IC := .seq (.seq (.reg [oM q65 q7, oO q66 (.fa 5 (.t q3)), oO q67 (.ld1 (.t q66)), oO q68 (.len (.t q67)), oO q69 (.binI .lss (.t q65) (.t q68))]) (.cond (.t q69) .skip (.exit 2))) K32_5
def K32_7 : IC := .seq (.reg [oO q111 (.ldN 3 (.t q6)), ⟨none, none, .st 3 (.t q4) (.t q111)⟩]) .ret
def K32_8 : IC := .reg [oM q119 q10, oO q120 (.binI .add (.t q119) (.c (.i .i64 1))), oM q10 q120]
def K32_9 : IC := .seq (.block 5 (.seq (.reg [oM q121 q0, oO q122 (.fa 5 (.t q3)), oO q123 (.ld1 (.t q122)), oM q124 q10, oO q125 (.ixS 6 (.t q123) (.t q124)), oO q126 (.ldN 6 (.t q125)), oO q127 (.call 32 [.t q121, .t q126]), oO q11 (.new [.b false, .nils, .nils]), ⟨none, none, .st 3 (.t q11) (.t q127)⟩]) (.seq (.reg [oO q128 (.fa 1 (.t q9)), oO q129 (.ld1 (.t q128)), oO q130 (.fa 1 (.t q11)), oO q131 (.ld1 (.t q130)), oO q132 (.call 37 [.t q129, .t q131]), oO q133 (.fa 1 (.t q9)), ⟨none, none, .st 1 (.t q133) (.t q132)⟩]) (.seq (.reg [oO q134 (.fa 2 (.t q9)), oO q135 (.ld1 (.t q134)), oO q136 (.fa 2 (.t q11)), oO q137 (.ld1 (.t q136)), oO q138 (.call 37 [.t q135, .t q137]), oO q139 (.fa 2 (.t q9)), ⟨none, none, .st 1 (.t q139) (.t q138)⟩]) (.reg [oO q140 (.fa 0 (.t q9)), oO q141 (.ld1 (.t q140)), oM q142 q141, oG q143 q142 false (.fa 0 (.t q11)), oG q144 q142 false (.ld1 (.t q143)), oO q145 (.pick (.t q142) (.c (.b true)) (.t q144)), oO q146 (.fa 0 (.t q9)), ⟨none, none, .st 1 (.t q146) (.t q145)⟩]))))) K32_8
def L32_10 : IC := .seq (.seq (.reg [oM q114 q10, oO q115 (.fa 5 (.t q3)), oO q116 (.ld1 (.t q115)), oO q117 (.len (.t q116)), oO q118 (.binI .lss (.t q114) (.t q117))]) (.cond (.t q118) .skip (.exit 4))) K32_9
def K32_11 : IC := .seq (.reg [oO q147 (.ldN 3 (.t q9)), ⟨none, none, .st 3 (.t q4) (.t q147)⟩]) .ret
def K32_12 : IC := .seq (.reg [oO q176 (.ldN 3 (.t q12)), ⟨none, none, .st 3 (.t q4) (.t q176)⟩]) .ret
def K32_13 : IC := .seq (.seq (.reg [oO q172 (.fa 0 (.t q3)), oO q173 (.ld1 (.t q172)), oO q174 (.binI .neq (.t q173) (.c (.i .i64 5)))]) (.cond (.t q174) (.reg [oO q175 (.fa 0 (.t q12)), ⟨none, none, .st 1 (.t q175) (.c (.b true))⟩]) .skip)) K32_12
def K32_14 : IC := .seq (.reg [oM q157 q0, oO q158 (.fa 5 (.t q3)), oO q159 (.ld1 (.t q158)), oO q160 (.ixS 6 (.t q159) (.c (.i .i64 0))), oO q161 (.ldN 6 (.t q160)), oO q162 (.call 32 [.t q157, .t q161]), oO q12 (.new [.b false, .nils, .nils]), ⟨none, none, .st 3 (.t q12) (.t q162)⟩]) (.seq (.seq (.reg [oO q163 (.fa 0 (.t q3)), oO q164 (.ld1 (.t q163)), oO q165 (.binI .neq (.t q164) (.c (.i .i64 6)))]) (.cond (.t q165) (.reg [oM q166 q0, oO q167 (.fa 2 (.t q12)), oO q168 (.ld1 (.t q167)), oO q169 (.fa 1 (.t q12)), oO q170 (.ld1 (.t q169)), oO q171 (.call 52 [.t q166, .t q168, .t q170])]) .skip)) K32_13)
def K32_15 : IC := .cond (.t q148) (.seq (.seq (.reg [oO q152 (.fa 5 (.t q3)), oO q153 (.ld1 (.t q152)), oO q154 (.len (.t q153)), oO q155 (.binI .eql (.t q154) (.c (.i .i64 0)))]) (.cond (.t q155) (.seq (.reg [oO q156 (.build [.b false, .nils, .nils] [(0, 1, .c (.b true))]), ⟨none, none, .st 3 (.t q4) (.t q156)⟩]) .ret) .skip)) K32_14) .skip
def K32_16 : IC := .seq (.reg [oO q177 (.build [.b false, .nils, .nils] [(0, 1, .c (.b true))]), ⟨none, none, .st 3 (.t q4) (.t q177)⟩]) .ret
def K32_17 : IC := .seq (.seq (.reg [oO q60 (.fa 0 (.t q3)), oO q61 (.ld1 (.t q60))]) (.block 1 (.seq (.reg [oO q63 (.binI .eql (.t q61) (.c (.i .i64 2))), oM q62 q63]) (.cond (.t q62) (.seq (.reg [oO q64 (.build [.b false, .nils, .nils] [(0, 1, .c (.b true))]), oO q6 (.new [.b false, .nils, .nils]), ⟨none, none, .st 3 (.t q6) (.t q64)⟩]) (.seq (.seq (.reg [oO q7 (.mov (.c (.i .i64 0)))]) (.block 2 (.loop L32_6))) K32_7)) (.seq (.reg [oO q113 (.binI .eql (.t q61) (.c (.i .i64 3))), oM q112 q113]) (.cond (.t q112) (.seq (.reg [oO q9 (.new [.b false, .nils, .nils])]) (.seq (.seq (.reg [oO q10 (.mov (.c (.i .i64 0)))]) (.block 4 (.loop L32_10))) K32_11)) (.seq (.seq (.reg [oO q149 (.binI .eql (.t q61) (.c (.i .i64 4))), oM q148 q149]) (.cond (.t q148) .skip (.seq (.reg [oO q150 (.binI .eql (.t q61) (.c (.i .i64 5))), oM q148 q150]) (.cond (.t q148) .skip (.reg [oO q151 (.binI .eql (.t q61) (.c (.i .i64 6))), oM q148 q151]))))) K32_15))))))) K32_16
def B32 : IC := .seq (.reg [oO q3 (.box (.t q1)), oO q4 (.new [.b false, .nils, .nils])]) (.seq (.seq (.reg [oO q13 (.fa 0 (.t q3)), oO q14 (.ld1 (.t q13))]) (.block 0 (.seq (.reg [oO q16 (.binI .eql (.t q14) (.c (.i .i64 1))), oM q15 q16]) (.cond (.t q15) (.seq (.reg [oM q17 q0, oO q18 (.nck (.t q17)), oO q19 (.fa 0 (.t q18)), oO q20 (.fa 0 (.t q19)), oO q21 (.ld1 (.t q20)), oO q22 (.len (.t q21)), oM q5 q22]) (.seq (.dreg 0 [(oM q23 q0, .pu), (oM q24 q0, .pu), (oO q25 (.nck (.t q24)), .pu), (oO q26 (.fa 0 (.t q25)), .pu), (oO q27 (.fa 0 (.t q26)), .pu), (oO q28 (.ld1 (.t q27)), .rd 0), (oO q29 (.fa 1 (.t q3)), .pu), (oO q30 (.ldN 4 (.t q29)), .rd 0), (oO q31 (.bsl 4 1 [.i .u64 0, .i .u64 0, .i .u64 0, .i .u64 0] [(0, 4, .t q30)]), .ad), (oO q32 (.app 4 32 (.t q28) (.t q31)), .md)] [oO q33 (.nck (.t q23)), oO q34 (.fa 0 (.t q33)), oO q35 (.fa 0 (.t q34)), ⟨none, none, .st 1 (.t q35) (.t q32)⟩] []) K32_0)) (.seq (.seq (.reg [oO q53 (.binI .eql (.t q14) (.c (.i .i64 2))), oM q52 q53]) (.cond (.t q52) .skip (.reg [oO q54 (.binI .eql (.t q14) (.c (.i .i64 3))), oM q52 q54]))) K32_1))))) K32_17)
def F32 : IFn := ⟨178, [.cN q4 3], B32⟩
theorem R32 : F32.res = [.cN q4 3] := rfl
theorem fits32 : FitsF Try.prog 32 F32 := cmpF_fits (pol := fun _ => false) Try.func32 (by kernel_rfl)
def K33_0 : IC := .reg [oM q16 q4, oO q17 (.binI .add (.t q16) (.c (.i .i64 1))), oM q4 q17]
def K33_1 : IC := .seq (.block 1 (.reg [oM q18 q3, oM q19 q4, oO q20 (.build [.i .i64 0, .i .i64 0] [(0, 1, .t q19), (1, 1, .c (.i .i64 (.negSucc 0)))]), oO q21 (.call 53 [.t q18, .t q20]), oM q3 q21])) K33_0
def L33_2 : IC := .seq (.seq (.reg [oM q12 q4, oM q13 q0, oO q14 (.len (.t q13)), oO q15 (.binI .lss (.t q12) (.t q14))]) (.cond (.t q15) .skip (.exit 0))) K33_1
def K33_3 : IC := .reg [oM q60 q11, oO q61 (.binI .add (.t q60) (.c (.i .i64 1))), oM q11 q61]
def K33_4 : IC := .seq (.block 7 (.seq (.reg [oM q62 q5, oM q63 q11, oO q64 (.ixS 1 (.t q62) (.t q63)), oO q65 (.ld1 (.t q64)), oM q66 q10, oO q67 (.call 55 [.t q65, .t q66])]) (.cond (.t q67) (.reg [oM q68 q8, oM q69 q9, oM q70 q11, oO q71 (.ixS 1 (.t q68) (.t q69)), ⟨none, none, .st 1 (.t q71) (.t q70)⟩]) .skip))) K33_3
def L33_5 : IC := .seq (.seq (.reg [oM q49 q11, oM q50 q5, oO q51 (.len (.t q50)), oO q52 (.binI .lss (.t q49) (.t q51)), oM q53 q52, oG q54 q53 true (.mov (.t q8)), oG q55 q53 true (.mov (.t q9)), oG q56 q53 true (.ixS 1 (.t q54) (.t q55)), oG q57 q53 true (.ld1 (.t q56)), oG q58 q53 true (.binI .lss (.t q57) (.c (.i .i64 0))), oO q59 (.pick (.t q53) (.t q58) (.c (.b false)))]) (.cond (.t q59) .skip (.exit 6))) K33_4
def K33_6 : IC := .seq (.reg [oM q82 q8, oM q83 q9, oM q84 q5, oO q85 (.len (.t q84)), oO q86 (.ixS 1 (.t q82) (.t q83)), ⟨none, none, .st 1 (.t q86) (.t q85)⟩]) (.reg [oM q87 q5, oM q88 q10, oO q89 (.bsl 1 1 [.nils] [(0, 1, .t q88)]), oO q90 (.app 1 24 (.t q87) (.t q89)), oM q5 q90])
def K33_7 : IC := .seq (.reg [oM q72 q8, oM q73 q9, oO q74 (.ixS 1 (.t q72) (.t q73)), oO q75 (.ld1 (.t q74)), oO q76 (.binI .lss (.t q75) (.c (.i .i64 0)))]) (.cond (.t q76) (.seq (.seq (.reg [oM q77 q5, oO q78 (.len (.t q77)), oO q79 (.binI .geq (.t q78) (.c (.i .i64 400)))]) (.cond (.t q79) (.seq (.reg [oO q80 (.fa 2 (.t q6)), ⟨none, none, .st 1 (.t q80) (.c (.b true))⟩]) (.seq (.reg [oO q81 (.ldN 3 (.t q6)), ⟨none, none, .st 3 (.t q2) (.t q81)⟩]) .ret)) .skip)) K33_6) .skip)
def K33_8 : IC := .seq (.seq (.reg [oO q11 (.mov (.c (.i .i64 0)))]) (.block 6 (.loop L33_5))) K33_7
def K33_9 : IC := .reg [oM q33 q9, oO q34 (.binI .add (.t q33) (.c (.i .i64 1))), oM q9 q34]
def K33_10 : IC := .seq (.block 5 (.seq (.reg [oM q35 q8, oM q36 q9, oO q37 (.ixS 1 (.t q35) (.t q36)), ⟨none, none, .st 1 (.t q37) (.c (.i .i64 (.negSucc 0)))⟩]) (.seq (.reg [oM q38 q0, oM q39 q5, oM q40 q7, oO q41 (.ixS 1 (.t q39) (.t q40)), oO q42 (.ld1 (.t q41)), oM q43 q9, oO q44 (.cvI .u8 (.t q43)), oO q45 (.call 54 [.t q38, .t q42, .t q44]), oM q10 q45]) (.seq (.seq (.reg [oM q46 q10, oO q47 (.len (.t q46)), oO q48 (.binI .eql (.t q47) (.c (.i .i64 0)))]) (.cond (.t q48) (.exit 5) .skip)) K33_8)))) K33_9
def L33_11 : IC := .seq (.seq (.reg [oM q31 q9, oO q32 (.binI .lss (.t q31) (.c (.i .i64 256)))]) (.cond (.t q32) .skip (.exit 4))) K33_10
def K33_12 : IC := .seq (.reg [oO q91 (.fa 0 (.t q6)), oO q92 (.ld1 (.t q91)), oM q93 q8, oO q94 (.bsl 1 1 [.nils] [(0, 1, .t q93)]), oO q95 (.app 1 24 (.t q92) (.t q94)), oO q96 (.fa 0 (.t q6)), ⟨none, none, .st 1 (.t q96) (.t q95)⟩]) (.dreg 0 [(oO q97 (.fa 1 (.t q6)), .pu), (oO q98 (.ld1 (.t q97)), .rd 0), (oM q99 q0, .pu), (oM q100 q5, .pu), (oM q101 q7, .pu), (oO q102 (.ixS 1 (.t q100) (.t q101)), .pu), (oO q103 (.ld1 (.t q102)), .rd 0), (oO q104 (.call 56 [.t q99, .t q103]), .ad), (oO q105 (.bsl 1 1 [.i .i64 0] [(0, 1, .t q104)]), .ad)] [oO q106 (.app 1 8 (.t q98) (.t q105)), oO q107 (.fa 1 (.t q6)), ⟨none, none, .st 1 (.t q107) (.t q106)⟩] [])
def K33_13 : IC := .reg [oM q28 q7, oO q29 (.binI .add (.t q28) (.c (.i .i64 1))), oM q7 q29]
def K33_14 : IC := .seq (.block 3 (.seq (.reg [oO q30 (.mks 1 8 [.i .i64 0] (.c (.i .i64 256)) (.c (.i .i64 256))), oM q8 q30]) (.seq (.seq (.reg [oO q9 (.mov (.c (.i .i64 0)))]) (.block 4 (.loop L33_11))) K33_12))) K33_13
def L33_15 : IC := .seq (.seq (.reg [oM q24 q7, oM q25 q5, oO q26 (.len (.t q25)), oO q27 (.binI .lss (.t q24) (.t q26))]) (.cond (.t q27) .skip (.exit 2))) K33_14
def K33_16 : IC := .seq (.reg [oO q108 (.ldN 3 (.t q6)), ⟨none, none, .st 3 (.t q2) (.t q108)⟩]) .ret
def K33_17 : IC := .seq (.reg [oM q22 q3, oO q23 (.bsl 1 1 [.nils] [(0, 1, .t q22)]), oM q5 q23]) (.seq (.reg [oO q6 (.new [.nils, .nils, .b false])]) (.seq (.seq (.reg [oO q7 (.mov (.c (.i .i64 0)))]) (.block 2 (.loop L33_15))) K33_16))
def B33 : IC := .seq (.reg [oO q2 (.new [.nils, .nils, .b false])]) (.seq (.reg [oO q3 (.mov (.c .nils))]) (.seq (.seq (.reg [oO q4 (.mov (.c (.i .i64 0)))]) (.block 0 (.loop L33_2))) K33_17))
def F33 : IFn := ⟨109, [.cN q2 3], B33⟩
theorem R33 : F33.res = [.cN q2 3] := rfl
theorem fits33 : FitsF Try.prog 33 F33 := cmpF_fits (pol := fun _ => false) Try.func33 (by kernel_rfl)
def K34_0 : IC := .reg [oM q31 q7, oO q32 (.binI .add (.t q31) (.c (.i .i64 1))), oM q7 q32]
def K34_1 : IC := .seq (.block 5 (.reg [oO q33 (.fa 0 (.t q1)), oO q34 (.ld1 (.t q33)), oM q35 q5, oO q36 (.ixS 1 (.t q34) (.t q35)), oO q37 (.ld1 (.t q36)), oM q38 q7, oO q39 (.ixS 1 (.t q37) (.t q38)), oO q40 (.ld1 (.t q39)), oO q41 (.binI .geq (.t q40) (.c (.i .i64 0))), oM q42 q41, oG q43 q42 true (.mov (.t q3)), oG q44 q42 true (.fa 0 (.t q1)), oG q45 q42 true (.ld1 (.t q44)), oG q46 q42 true (.mov (.t q5)), oG q47 q42 true (.ixS 1 (.t q45) (.t q46)), oG q48 q42 true (.ld1 (.t q47)), oG q49 q42 true (.mov (.t q7)), oG q50 q42 true (.ixS 1 (.t q48) (.t q49)), oG q51 q42 true (.ld1 (.t q50)), oG q52 q42 true (.ixS 1 (.t q43) (.t q51)), oG q53 q42 true (.ld1 (.t q52)), oO q54 (.pick (.t q42) (.t q53) (.c (.b false))), oM q6 q54])) K34_0
def L34_2 : IC := .seq (.seq (.reg [oM q25 q7, oO q26 (.binI .lss (.t q25) (.c (.i .i64 256))), oM q27 q26, oG q28 q27 true (.mov (.t q6)), oG q29 q27 true (.un .not (.t q28)), oO q30 (.pick (.t q27) (.t q29) (.c (.b false)))]) (.cond (.t q30) .skip (.exit 4))) K34_1
def K34_3 : IC := .seq (.reg [oM q55 q6, oM q56 q55, oG q57 q56 true (.mov (.t q3)), oG q58 q56 true (.mov (.t q5)), oG q59 q56 true (.ixS 1 (.t q57) (.t q58)), oG q60 q56 true (.ld1 (.t q59)), oG q61 q56 true (.un .not (.t q60)), oO q62 (.pick (.t q56) (.t q61) (.c (.b false)))]) (.cond (.t q62) (.seq (.reg [oM q63 q3, oM q64 q5, oO q65 (.ixS 1 (.t q63) (.t q64)), ⟨none, none, .st 1 (.t q65) (.c (.b true))⟩]) (.reg [oO q4 (.mov (.c (.b true)))])) .skip)
def K34_4 : IC := .reg [oM q17 q5, oO q18 (.binI .add (.t q17) (.c (.i .i64 1))), oM q5 q18]
def K34_5 : IC := .seq (.block 3 (.seq (.reg [oO q19 (.fa 1 (.t q1)), oO q20 (.ld1 (.t q19)), oM q21 q5, oO q22 (.ixS 1 (.t q20) (.t q21)), oO q23 (.ld1 (.t q22)), oO q24 (.binI .geq (.t q23) (.c (.i .i64 0))), oM q6 q24]) (.seq (.seq (.reg [oO q7 (.mov (.c (.i .i64 0)))]) (.block 4 (.loop L34_2))) K34_3))) K34_4
def L34_6 : IC := .seq (.seq (.reg [oM q13 q5, oM q14 q3, oO q15 (.len (.t q14)), oO q16 (.binI .lss (.t q13) (.t q15))]) (.cond (.t q16) .skip (.exit 2))) K34_5
def K34_7 : IC := .block 1 (.seq (.reg [oO q4 (.mov (.c (.b false)))]) (.seq (.reg [oO q5 (.mov (.c (.i .i64 0)))]) (.block 2 (.loop L34_6))))
def L34_8 : IC := .seq (.seq (.reg [oM q12 q4]) (.cond (.t q12) .skip (.exit 0))) K34_7
def K34_9 : IC := .seq (.reg [oM q66 q3, oM q2 q66]) .ret
def B34 : IC := .seq (.reg [oO q1 (.box (.t q0)), oO q2 (.mov (.c .nils))]) (.seq (.reg [oO q8 (.fa 1 (.t q1)), oO q9 (.ld1 (.t q8)), oO q10 (.len (.t q9)), oO q11 (.mks 1 1 [.b false] (.t q10) (.t q10)), oM q3 q11]) (.seq (.seq (.reg [oO q4 (.mov (.c (.b true)))]) (.block 0 (.loop L34_8))) K34_9))
def F34 : IFn := ⟨67, [.tmp q2], B34⟩
theorem R34 : F34.res = [.tmp q2] := rfl
theorem fits34 : FitsF Try.prog 34 F34 := cmpF_fits (pol := fun _ => false) Try.func34 (by kernel_rfl)
def K35_0 : IC := .reg [oM q18 q5, oO q19 (.binI .add (.t q18) (.c (.i .i64 1))), oM q5 q19]
def K35_1 : IC := .seq (.block 1 (.reg [oM q20 q4, oM q21 q5, oO q22 (.fa 1 (.t q1)), oO q23 (.ld1 (.t q22)), oM q24 q5, oO q25 (.ixS 1 (.t q23) (.t q24)), oO q26 (.ld1 (.t q25)), oO q27 (.binI .add (.t q26) (.c (.i .i64 1))), oO q28 (.ixS 1 (.t q20) (.t q21)), ⟨none, none, .st 1 (.t q28) (.t q27)⟩])) K35_0
def L35_2 : IC := .seq (.seq (.reg [oM q15 q5, oM q16 q3, oO q17 (.binI .lss (.t q15) (.t q16))]) (.cond (.t q17) .skip (.exit 0))) K35_1
def K35_3 : IC := .reg [oM q49 q9, oO q50 (.binI .add (.t q49) (.c (.i .i64 1))), oM q9 q50]
def K35_4 : IC := .seq (.block 7 (.seq (.reg [oO q51 (.ldN 3 (.t q1)), oM q52 q4, oM q53 q8, oM q54 q9, oO q55 (.call 57 [.t q51, .t q52, .t q53, .t q54])]) (.cond (.t q55) (.reg [oM q56 q6, oM q57 q8, oM q58 q6, oM q59 q9, oO q60 (.ixS 1 (.t q58) (.t q59)), oO q61 (.ld1 (.t q60)), oO q62 (.ixS 1 (.t q56) (.t q57)), ⟨none, none, .st 1 (.t q62) (.t q61)⟩]) .skip))) K35_3
def L35_5 : IC := .seq (.seq (.reg [oM q39 q9, oM q40 q8, oO q41 (.binI .lss (.t q39) (.t q40)), oM q42 q41, oG q43 q42 true (.mov (.t q6)), oG q44 q42 true (.mov (.t q8)), oG q45 q42 true (.ixS 1 (.t q43) (.t q44)), oG q46 q42 true (.ld1 (.t q45)), oG q47 q42 true (.binI .lss (.t q46) (.c (.i .i64 0))), oO q48 (.pick (.t q42) (.t q47) (.c (.b false)))]) (.cond (.t q48) .skip (.exit 6))) K35_4
def K35_6 : IC := .seq (.reg [oM q63 q6, oM q64 q8, oO q65 (.ixS 1 (.t q63) (.t q64)), oO q66 (.ld1 (.t q65)), oO q67 (.binI .lss (.t q66) (.c (.i .i64 0)))]) (.cond (.t q67) (.seq (.reg [oM q68 q6, oM q69 q8, oM q70 q7, oO q71 (.ixS 1 (.t q68) (.t q69)), ⟨none, none, .st 1 (.t q71) (.t q70)⟩]) (.reg [oM q72 q7, oO q73 (.binI .add (.t q72) (.c (.i .i64 1))), oM q7 q73])) .skip)
def K35_7 : IC := .reg [oM q34 q8, oO q35 (.binI .add (.t q34) (.c (.i .i64 1))), oM q8 q35]
def K35_8 : IC := .seq (.block 5 (.seq (.reg [oM q36 q6, oM q37 q8, oO q38 (.ixS 1 (.t q36) (.t q37)), ⟨none, none, .st 1 (.t q38) (.c (.i .i64 (.negSucc 0)))⟩]) (.seq (.seq (.reg [oO q9 (.mov (.c (.i .i64 0)))]) (.block 6 (.loop L35_5))) K35_6))) K35_7
def L35_9 : IC := .seq (.seq (.reg [oM q31 q8, oM q32 q3, oO q33 (.binI .lss (.t q31) (.t q32))]) (.cond (.t q33) .skip (.exit 4))) K35_8
def K35_10 : IC := .reg [oM q79 q6, oM q4 q79]
def K35_11 : IC := .seq (.seq (.reg [oM q74 q4, oO q75 (.call 58 [.t q74]), oM q76 q7, oO q77 (.binI .eql (.t q75) (.t q76))]) (.cond (.t q77) (.seq (.reg [oM q78 q6, oM q2 q78]) .ret) .skip)) K35_10
def L35_12 : IC := .block 3 (.seq (.reg [oM q29 q3, oO q30 (.mks 1 8 [.i .i64 0] (.t q29) (.t q29)), oM q6 q30]) (.seq (.reg [oO q7 (.mov (.c (.i .i64 0)))]) (.seq (.seq (.reg [oO q8 (.mov (.c (.i .i64 0)))]) (.block 4 (.loop L35_9))) K35_11)))
def B35 : IC := .seq (.reg [oO q1 (.box (.t q0)), oO q2 (.mov (.c .nils))]) (.seq (.reg [oO q10 (.fa 1 (.t q1)), oO q11 (.ld1 (.t q10)), oO q12 (.len (.t q11)), oM q3 q12]) (.seq (.reg [oM q13 q3, oO q14 (.mks 1 8 [.i .i64 0] (.t q13) (.t q13)), oM q4 q14]) (.seq (.seq (.reg [oO q5 (.mov (.c (.i .i64 0)))]) (.block 0 (.loop L35_2))) (.block 2 (.loop L35_12)))))
def F35 : IFn := ⟨80, [.tmp q2], B35⟩
theorem R35 : F35.res = [.tmp q2] := rfl
theorem fits35 : FitsF Try.prog 35 F35 := cmpF_fits (pol := fun _ => false) Try.func35 (by kernel_rfl)
def K36_0 : IC := .seq (.reg [oO q24 (.fa 0 (.t q3)), oO q25 (.ld1 (.t q24)), oM q26 q1, oO q27 (.ixS 1 (.t q25) (.t q26)), oO q28 (.ld1 (.t q27)), oM q29 q2, oO q30 (.ixS 1 (.t q28) (.t q29)), oO q31 (.ld1 (.t q30)), oM q8 q31]) (.seq (.reg [oM q32 q8, oO q33 (.ldN 2 (.t q3)), oM q34 q8, oO q35 (.call 59 [.t q33, .t q34]), oM q6 q32, oM q7 q35]) .ret)
def B36 : IC := .seq (.reg [oO q3 (.box (.t q0)), oO q6 (.mov (.c (.i .i64 0))), oO q7 (.mov (.c (.b false)))]) (.seq (.seq (.reg [oO q9 (.ldN 2 (.t q3)), oM q10 q1, oO q11 (.call 59 [.t q9, .t q10]), oO q12 (.un .not (.t q11)), oM q13 q12, oG q14 q13 false (.mov (.t q2)), oG q15 q13 false (.cvI .i64 (.t q14)), oG q16 q13 false (.fa 0 (.t q3)), oG q17 q13 false (.ld1 (.t q16)), oG q18 q13 false (.mov (.t q1)), oG q19 q13 false (.ixS 1 (.t q17) (.t q18)), oG q20 q13 false (.ld1 (.t q19)), oG q21 q13 false (.len (.t q20)), oG q22 q13 false (.binI .geq (.t q15) (.t q21)), oO q23 (.pick (.t q13) (.c (.b true)) (.t q22))]) (.cond (.t q23) (.seq (.reg [oO q6 (.mov (.c (.i .i64 0))), oO q7 (.mov (.c (.b false)))]) .ret) .skip)) K36_0)
def F36 : IFn := ⟨36, [.tmp q6, .tmp q7], B36⟩
theorem R36 : F36.res = [.tmp q6, .tmp q7] := rfl
theorem fits36 : FitsF Try.prog 36 F36 := cmpF_fits (pol := fun _ => false) Try.func36 (by kernel_rfl)
def K37_0 : IC := .cond (.t q60) (.seq (.reg [oM q76 q5, oM q77 q1, oM q78 q7, oO q79 (.ixS 1 (.t q77) (.t q78)), oO q80 (.ld1 (.t q79)), oO q81 (.bsl 1 1 [.i .i64 0] [(0, 1, .t q80)]), oO q82 (.app 1 8 (.t q76) (.t q81)), oM q5 q82]) (.reg [oM q83 q7, oO q84 (.binI .add (.t q83) (.c (.i .i64 1))), oM q7 q84])) (.seq (.reg [oM q18 q5, oM q19 q0, oM q20 q6, oO q21 (.ixS 1 (.t q19) (.t q20)), oO q22 (.ld1 (.t q21)), oO q23 (.bsl 1 1 [.i .i64 0] [(0, 1, .t q22)]), oO q24 (.app 1 8 (.t q18) (.t q23)), oM q5 q24]) (.seq (.reg [oM q25 q6, oO q26 (.binI .add (.t q25) (.c (.i .i64 1))), oM q6 q26]) (.reg [oM q27 q7, oO q28 (.binI .add (.t q27) (.c (.i .i64 1))), oM q7 q28])))
def K37_1 : IC := .cond (.t q29) (.seq (.reg [oM q51 q5, oM q52 q0, oM q53 q6, oO q54 (.ixS 1 (.t q52) (.t q53)), oO q55 (.ld1 (.t q54)), oO q56 (.bsl 1 1 [.i .i64 0] [(0, 1, .t q55)]), oO q57 (.app 1 8 (.t q51) (.t q56)), oM q5 q57]) (.reg [oM q58 q6, oO q59 (.binI .add (.t q58) (.c (.i .i64 1))), oM q6 q59])) (.seq (.dreg 0 [(oM q61 q6, .pu), (oM q62 q0, .pu), (oO q63 (.len (.t q62)), .pu), (oO q64 (.binI .geq (.t q61) (.t q63)), .pu), (oM q65 q64, .pu), (oG q66 q65 false (.mov (.t q1)), .pu), (oG q67 q65 false (.mov (.t q7)), .pu), (oG q68 q65 false (.ixS 1 (.t q66) (.t q67)), .pu), (oG q69 q65 false (.ld1 (.t q68)), .rd 0), (oG q70 q65 false (.mov (.t q0)), .pu), (oG q71 q65 false (.mov (.t q6)), .pu), (oG q72 q65 false (.ixS 1 (.t q70) (.t q71)), .pu), (oG q73 q65 false (.ld1 (.t q72)), .rd 0)] [oG q74 q65 false (.binI .lss (.t q69) (.t q73)), oO q75 (.pick (.t q65) (.c (.b true)) (.t q74)), oM q60 q75] []) K37_0)
def K37_2 : IC := .block 1 (.block 2 (.seq (.dreg 0 [(oM q30 q7, .pu), (oM q31 q1, .pu), (oO q32 (.len (.t q31)), .pu), (oO q33 (.binI .geq (.t q30) (.t q32)), .pu), (oM q34 q33, .pu), (oG q35 q34 false (.mov (.t q6)), .pu), (oG q36 q34 false (.mov (.t q0)), .pu), (oG q37 q34 false (.len (.t q36)), .pu), (oG q38 q34 false (.binI .lss (.t q35) (.t q37)), .pu), (oG q39 q34 false (.mov (.t q38)), .pu), (oG q40 q39 true (.mov (.t q0)), .pu), (oG q41 q39 true (.mov (.t q6)), .pu), (oG q42 q39 true (.ixS 1 (.t q40) (.t q41)), .pu), (oG q43 q39 true (.ld1 (.t q42)), .rd 0), (oG q44 q39 true (.mov (.t q1)), .pu), (oG q45 q39 true (.mov (.t q7)), .pu), (oG q46 q39 true (.ixS 1 (.t q44) (.t q45)), .pu), (oG q47 q39 true (.ld1 (.t q46)), .rd 0)] [oG q48 q39 true (.binI .lss (.t q43) (.t q47)), oG q49 q34 false (.pick (.t q39) (.t q48) (.c (.b false))), oO q50 (.pick (.t q34) (.c (.b true)) (.t q49)), oM q29 q50] []) K37_1))
def L37_3 : IC := .seq (.seq (.reg [oM q8 q6, oM q9 q0, oO q10 (.len (.t q9)), oO q11 (.binI .lss (.t q8) (.t q10)), oM q12 q11, oG q13 q12 false (.mov (.t q7)), oG q14 q12 false (.mov (.t q1)), oG q15 q12 false (.len (.t q14)), oG q16 q12 false (.binI .lss (.t q13) (.t q15)), oO q17 (.pick (.t q12) (.c (.b true)) (.t q16))]) (.cond (.t q17) .skip (.exit 0))) K37_2
def K37_4 : IC := .seq (.reg [oM q85 q5, oM q4 q85]) .ret
def B37 : IC := .seq (.reg [oO q4 (.mov (.c .nils))]) (.seq (.reg [oO q5 (.mov (.c .nils))]) (.seq (.reg [oO q6 (.mov (.c (.i .i64 0)))]) (.seq (.reg [oO q7 (.mov (.c (.i .i64 0)))]) (.seq (.block 0 (.loop L37_3)) K37_4))))
def F37 : IFn := ⟨86, [.tmp q4], B37⟩
theorem R37 : F37.res = [.tmp q4] := rfl
theorem fits37 : FitsF Try.prog 37 F37 := cmpF_fits (pol := fun _ => false) Try.func37 (by kernel_rfl)
def K38_0 : IC := .block 1 (.reg [oM q26 q5, oM q27 q0, oM q28 q1, oO q29 (.call 60 [.t q27, .t q28]), oO q30 (.bsl 6 1 [.i .i64 0, .i .u64 0, .i .u64 0, .i .u64 0, .i .u64 0, .nils] [(0, 6, .t q29)]), oO q31 (.app 6 64 (.t q26) (.t q30)), oM q5 q31])
def L38_1 : IC := .seq (.seq (.reg [oM q6 q0, oO q7 (.nck (.t q6)), oO q8 (.fa 2 (.t q7)), oO q9 (.ld1 (.t q8)), oO q10 (.binI .eql (.t q9) (.c (.i .i64 0))), oM q11 q10, oG q12 q11 true (.mov (.t q0)), oG q13 q11 true (.call 20 [.t q12]), oG q14 q11 true (.un .not (.t q13)), oO q15 (.pick (.t q11) (.t q14) (.c (.b false))), oM q16 q15, oG q17 q16 true (.mov (.t q0)), oG q18 q16 true (.call 39 [.t q17, .c (.i .u8 124)]), oG q19 q16 true (.un .not (.t q18)), oO q20 (.pick (.t q16) (.t q19) (.c (.b false))), oM q21 q20, oG q22 q21 true (.mov (.t q0)), oG q23 q21 true (.call 39 [.t q22, .c (.i .u8 41)]), oG q24 q21 true (.un .not (.t q23)), oO q25 (.pick (.t q21) (.t q24) (.c (.b false)))]) (.cond (.t q25) .skip (.exit 0))) K38_0
def K38_2 : IC := .seq (.reg [oM q42 q5, oO q43 (.build [.i .i64 0, .i .u64 0, .i .u64 0, .i .u64 0, .i .u64 0, .nils] [(0, 1, .c (.i .i64 2)), (5, 1, .t q42)]), ⟨none, none, .st 6 (.t q4) (.t q43)⟩]) .ret
def K38_3 : IC := .seq (.seq (.reg [oM q32 q5, oO q33 (.len (.t q32))]) (.block 2 (.seq (.reg [oO q35 (.binI .eql (.t q33) (.c (.i .i64 0))), oM q34 q35]) (.cond (.t q34) (.seq (.reg [oO q36 (.build [.i .i64 0, .i .u64 0, .i .u64 0, .i .u64 0, .i .u64 0, .nils] []), ⟨none, none, .st 6 (.t q4) (.t q36)⟩]) .ret) (.seq (.reg [oO q38 (.binI .eql (.t q33) (.c (.i .i64 1))), oM q37 q38]) (.cond (.t q37) (.seq (.reg [oM q39 q5, oO q40 (.ixS 6 (.t q39) (.c (.i .i64 0))), oO q41 (.ldN 6 (.t q40)), ⟨none, none, .st 6 (.t q4) (.t q41)⟩]) .ret) .skip)))))) K38_2
def B38 : IC := .seq (.reg [oO q4 (.new [.i .i64 0, .i .u64 0, .i .u64 0, .i .u64 0, .i .u64 0, .nils])]) (.seq (.reg [oO q5 (.mov (.c .nils))]) (.seq (.block 0 (.loop L38_1)) K38_3))
def F38 : IFn := ⟨44, [.cN q4 6], B38⟩
theorem R38 : F38.res = [.cN q4 6] := rfl
theorem fits38 : FitsF Try.prog 38 F38 := cmpF_fits (pol := fun _ => false) Try.func38 (by kernel_rfl)
def B39 : IC := .seq (.reg [oO q4 (.mov (.c (.b false)))]) (.seq (.dreg 0 [(oM q5 q0, .pu), (oO q6 (.call 20 [.t q5]), .md), (oO q7 (.un .not (.t q6)), .pu), (oM q8 q7, .pu), (oG q9 q8 true (.mov (.t q0)), .pu), (oG q10 q8 true (.nck (.t q9)), .pu), (oG q11 q8 true (.fa 0 (.t q10)), .pu), (oG q12 q8 true (.ld1 (.t q11)), .rd 0), (oG q13 q8 true (.mov (.t q0)), .pu), (oG q14 q8 true (.nck (.t q13)), .pu), (oG q15 q8 true (.fa 1 (.t q14)), .pu), (oG q16 q8 true (.ld1 (.t q15)), .rd 0), (oG q17 q8 true (.pu2 .ixT (.t q12) (.t q16)), .pu), (oG q18 q8 true (.mov (.t q1)), .pu)] [oG q19 q8 true (.binI .eql (.t q17) (.t q18)), oO q20 (.pick (.t q8) (.t q19) (.c (.b false))), oM q4 q20] []) .ret)
def F39 : IFn := ⟨21, [.tmp q4], B39⟩
theorem R39 : F39.res = [.tmp q4] := rfl
theorem fits39 : FitsF Try.prog 39 F39 := cmpF_fits (pol := fun _ => false) Try.func39 (by kernel_rfl)
def K52_0 : IC := .reg [oM q11 q6, oO q12 (.binI .add (.t q11) (.c (.i .i64 1))), oM q6 q12]
def K52_1 : IC := .seq (.block 1 (.dreg 0 [(oM q13 q0, .pu), (oO q14 (.nck (.t q13)), .pu), (oO q15 (.fa 0 (.t q14)), .pu), (oO q16 (.fa 4 (.t q15)), .pu), (oO q17 (.ld1 (.t q16)), .rd 0), (oM q18 q1, .pu), (oM q19 q6, .pu), (oO q20 (.ixS 1 (.t q18) (.t q19)), .pu), (oO q21 (.ld1 (.t q20)), .rd 0), (oM q22 q0, .pu), (oO q23 (.nck (.t q22)), .pu), (oO q24 (.fa 0 (.t q23)), .pu), (oO q25 (.fa 4 (.t q24)), .pu), (oO q26 (.ld1 (.t q25)), .rd 0), (oM q27 q1, .pu), (oM q28 q6, .pu), (oO q29 (.ixS 1 (.t q27) (.t q28)), .pu), (oO q30 (.ld1 (.t q29)), .rd 0), (oO q31 (.ixS 1 (.t q26) (.t q30)), .pu), (oO q32 (.ld1 (.t q31)), .rd 0), (oM q33 q2, .pu), (oO q34 (.call 37 [.t q32, .t q33]), .ad)] [oO q35 (.ixS 1 (.t q17) (.t q21)), ⟨none, none, .st 1 (.t q35) (.t q34)⟩] [])) K52_0
def L52_2 : IC := .seq (.seq (.reg [oM q7 q6, oM q8 q1, oO q9 (.len (.t q8)), oO q10 (.binI .lss (.t q7) (.t q9))]) (.cond (.t q10) .skip (.exit 0))) K52_1
def B52 : IC := .seq (.reg [oO q6 (.mov (.c (.i .i64 0)))]) (.block 0 (.loop L52_2))
def F52 : IFn := ⟨36, [], B52⟩
theorem R52 : F52.res = [] := rfl
theorem fits52 : FitsF Try.prog 52 F52 := cmpF_fits (pol := fun _ => false) Try.func52 (by kernel_rfl)
def K53_0 : IC := .block 1 (.reg [oM q18 q5, oO q19 (.binI .add (.t q18) (.c (.i .i64 1))), oM q5 q19])
def L53_1 : IC := .seq (.seq (.dreg 0 [(oM q6 q5, .pu), (oM q7 q0, .pu), (oO q8 (.len (.t q7)), .pu), (oO q9 (.binI .lss (.t q6) (.t q8)), .pu), (oM q10 q9, .pu), (oG q11 q10 true (.mov (.t q0)), .pu), (oG q12 q10 true (.mov (.t q5)), .pu), (oG q13 q10 true (.ixS 2 (.t q11) (.t q12)), .pu), (oG q14 q10 true (.ldN 2 (.t q13)), .rd 0), (oG q15 q10 true (.ldN 2 (.t q3)), .rd 0)] [oG q16 q10 true (.call 67 [.t q14, .t q15]), oO q17 (.pick (.t q10) (.t q16) (.c (.b false)))] []) (.cond (.t q17) .skip (.exit 0))) K53_0
def K53_2 : IC := .cond (.t q31) (.seq (.reg [oM q32 q0, oM q4 q32]) .ret) .skip
def K53_3 : IC := .seq (.dreg 1 [(oM q33 q0, .pu), (oM q34 q5, .pu), (oO q35 (.cut 2 (.t q33) none (some (.t q34))), .pu), (oO q36 (.app 2 16 (.c .nils) (.t q35)), .md), (oO q37 (.ldN 2 (.t q3)), .rd 1), (oO q38 (.bsl 2 1 [.i .i64 0, .i .i64 0] [(0, 2, .t q37)]), .fl 0), (oO q39 (.app 2 16 (.t q36) (.t q38)), .ma [0]), (oM q40 q0, .pu), (oM q41 q5, .pu), (oO q42 (.cut 2 (.t q40) (some (.t q41)) none), .pu)] [oO q43 (.app 2 16 (.t q39) (.t q42)), oM q4 q43] [(3, 4)]) .ret
def K53_4 : IC := .seq (.seq (.dreg 0 [(oM q20 q5, .pu), (oM q21 q0, .pu), (oO q22 (.len (.t q21)), .pu), (oO q23 (.binI .lss (.t q20) (.t q22)), .pu), (oM q24 q23, .pu), (oG q25 q24 true (.mov (.t q0)), .pu), (oG q26 q24 true (.mov (.t q5)), .pu), (oG q27 q24 true (.ixS 2 (.t q25) (.t q26)), .pu), (oG q28 q24 true (.ldN 2 (.t q27)), .rd 0), (oG q29 q24 true (.ldN 2 (.t q3)), .rd 0)] [oG q30 q24 true (.pu2 (.eqA 2 false) (.t q28) (.t q29)), oO q31 (.pick (.t q24) (.t q30) (.c (.b false)))] []) K53_2) K53_3
def B53 : IC := .seq (.reg [oO q3 (.box (.t q1)), oO q4 (.mov (.c .nils))]) (.seq (.reg [oO q5 (.mov (.c (.i .i64 0)))]) (.seq (.block 0 (.loop L53_1)) K53_4))
def F53 : IFn := ⟨44, [.tmp q4], B53⟩
theorem R53 : F53.res = [.tmp q4] := rfl
theorem fits53 : FitsF Try.prog 53 F53 := cmpF_fits (pol := fun _ => false) Try.func53 (by kernel_rfl)
def K54_0 : IC := .cond (.t q58) (.dreg 0 [(oM q59 q7, .pu), (oM q60 q1, .pu), (oM q61 q8, .pu), (oO q62 (.ixS 2 (.t q60) (.t q61)), .pu), (oO q63 (.fa 0 (.t q62)), .pu), (oO q64 (.ld1 (.t q63)), .rd 0), (oM q65 q10, .pu), (oM q66 q11, .pu), (oO q67 (.ixS 1 (.t q65) (.t q66)), .pu), (oO q68 (.ld1 (.t q67)), .rd 0), (oO q69 (.build [.i .i64 0, .i .i64 0] [(0, 1, .t q64), (1, 1, .t q68)]), .pu)] [oO q70 (.call 53 [.t q59, .t q69]), oM q7 q70] []) .skip
def K54_1 : IC := .reg [oM q47 q11, oO q48 (.binI .add (.t q47) (.c (.i .i64 1))), oM q11 q48]
def K54_2 : IC := .seq (.block 3 (.seq (.dreg 0 [(oO q49 (.fa 0 (.t q9)), .pu), (oO q50 (.ld1 (.t q49)), .rd 0), (oM q51 q10, .pu), (oM q52 q11, .pu), (oO q53 (.ixS 1 (.t q51) (.t q52)), .pu), (oO q54 (.ld1 (.t q53)), .rd 0), (oO q55 (.ixS 4 (.t q50) (.t q54)), .pu), (oO q56 (.ldN 4 (.t q55)), .rd 0), (oM q57 q2, .pu)] [oO q58 (.call 29 [.t q56, .t q57])] []) K54_0)) K54_1
def L54_3 : IC := .seq (.seq (.reg [oM q43 q11, oM q44 q10, oO q45 (.len (.t q44)), oO q46 (.binI .lss (.t q43) (.t q45))]) (.cond (.t q46) .skip (.exit 2))) K54_2
def K54_4 : IC := .seq (.reg [oO q11 (.mov (.c (.i .i64 0)))]) (.block 2 (.loop L54_3))
def K54_5 : IC := .reg [oM q16 q8, oO q17 (.binI .add (.t q16) (.c (.i .i64 1))), oM q8 q17]
def K54_6 : IC := .seq (.block 1 (.seq (.reg [oM q18 q0, oM q19 q1, oM q20 q8, oO q21 (.ixS 2 (.t q19) (.t q20)), oO q22 (.fa 0 (.t q21)), oO q23 (.ld1 (.t q22)), oO q24 (.ixS 5 (.t q18) (.t q23)), oO q25 (.ldN 5 (.t q24)), oO q9 (.new [.nils, .b false, .nils, .nils, .nils]), ⟨none, none, .st 5 (.t q9) (.t q25)⟩]) (.seq (.reg [oO q26 (.fa 2 (.t q9)), oO q27 (.ld1 (.t q26)), oM q10 q27]) (.seq (.seq (.reg [oM q28 q1, oM q29 q8, oO q30 (.ixS 2 (.t q28) (.t q29)), oO q31 (.fa 1 (.t q30)), oO q32 (.ld1 (.t q31)), oO q33 (.binI .geq (.t q32) (.c (.i .i64 0)))]) (.cond (.t q33) (.dreg 0 [(oO q34 (.fa 4 (.t q9)), .pu), (oO q35 (.ld1 (.t q34)), .rd 0), (oM q36 q1, .pu), (oM q37 q8, .pu), (oO q38 (.ixS 2 (.t q36) (.t q37)), .pu), (oO q39 (.fa 1 (.t q38)), .pu), (oO q40 (.ld1 (.t q39)), .rd 0)] [oO q41 (.ixS 1 (.t q35) (.t q40)), oO q42 (.ld1 (.t q41)), oM q10 q42] []) .skip)) K54_4)))) K54_5
def L54_7 : IC := .seq (.seq (.reg [oM q12 q8, oM q13 q1, oO q14 (.len (.t q13)), oO q15 (.binI .lss (.t q12) (.t q14))]) (.cond (.t q15) .skip (.exit 0))) K54_6
def K54_8 : IC := .seq (.reg [oM q71 q7, oM q6 q71]) .ret
def B54 : IC := .seq (.reg [oO q6 (.mov (.c .nils))]) (.seq (.reg [oO q7 (.mov (.c .nils))]) (.seq (.seq (.reg [oO q8 (.mov (.c (.i .i64 0)))]) (.block 0 (.loop L54_7))) K54_8))
def F54 : IFn := ⟨72, [.tmp q6], B54⟩
theorem R54 : F54.res = [.tmp q6] := rfl
theorem fits54 : FitsF Try.prog 54 F54 := cmpF_fits (pol := fun _ => false) Try.func54 (by kernel_rfl)
def K55_0 : IC := .cond (.t q25) (.seq (.reg [oO q4 (.mov (.c (.b false)))]) .ret) .skip
def K55_1 : IC := .reg [oM q15 q5, oO q16 (.binI .add (.t q15) (.c (.i .i64 1))), oM q5 q16]
def K55_2 : IC := .seq (.block 1 (.seq (.dreg 0 [(oM q17 q0, .pu), (oM q18 q5, .pu), (oO q19 (.ixS 2 (.t q17) (.t q18)), .pu), (oO q20 (.ldN 2 (.t q19)), .rd 0), (oM q21 q1, .pu), (oM q22 q5, .pu), (oO q23 (.ixS 2 (.t q21) (.t q22)), .pu), (oO q24 (.ldN 2 (.t q23)), .rd 0)] [oO q25 (.pu2 (.eqA 2 true) (.t q20) (.t q24))] []) K55_0)) K55_1
def L55_3 : IC := .seq (.seq (.reg [oM q11 q5, oM q12 q0, oO q13 (.len (.t q12)), oO q14 (.binI .lss (.t q11) (.t q13))]) (.cond (.t q14) .skip (.exit 0))) K55_2
def K55_4 : IC := .seq (.reg [oO q4 (.mov (.c (.b true)))]) .ret
def K55_5 : IC := .seq (.seq (.reg [oO q5 (.mov (.c (.i .i64 0)))]) (.block 0 (.loop L55_3))) K55_4
def B55 : IC := .seq (.reg [oO q4 (.mov (.c (.b false)))]) (.seq (.seq (.reg [oM q6 q0, oO q7 (.len (.t q6)), oM q8 q1, oO q9 (.len (.t q8)), oO q10 (.binI .neq (.t q7) (.t q9))]) (.cond (.t q10) (.seq (.reg [oO q4 (.mov (.c (.b false)))]) .ret) .skip)) K55_5)
def F55 : IFn := ⟨26, [.tmp q4], B55⟩
theorem R55 : F55.res = [.tmp q4] := rfl
theorem fits55 : FitsF Try.prog 55 F55 := cmpF_fits (pol := fun _ => false) Try.func55 (by kernel_rfl)
def K56_0 : IC := .cond (.t q48) (.seq (.reg [oM q49 q1, oM q50 q5, oO q51 (.ixS 2 (.t q49) (.t q50)), oO q52 (.fa 0 (.t q51)), oO q53 (.ld1 (.t q52)), oM q4 q53]) .ret) .skip
def K56_1 : IC := .reg [oM q11 q5, oO q12 (.binI .add (.t q11) (.c (.i .i64 1))), oM q5 q12]
def K56_2 : IC := .seq (.block 1 (.seq (.reg [oM q13 q0, oM q14 q1, oM q15 q5, oO q16 (.ixS 2 (.t q14) (.t q15)), oO q17 (.fa 0 (.t q16)), oO q18 (.ld1 (.t q17)), oO q19 (.ixS 5 (.t q13) (.t q18)), oO q20 (.ldN 5 (.t q19)), oO q6 (.new [.nils, .b false, .nils, .nils, .nils]), ⟨none, none, .st 5 (.t q6) (.t q20)⟩]) (.seq (.dreg 0 [(oM q21 q1, .pu), (oM q22 q5, .pu), (oO q23 (.ixS 2 (.t q21) (.t q22)), .pu), (oO q24 (.fa 1 (.t q23)), .pu), (oO q25 (.ld1 (.t q24)), .rd 0), (oO q26 (.binI .lss (.t q25) (.c (.i .i64 0))), .pu), (oM q27 q26, .pu), (oG q28 q27 true (.fa 1 (.t q6)), .pu), (oG q29 q27 true (.ld1 (.t q28)), .rd 0), (oO q30 (.pick (.t q27) (.t q29) (.c (.b false))), .pu), (oM q31 q30, .pu), (oG q32 q31 false (.mov (.t q1)), .pu), (oG q33 q31 false (.mov (.t q5)), .pu), (oG q34 q31 false (.ixS 2 (.t q32) (.t q33)), .pu), (oG q35 q31 false (.fa 1 (.t q34)), .pu), (oG q36 q31 false (.ld1 (.t q35)), .rd 0), (oG q37 q31 false (.binI .geq (.t q36) (.c (.i .i64 0))), .pu), (oG q38 q31 false (.mov (.t q37)), .pu), (oG q39 q38 true (.fa 3 (.t q6)), .pu), (oG q40 q38 true (.ld1 (.t q39)), .rd 0), (oG q41 q38 true (.mov (.t q1)), .pu), (oG q42 q38 true (.mov (.t q5)), .pu), (oG q43 q38 true (.ixS 2 (.t q41) (.t q42)), .pu), (oG q44 q38 true (.fa 1 (.t q43)), .pu), (oG q45 q38 true (.ld1 (.t q44)), .rd 0)] [oG q46 q38 true (.call 68 [.t q40, .t q45]), oG q47 q31 false (.pick (.t q38) (.t q46) (.c (.b false))), oO q48 (.pick (.t q31) (.c (.b true)) (.t q47))] []) K56_0))) K56_1
def L56_3 : IC := .seq (.seq (.reg [oM q7 q5, oM q8 q1, oO q9 (.len (.t q8)), oO q10 (.binI .lss (.t q7) (.t q9))]) (.cond (.t q10) .skip (.exit 0))) K56_2
def K56_4 : IC := .seq (.reg [oO q4 (.mov (.c (.i .i64 (.negSucc 0))))]) .ret
def B56 : IC := .seq (.reg [oO q4 (.mov (.c (.i .i64 0)))]) (.seq (.seq (.reg [oO q5 (.mov (.c (.i .i64 0)))]) (.block 0 (.loop L56_3))) K56_4)
def F56 : IFn := ⟨54, [.tmp q4], B56⟩
theorem R56 : F56.res = [.tmp q4] := rfl
theorem fits56 : FitsF Try.prog 56 F56 := cmpF_fits (pol := fun _ => false) Try.func56 (by kernel_rfl)
def K57_0 : IC := .cond (.t q20) (.seq (.reg [oO q8 (.mov (.c (.b false)))]) .ret) .skip
def K57_1 : IC := .cond (.t q60) (.seq (.reg [oO q8 (.mov (.c (.b false)))]) .ret) .skip
def K57_2 : IC := .reg [oM q23 q9, oO q24 (.binI .add (.t q23) (.c (.i .i64 1))), oM q9 q24]
def K57_3 : IC := .seq (.block 1 (.seq (.reg [oO q25 (.fa 0 (.t q4)), oO q26 (.ld1 (.t q25)), oM q27 q2, oO q28 (.ixS 1 (.t q26) (.t q27)), oO q29 (.ld1 (.t q28)), oM q30 q9, oO q31 (.ixS 1 (.t q29) (.t q30)), oO q32 (.ld1 (.t q31)), oM q10 q32]) (.seq (.reg [oO q33 (.fa 0 (.t q4)), oO q34 (.ld1 (.t q33)), oM q35 q3, oO q36 (.ixS 1 (.t q34) (.t q35)), oO q37 (.ld1 (.t q36)), oM q38 q9, oO q39 (.ixS 1 (.t q37) (.t q38)), oO q40 (.ld1 (.t q39)), oM q11 q40]) (.seq (.dreg 0 [(oM q41 q10, .pu), (oO q42 (.binI .lss (.t q41) (.c (.i .i64 0))), .pu), (oM q43 q11, .pu), (oO q44 (.binI .lss (.t q43) (.c (.i .i64 0))), .pu), (oO q45 (.binB .neq (.t q42) (.t q44)), .pu), (oM q46 q45, .pu), (oG q47 q46 false (.mov (.t q10)), .pu), (oG q48 q46 false (.binI .geq (.t q47) (.c (.i .i64 0))), .pu), (oG q49 q46 false (.mov (.t q48)), .pu), (oG q50 q49 true (.mov (.t q1)), .pu), (oG q51 q49 true (.mov (.t q10)), .pu), (oG q52 q49 true (.ixS 1 (.t q50) (.t q51)), .pu), (oG q53 q49 true (.ld1 (.t q52)), .rd 0), (oG q54 q49 true (.mov (.t q1)), .pu), (oG q55 q49 true (.mov (.t q11)), .pu), (oG q56 q49 true (.ixS 1 (.t q54) (.t q55)), .pu), (oG q57 q49 true (.ld1 (.t q56)), .rd 0)] [oG q58 q49 true (.binI .neq (.t q53) (.t q57)), oG q59 q46 false (.pick (.t q49) (.t q58) (.c (.b false))), oO q60 (.pick (.t q46) (.c (.b true)) (.t q59))] []) K57_1)))) K57_2
def L57_4 : IC := .seq (.seq (.reg [oM q21 q9, oO q22 (.binI .lss (.t q21) (.c (.i .i64 256)))]) (.cond (.t q22) .skip (.exit 0))) K57_3
def K57_5 : IC := .seq (.reg [oO q8 (.mov (.c (.b true)))]) .ret
def K57_6 : IC := .seq (.seq (.reg [oO q9 (.mov (.c (.i .i64 0)))]) (.block 0 (.loop L57_4))) K57_5
def B57 : IC := .seq (.reg [oO q4 (.box (.t q0)), oO q8 (.mov (.c (.b false)))]) (.seq (.seq (.dreg 0 [(oM q12 q1, .pu), (oM q13 q2, .pu), (oO q14 (.ixS 1 (.t q12) (.t q13)), .pu), (oO q15 (.ld1 (.t q14)), .rd 0), (oM q16 q1, .pu), (oM q17 q3, .pu), (oO q18 (.ixS 1 (.t q16) (.t q17)), .pu), (oO q19 (.ld1 (.t q18)), .rd 0)] [oO q20 (.binI .neq (.t q15) (.t q19))] []) K57_0) K57_6)
def F57 : IFn := ⟨61, [.tmp q8], B57⟩
theorem R57 : F57.res = [.tmp q8] := rfl
theorem fits57 : FitsF Try.prog 57 F57 := cmpF_fits (pol := fun _ => false) Try.func57 (by kernel_rfl)
def K58_0 : IC := .cond (.t q19) (.reg [oM q20 q3, oO q21 (.binI .add (.t q20) (.c (.i .i64 1))), oM q3 q21]) .skip
def K58_1 : IC := .reg [oM q9 q4, oO q10 (.binI .add (.t q9) (.c (.i .i64 1))), oM q4 q10]
def K58_2 : IC := .seq (.block 1 (.seq (.dreg 0 [(oM q11 q0, .pu), (oM q12 q4, .pu), (oO q13 (.cut 1 (.t q11) none (some (.t q12))), .pu), (oM q14 q0, .pu), (oM q15 q4, .pu), (oO q16 (.ixS 1 (.t q14) (.t q15)), .pu), (oO q17 (.ld1 (.t q16)), .rd 0)] [oO q18 (.call 68 [.t q13, .t q17]), oO q19 (.un .not (.t q18))] []) K58_0)) K58_1
def L58_3 : IC := .seq (.seq (.reg [oM q5 q4, oM q6 q0, oO q7 (.len (.t q6)), oO q8 (.binI .lss (.t q5) (.t q7))]) (.cond (.t q8) .skip (.exit 0))) K58_2
def K58_4 : IC := .seq (.reg [oM q22 q3, oM q2 q22]) .ret
def B58 : IC := .seq (.reg [oO q2 (.mov (.c (.i .i64 0)))]) (.seq (.reg [oO q3 (.mov (.c (.i .i64 0)))]) (.seq (.seq (.reg [oO q4 (.mov (.c (.i .i64 0)))]) (.block 0 (.loop L58_3))) K58_4))
def F58 : IFn := ⟨23, [.tmp q2], B58⟩
theorem R58 : F58.res = [.tmp q2] := rfl
theorem fits58 : FitsF Try.prog 58 F58 := cmpF_fits (pol := fun _ => false) Try.func58 (by kernel_rfl)
def B59 : IC := .seq (.reg [oO q2 (.box (.t q0)), oO q4 (.mov (.c (.b false)))]) (.seq (.reg [oM q5 q1, oO q6 (.binI .geq (.t q5) (.c (.i .i64 0))), oM q7 q6, oG q8 q7 true (.mov (.t q1)), oG q9 q7 true (.fa 0 (.t q2)), oG q10 q7 true (.ld1 (.t q9)), oG q11 q7 true (.len (.t q10)), oG q12 q7 true (.binI .lss (.t q8) (.t q11)), oO q13 (.pick (.t q7) (.t q12) (.c (.b false))), oM q14 q13, oG q15 q14 true (.mov (.t q1)), oG q16 q14 true (.fa 1 (.t q2)), oG q17 q14 true (.ld1 (.t q16)), oG q18 q14 true (.len (.t q17)), oG q19 q14 true (.binI .lss (.t q15) (.t q18)), oO q20 (.pick (.t q14) (.t q19) (.c (.b false))), oM q4 q20]) .ret)
def F59 : IFn := ⟨21, [.tmp q4], B59⟩
theorem R59 : F59.res = [.tmp q4] := rfl
theorem fits59 : FitsF Try.prog 59 F59 := cmpF_fits (pol := fun _ => false) Try.func59 (by kernel_rfl)
def K60_0 : IC := .seq (.reg [oM q31 q0, oO q32 (.nck (.t q31)), oO q33 (.fa 1 (.t q32)), oO q34 (.ld1 (.t q33)), oO q35 (.binI .add (.t q34) (.c (.i .i64 1))), oO q36 (.nck (.t q31)), oO q37 (.fa 1 (.t q36)), ⟨none, none, .st 1 (.t q37) (.t q35)⟩]) (.reg [oM q38 q6, oO q39 (.ldN 6 (.t q5)), oO q40 (.bsl 6 1 [.i .i64 0, .i .u64 0, .i .u64 0, .i .u64 0, .i .u64 0, .nils] [(0, 6, .t q39)]), oO q41 (.build [.i .i64 0, .i .u64 0, .i .u64 0, .i .u64 0, .i .u64 0, .nils] [(0, 1, .t q38), (5, 1, .t q40)]), ⟨none, none, .st 6 (.t q5) (.t q41)⟩])
def K60_1 : IC := .seq (.seq (.reg [oM q29 q0, oO q30 (.call 39 [.t q29, .c (.i .u8 63)])]) (.cond (.t q30) (.reg [oO q6 (.mov (.c (.i .i64 6)))]) .skip)) K60_0
def K60_2 : IC := .block 1 (.seq (.reg [oO q6 (.mov (.c (.i .i64 4)))]) (.seq (.seq (.reg [oM q27 q0, oO q28 (.call 39 [.t q27, .c (.i .u8 43)])]) (.cond (.t q28) (.reg [oO q6 (.mov (.c (.i .i64 5)))]) .skip)) K60_1))
def L60_3 : IC := .seq (.seq (.reg [oM q10 q0, oO q11 (.nck (.t q10)), oO q12 (.fa 2 (.t q11)), oO q13 (.ld1 (.t q12)), oO q14 (.binI .eql (.t q13) (.c (.i .i64 0))), oM q15 q14, oG q16 q15 true (.mov (.t q0)), oG q17 q15 true (.call 39 [.t q16, .c (.i .u8 42)]), oG q18 q15 true (.mov (.t q17)), oG q19 q18 false (.mov (.t q0)), oG q20 q18 false (.call 39 [.t q19, .c (.i .u8 43)]), oG q21 q15 true (.pick (.t q18) (.c (.b true)) (.t q20)), oG q22 q15 true (.mov (.t q21)), oG q23 q22 false (.mov (.t q0)), oG q24 q22 false (.call 39 [.t q23, .c (.i .u8 63)]), oG q25 q15 true (.pick (.t q22) (.c (.b true)) (.t q24)), oO q26 (.pick (.t q15) (.t q25) (.c (.b false)))]) (.cond (.t q26) .skip (.exit 0))) K60_2
def K60_4 : IC := .seq (.reg [oO q42 (.ldN 6 (.t q5)), ⟨none, none, .st 6 (.t q4) (.t q42)⟩]) .ret
def B60 : IC := .seq (.reg [oO q4 (.new [.i .i64 0, .i .u64 0, .i .u64 0, .i .u64 0, .i .u64 0, .nils])]) (.seq (.reg [oM q7 q0, oM q8 q1, oO q9 (.call 69 [.t q7, .t q8]), oO q5 (.new [.i .i64 0, .i .u64 0, .i .u64 0, .i .u64 0, .i .u64 0, .nils]), ⟨none, none, .st 6 (.t q5) (.t q9)⟩]) (.seq (.block 0 (.loop L60_3)) K60_4))
def F60 : IFn := ⟨43, [.cN q4 6], B60⟩
theorem R60 : F60.res = [.cN q4 6] := rfl
theorem fits60 : FitsF Try.prog 60 F60 := cmpF_fits (pol := fun _ => false) Try.func60 (by kernel_rfl)
def B67 : IC := .seq (.reg [oO q2 (.box (.t q0)), oO q3 (.box (.t q1)), oO q4 (.mov (.c (.b false)))]) (.seq (.reg [oO q5 (.fa 0 (.t q2)), oO q6 (.ld1 (.t q5)), oO q7 (.fa 0 (.t q3)), oO q8 (.ld1 (.t q7)), oO q9 (.binI .lss (.t q6) (.t q8)), oM q10 q9, oG q11 q10 false (.fa 0 (.t q2)), oG q12 q10 false (.ld1 (.t q11)), oG q13 q10 false (.fa 0 (.t q3)), oG q14 q10 false (.ld1 (.t q13)), oG q15 q10 false (.binI .eql (.t q12) (.t q14)), oG q16 q10 false (.mov (.t q15)), oG q17 q16 true (.fa 1 (.t q2)), oG q18 q16 true (.ld1 (.t q17)), oG q19 q16 true (.fa 1 (.t q3)), oG q20 q16 true (.ld1 (.t q19)), oG q21 q16 true (.binI .lss (.t q18) (.t q20)), oG q22 q10 false (.pick (.t q16) (.t q21) (.c (.b false))), oO q23 (.pick (.t q10) (.c (.b true)) (.t q22)), oM q4 q23]) .ret)
def F67 : IFn := ⟨24, [.tmp q4], B67⟩
theorem R67 : F67.res = [.tmp q4] := rfl
theorem fits67 : FitsF Try.prog 67 F67 := cmpF_fits (pol := fun _ => false) Try.func67 (by kernel_rfl)
def K68_0 : IC := .reg [oM q10 q5, oO q11 (.binI .add (.t q10) (.c (.i .i64 1))), oM q5 q11]
def K68_1 : IC := .seq (.block 1 (.seq (.reg [oM q12 q0, oM q13 q5, oO q14 (.ixS 1 (.t q12) (.t q13)), oO q15 (.ld1 (.t q14)), oM q16 q1, oO q17 (.binI .eql (.t q15) (.t q16))]) (.cond (.t q17) (.seq (.reg [oO q4 (.mov (.c (.b true)))]) .ret) .skip))) K68_0
def L68_2 : IC := .seq (.seq (.reg [oM q6 q5, oM q7 q0, oO q8 (.len (.t q7)), oO q9 (.binI .lss (.t q6) (.t q8))]) (.cond (.t q9) .skip (.exit 0))) K68_1
def K68_3 : IC := .seq (.reg [oO q4 (.mov (.c (.b false)))]) .ret
def B68 : IC := .seq (.reg [oO q4 (.mov (.c (.b false)))]) (.seq (.seq (.reg [oO q5 (.mov (.c (.i .i64 0)))]) (.block 0 (.loop L68_2))) K68_3)
def F68 : IFn := ⟨18, [.tmp q4], B68⟩
theorem R68 : F68.res = [.tmp q4] := rfl
theorem fits68 : FitsF Try.prog 68 F68 := cmpF_fits (pol := fun _ => false) Try.func68 (by kernel_rfl)
def K69_0 : IC := .seq (.reg [oM q54 q0, oO q55 (.nck (.t q54)), oO q56 (.fa 1 (.t q55)), oO q57 (.ld1 (.t q56)), oO q58 (.binI .add (.t q57) (.c (.i .i64 1))), oO q59 (.nck (.t q54)), oO q60 (.fa 1 (.t q59)), ⟨none, none, .st 1 (.t q60) (.t q58)⟩]) (.seq (.reg [oO q61 (.ldN 6 (.t q7)), ⟨none, none, .st 6 (.t q4) (.t q61)⟩]) .ret)
def K69_1 : IC := .seq (.reg [oM q27 q0, oO q28 (.nck (.t q27)), oO q29 (.fa 1 (.t q28)), oO q30 (.ld1 (.t q29)), oO q31 (.binI .add (.t q30) (.c (.i .i64 1))), oO q32 (.nck (.t q27)), oO q33 (.fa 1 (.t q32)), ⟨none, none, .st 1 (.t q33) (.t q31)⟩]) (.seq (.reg [oM q34 q0, oM q35 q1, oO q36 (.binI .add (.t q35) (.c (.i .i64 1))), oO q37 (.call 19 [.t q34, .t q36]), oO q7 (.new [.i .i64 0, .i .u64 0, .i .u64 0, .i .u64 0, .i .u64 0, .nils]), ⟨none, none, .st 6 (.t q7) (.t q37)⟩]) (.seq (.seq (.reg [oM q38 q0, oO q39 (.nck (.t q38)), oO q40 (.fa 2 (.t q39)), oO q41 (.ld1 (.t q40)), oO q42 (.binI .eql (.t q41) (.c (.i .i64 0))), oM q43 q42, oG q44 q43 true (.mov (.t q0)), oG q45 q43 true (.call 39 [.t q44, .c (.i .u8 41)]), oG q46 q43 true (.un .not (.t q45)), oO q47 (.pick (.t q43) (.t q46) (.c (.b false)))]) (.cond (.t q47) (.reg [oM q48 q0, oM q49 q0, oO q50 (.nck (.t q49)), oO q51 (.fa 1 (.t q50)), oO q52 (.ld1 (.t q51)), oO q53 (.call 21 [.t q48, .c (.i .i64 2), .t q52])]) .skip)) K69_0))
def K69_2 : IC := .seq (.reg [oM q93 q0, oO q94 (.nck (.t q93)), oO q95 (.fa 1 (.t q94)), oO q96 (.ld1 (.t q95)), oO q97 (.binI .add (.t q96) (.c (.i .i64 1))), oO q98 (.nck (.t q93)), oO q99 (.fa 1 (.t q98)), ⟨none, none, .st 1 (.t q99) (.t q97)⟩]) (.seq (.dreg 0 [(oM q100 q0, .pu), (oO q101 (.nck (.t q100)), .pu), (oO q102 (.fa 0 (.t q101)), .pu), (oO q103 (.ld1 (.t q102)), .rd 0), (oM q104 q0, .pu), (oO q105 (.nck (.t q104)), .pu), (oO q106 (.fa 1 (.t q105)), .pu), (oO q107 (.ld1 (.t q106)), .rd 0), (oO q108 (.binI .sub (.t q107) (.c (.i .i64 1))), .pu)] [oO q109 (.pu2 .ixT (.t q103) (.t q108)), oO q110 (.call 71 [.t q109]), ⟨none, none, .st 6 (.t q4) (.t q110)⟩] []) .ret)
def K69_3 : IC := .seq (.reg [oM q130 q0, oO q131 (.nck (.t q130)), oO q132 (.fa 1 (.t q131)), oO q133 (.ld1 (.t q132)), oO q134 (.binI .add (.t q133) (.c (.i .i64 1))), oO q135 (.nck (.t q130)), oO q136 (.fa 1 (.t q135)), ⟨none, none, .st 1 (.t q136) (.t q134)⟩]) (.seq (.reg [oM q137 q6, oO q138 (.call 71 [.t q137]), ⟨none, none, .st 6 (.t q4) (.t q138)⟩]) .ret)
def B69 : IC := .seq (.reg [oO q4 (.new [.i .i64 0, .i .u64 0, .i .u64 0, .i .u64 0, .i .u64 0, .nils])]) (.seq (.reg [oM q8 q0, oO q9 (.nck (.t q8)), oO q10 (.fa 1 (.t q9)), oO q11 (.ld1 (.t q10)), oM q5 q11]) (.seq (.reg [oM q12 q0, oO q13 (.nck (.t q12)), oO q14 (.fa 0 (.t q13)), oO q15 (.ld1 (.t q14)), oM q16 q5, oO q17 (.pu2 .ixT (.t q15) (.t q16)), oM q6 q17]) (.seq (.block 0 (.seq (.reg [oM q19 q6, oO q20 (.binI .eql (.t q19) (.c (.i .u8 40))), oM q18 q20]) (.cond (.t q18) (.seq (.seq (.reg [oM q21 q1, oO q22 (.binI .geq (.t q21) (.c (.i .i64 20)))]) (.cond (.t q22) (.seq (.reg [oM q23 q0, oM q24 q5, oO q25 (.call 21 [.t q23, .c (.i .i64 4), .t q24])]) (.seq (.reg [oO q26 (.build [.i .i64 0, .i .u64 0, .i .u64 0, .i .u64 0, .i .u64 0, .nils] []), ⟨none, none, .st 6 (.t q4) (.t q26)⟩]) .ret)) .skip)) K69_1) (.seq (.reg [oM q63 q6, oO q64 (.binI .eql (.t q63) (.c (.i .u8 46))), oM q62 q64]) (.cond (.t q62) (.seq (.reg [oM q65 q0, oO q66 (.nck (.t q65)), oO q67 (.fa 1 (.t q66)), oO q68 (.ld1 (.t q67)), oO q69 (.binI .add (.t q68) (.c (.i .i64 1))), oO q70 (.nck (.t q65)), oO q71 (.fa 1 (.t q70)), ⟨none, none, .st 1 (.t q71) (.t q69)⟩]) (.seq (.reg [oO q72 (.call 70 []), oO q73 (.build [.i .i64 0, .i .u64 0, .i .u64 0, .i .u64 0, .i .u64 0, .nils] [(0, 1, .c (.i .i64 1)), (1, 4, .t q72)]), ⟨none, none, .st 6 (.t q4) (.t q73)⟩]) .ret)) (.seq (.reg [oM q75 q6, oO q76 (.binI .eql (.t q75) (.c (.i .u8 92))), oM q74 q76]) (.cond (.t q74) (.seq (.reg [oM q77 q0, oO q78 (.nck (.t q77)), oO q79 (.fa 1 (.t q78)), oO q80 (.ld1 (.t q79)), oO q81 (.binI .add (.t q80) (.c (.i .i64 1))), oO q82 (.nck (.t q77)), oO q83 (.fa 1 (.t q82)), ⟨none, none, .st 1 (.t q83) (.t q81)⟩]) (.seq (.seq (.reg [oM q84 q0, oO q85 (.call 20 [.t q84])]) (.cond (.t q85) (.seq (.reg [oM q86 q0, oM q87 q0, oO q88 (.nck (.t q87)), oO q89 (.fa 1 (.t q88)), oO q90 (.ld1 (.t q89)), oO q91 (.call 21 [.t q86, .c (.i .i64 2), .t q90])]) (.seq (.reg [oO q92 (.build [.i .i64 0, .i .u64 0, .i .u64 0, .i .u64 0, .i .u64 0, .nils] []), ⟨none, none, .st 6 (.t q4) (.t q92)⟩]) .ret)) .skip)) K69_2)) (.seq (.reg [oM q112 q6, oO q113 (.binI .eql (.t q112) (.c (.i .u8 91))), oM q111 q113]) (.cond (.t q111) (.seq (.reg [oM q114 q0, oO q115 (.nck (.t q114)), oO q116 (.fa 1 (.t q115)), oO q117 (.ld1 (.t q116)), oO q118 (.binI .add (.t q117) (.c (.i .i64 1))), oO q119 (.nck (.t q114)), oO q120 (.fa 1 (.t q119)), ⟨none, none, .st 1 (.t q120) (.t q118)⟩]) (.seq (.reg [oM q121 q0, oO q122 (.call 72 [.t q121]), ⟨none, none, .st 6 (.t q4) (.t q122)⟩]) .ret)) (.seq (.reg [oM q124 q6, oO q125 (.call 73 [.t q124]), oM q123 q125]) (.cond (.t q123) (.seq (.reg [oM q126 q0, oM q127 q5, oO q128 (.call 21 [.t q126, .c (.i .i64 2), .t q127])]) (.seq (.reg [oO q129 (.build [.i .i64 0, .i .u64 0, .i .u64 0, .i .u64 0, .i .u64 0, .nils] []), ⟨none, none, .st 6 (.t q4) (.t q129)⟩]) .ret)) .skip))))))))))) K69_3)))
def F69 : IFn := ⟨139, [.cN q4 6], B69⟩
theorem R69 : F69.res = [.cN q4 6] := rfl
theorem fits69 : FitsF Try.prog 69 F69 := cmpF_fits (pol := fun _ => false) Try.func69 (by kernel_rfl)
def K70_0 : IC := .reg [oM q5 q2, oO q6 (.binI .add (.t q5) (.c (.i .i64 1))), oM q2 q6]
def K70_1 : IC := .seq (.block 1 (.seq (.reg [oM q7 q2, oO q8 (.binI .neq (.t q7) (.c (.i .i64 10)))]) (.cond (.t q8) (.reg [oO q9 (.ldN 4 (.t q1)), oM q10 q2, oO q11 (.cvI .u8 (.t q10)), oO q12 (.call 74 [.t q9, .t q11]), ⟨none, none, .st 4 (.t q1) (.t q12)⟩]) .skip))) K70_0
def L70_2 : IC := .seq (.seq (.reg [oM q3 q2, oO q4 (.binI .lss (.t q3) (.c (.i .i64 256)))]) (.cond (.t q4) .skip (.exit 0))) K70_1
def K70_3 : IC := .seq (.reg [oO q13 (.ldN 4 (.t q1)), ⟨none, none, .st 4 (.t q0) (.t q13)⟩]) .ret
def B70 : IC := .seq (.reg [oO q0 (.new [.i .u64 0, .i .u64 0, .i .u64 0, .i .u64 0])]) (.seq (.reg [oO q1 (.new [.i .u64 0, .i .u64 0, .i .u64 0, .i .u64 0])]) (.seq (.seq (.reg [oO q2 (.mov (.c (.i .i64 0)))]) (.block 0 (.loop L70_2))) K70_3))
def F70 : IFn := ⟨14, [.cN q0 4], B70⟩
theorem R70 : F70.res = [.cN q0 4] := rfl
theorem fits70 : FitsF Try.prog 70 F70 := cmpF_fits (pol := fun _ => false) Try.func70 (by kernel_rfl)
def B71 : IC := .seq (.reg [oO q2 (.new [.i .i64 0, .i .u64 0, .i .u64 0, .i .u64 0, .i .u64 0, .nils])]) (.seq (.reg [oO q3 (.new [.i .u64 0, .i .u64 0, .i .u64 0, .i .u64 0])]) (.seq (.reg [oO q4 (.ldN 4 (.t q3)), oM q5 q0, oO q6 (.call 74 [.t q4, .t q5]), oO q7 (.build [.i .i64 0, .i .u64 0, .i .u64 0, .i .u64 0, .i .u64 0, .nils] [(0, 1, .c (.i .i64 1)), (1, 4, .t q6)]), ⟨none, none, .st 6 (.t q2) (.t q7)⟩]) .ret))
def F71 : IFn := ⟨8, [.cN q2 6], B71⟩
theorem R71 : F71.res = [.cN q2 6] := rfl
theorem fits71 : FitsF Try.prog 71 F71 := cmpF_fits (pol := fun _ => false) Try.func71 (by kernel_rfl)
def K72_0 : IC := .cond (.t q84) (.seq (.reg [oM q85 q0, oO q86 (.nck (.t q85)), oO q87 (.fa 1 (.t q86)), oO q88 (.ld1 (.t q87)), oO q89 (.binI .add (.t q88) (.c (.i .i64 1))), oO q90 (.nck (.t q85)), oO q91 (.fa 1 (.t q90)), ⟨none, none, .st 1 (.t q91) (.t q89)⟩]) (.seq (.reg [oM q92 q0, oO q93 (.nck (.t q92)), oO q94 (.fa 1 (.t q93)), oO q95 (.ld1 (.t q94)), oM q8 q95]) (.seq (.reg [oM q96 q0, oO q97 (.call 75 [.t q96]), oM q7 q97]) (.seq (.reg [oM q98 q0, oO q99 (.nck (.t q98)), oO q100 (.fa 2 (.t q99)), oO q101 (.ld1 (.t q100)), oO q102 (.binI .eql (.t q101) (.c (.i .i64 0))), oM q103 q102, oG q104 q103 true (.mov (.t q7)), oG q105 q103 true (.mov (.t q6)), oG q106 q103 true (.binI .lss (.t q104) (.t q105)), oO q107 (.pick (.t q103) (.t q106) (.c (.b false)))]) (.cond (.t q107) (.reg [oM q108 q0, oM q109 q8, oO q110 (.call 21 [.t q108, .c (.i .i64 2), .t q109])]) .skip))))) .skip
def K72_1 : IC := .reg [oM q117 q9, oO q118 (.binI .add (.t q117) (.c (.i .i64 1))), oM q9 q118]
def K72_2 : IC := .seq (.block 3 (.reg [oO q119 (.ldN 4 (.t q3)), oM q120 q9, oO q121 (.cvI .u8 (.t q120)), oO q122 (.call 74 [.t q119, .t q121]), ⟨none, none, .st 4 (.t q3) (.t q122)⟩])) K72_1
def L72_3 : IC := .seq (.seq (.reg [oM q113 q9, oM q114 q7, oO q115 (.cvI .i64 (.t q114)), oO q116 (.binI .leq (.t q113) (.t q115))]) (.cond (.t q116) .skip (.exit 2))) K72_2
def K72_4 : IC := .reg [oM q123 q5, oO q124 (.binI .add (.t q123) (.c (.i .i64 1))), oM q5 q124]
def K72_5 : IC := .seq (.seq (.reg [oM q111 q6, oO q112 (.cvI .i64 (.t q111)), oM q9 q112]) (.block 2 (.loop L72_3))) K72_4
def K72_6 : IC := .seq (.reg [oM q47 q0, oO q48 (.call 75 [.t q47]), oM q6 q48]) (.seq (.reg [oM q49 q6, oM q7 q49]) (.seq (.seq (.dreg 0 [(oM q50 q0, .pu), (oO q51 (.nck (.t q50)), .pu), (oO q52 (.fa 2 (.t q51)), .pu), (oO q53 (.ld1 (.t q52)), .rd 0), (oO q54 (.binI .eql (.t q53) (.c (.i .i64 0))), .pu), (oM q55 q54, .pu), (oG q56 q55 true (.mov (.t q0)), .pu), (oG q57 q55 true (.call 39 [.t q56, .c (.i .u8 45)]), .md), (oO q58 (.pick (.t q55) (.t q57) (.c (.b false))), .pu), (oM q59 q58, .pu), (oG q60 q59 true (.mov (.t q0)), .pu), (oG q61 q59 true (.nck (.t q60)), .pu), (oG q62 q59 true (.fa 1 (.t q61)), .pu), (oG q63 q59 true (.ld1 (.t q62)), .rd 0), (oG q64 q59 true (.binI .add (.t q63) (.c (.i .i64 1))), .pu), (oG q65 q59 true (.mov (.t q0)), .pu), (oG q66 q59 true (.nck (.t q65)), .pu), (oG q67 q59 true (.fa 0 (.t q66)), .pu), (oG q68 q59 true (.ld1 (.t q67)), .rd 0), (oG q69 q59 true (.lenT (.t q68)), .pu), (oG q70 q59 true (.binI .lss (.t q64) (.t q69)), .pu), (oO q71 (.pick (.t q59) (.t q70) (.c (.b false))), .pu), (oM q72 q71, .pu), (oG q73 q72 true (.mov (.t q0)), .pu), (oG q74 q72 true (.nck (.t q73)), .pu), (oG q75 q72 true (.fa 0 (.t q74)), .pu), (oG q76 q72 true (.ld1 (.t q75)), .rd 0), (oG q77 q72 true (.mov (.t q0)), .pu), (oG q78 q72 true (.nck (.t q77)), .pu), (oG q79 q72 true (.fa 1 (.t q78)), .pu), (oG q80 q72 true (.ld1 (.t q79)), .rd 0), (oG q81 q72 true (.binI .add (.t q80) (.c (.i .i64 1))), .pu)] [oG q82 q72 true (.pu2 .ixT (.t q76) (.t q81)), oG q83 q72 true (.binI .neq (.t q82) (.c (.i .u8 93))), oO q84 (.pick (.t q72) (.t q83) (.c (.b false)))] []) K72_0) K72_5))
def K72_7 : IC := .block 1 (.seq (.seq (.reg [oM q35 q0, oO q36 (.call 39 [.t q35, .c (.i .u8 93)]), oM q37 q36, oG q38 q37 false (.mov (.t q0)), oG q39 q37 false (.call 20 [.t q38]), oO q40 (.pick (.t q37) (.c (.b true)) (.t q39))]) (.cond (.t q40) (.seq (.reg [oM q41 q0, oM q42 q0, oO q43 (.nck (.t q42)), oO q44 (.fa 1 (.t q43)), oO q45 (.ld1 (.t q44)), oO q46 (.call 21 [.t q41, .c (.i .i64 2), .t q45])]) (.exit 0)) .skip)) K72_6)
def L72_8 : IC := .seq (.seq (.reg [oM q21 q0, oO q22 (.nck (.t q21)), oO q23 (.fa 2 (.t q22)), oO q24 (.ld1 (.t q23)), oO q25 (.binI .eql (.t q24) (.c (.i .i64 0))), oM q26 q25, oG q27 q26 true (.mov (.t q0)), oG q28 q26 true (.call 39 [.t q27, .c (.i .u8 93)]), oG q29 q26 true (.mov (.t q28)), oG q30 q29 true (.mov (.t q5)), oG q31 q29 true (.binI .gtr (.t q30) (.c (.i .i64 0))), oG q32 q26 true (.pick (.t q29) (.t q31) (.c (.b false))), oG q33 q26 true (.un .not (.t q32)), oO q34 (.pick (.t q26) (.t q33) (.c (.b false)))]) (.cond (.t q34) .skip (.exit 0))) K72_7
def K72_9 : IC := .reg [oM q135 q10, oO q136 (.binI .add (.t q135) (.c (.i .i64 1))), oM q10 q136]
def K72_10 : IC := .seq (.block 5 (.reg [oM q137 q10, oM q138 q10, oO q139 (.ixA 4 1 (.t q3) (.t q138)), oO q140 (.ld1 (.t q139)), oO q141 (.un .xor (.t q140)), oO q142 (.ixA 4 1 (.t q3) (.t q137)), ⟨none, none, .st 1 (.t q142) (.t q141)⟩])) K72_9
def L72_11 : IC := .seq (.seq (.reg [oM q133 q10, oO q134 (.binI .lss (.t q133) (.c (.i .i64 4)))]) (.cond (.t q134) .skip (.exit 4))) K72_10
def K72_12 : IC := .seq (.reg [oO q143 (.ldN 4 (.t q3)), oO q144 (.build [.i .i64 0, .i .u64 0, .i .u64 0, .i .u64 0, .i .u64 0, .nils] [(0, 1, .c (.i .i64 1)), (1, 4, .t q143)]), ⟨none, none, .st 6 (.t q2) (.t q144)⟩]) .ret
def K72_13 : IC := .seq (.reg [oM q125 q0, oO q126 (.nck (.t q125)), oO q127 (.fa 1 (.t q126)), oO q128 (.ld1 (.t q127)), oO q129 (.binI .add (.t q128) (.c (.i .i64 1))), oO q130 (.nck (.t q125)), oO q131 (.fa 1 (.t q130)), ⟨none, none, .st 1 (.t q131) (.t q129)⟩]) (.seq (.seq (.reg [oM q132 q4]) (.cond (.t q132) (.seq (.reg [oO q10 (.mov (.c (.i .i64 0)))]) (.block 4 (.loop L72_11))) .skip)) K72_12)
def K72_14 : IC := .seq (.reg [oO q5 (.mov (.c (.i .i64 0)))]) (.seq (.block 0 (.loop L72_8)) K72_13)
def B72 : IC := .seq (.reg [oO q2 (.new [.i .i64 0, .i .u64 0, .i .u64 0, .i .u64 0, .i .u64 0, .nils])]) (.seq (.reg [oO q3 (.new [.i .u64 0, .i .u64 0, .i .u64 0, .i .u64 0])]) (.seq (.reg [oM q11 q0, oO q12 (.call 39 [.t q11, .c (.i .u8 94)]), oM q4 q12]) (.seq (.seq (.reg [oM q13 q4]) (.cond (.t q13) (.reg [oM q14 q0, oO q15 (.nck (.t q14)), oO q16 (.fa 1 (.t q15)), oO q17 (.ld1 (.t q16)), oO q18 (.binI .add (.t q17) (.c (.i .i64 1))), oO q19 (.nck (.t q14)), oO q20 (.fa 1 (.t q19)), ⟨none, none, .st 1 (.t q20) (.t q18)⟩]) .skip)) K72_14)))
def F72 : IFn := ⟨145, [.cN q2 6], B72⟩
theorem R72 : F72.res = [.cN q2 6] := rfl
theorem fits72 : FitsF Try.prog 72 F72 := cmpF_fits (pol := fun _ => false) Try.func72 (by kernel_rfl)
def B73 : IC := .seq (.reg [oO q2 (.mov (.c (.b false)))]) (.seq (.reg [oM q3 q0, oO q4 (.binI .eql (.t q3) (.c (.i .u8 124))), oM q5 q4, oG q6 q5 false (.mov (.t q0)), oG q7 q5 false (.binI .eql (.t q6) (.c (.i .u8 42))), oO q8 (.pick (.t q5) (.c (.b true)) (.t q7)), oM q9 q8, oG q10 q9 false (.mov (.t q0)), oG q11 q9 false (.binI .eql (.t q10) (.c (.i .u8 43))), oO q12 (.pick (.t q9) (.c (.b true)) (.t q11)), oM q13 q12, oG q14 q13 false (.mov (.t q0)), oG q15 q13 false (.binI .eql (.t q14) (.c (.i .u8 63))), oO q16 (.pick (.t q13) (.c (.b true)) (.t q15)), oM q17 q16, oG q18 q17 false (.mov (.t q0)), oG q19 q17 false (.binI .eql (.t q18) (.c (.i .u8 40))), oO q20 (.pick (.t q17) (.c (.b true)) (.t q19)), oM q21 q20, oG q22 q21 false (.mov (.t q0)), oG q23 q21 false (.binI .eql (.t q22) (.c (.i .u8 41))), oO q24 (.pick (.t q21) (.c (.b true)) (.t q23)), oM q25 q24, oG q26 q25 false (.mov (.t q0)), oG q27 q25 false (.binI .eql (.t q26) (.c (.i .u8 91))), oO q28 (.pick (.t q25) (.c (.b true)) (.t q27)), oM q29 q28, oG q30 q29 false (.mov (.t q0)), oG q31 q29 false (.binI .eql (.t q30) (.c (.i .u8 93))), oO q32 (.pick (.t q29) (.c (.b true)) (.t q31)), oM q2 q32]) .ret)
def F73 : IFn := ⟨33, [.tmp q2], B73⟩
theorem R73 : F73.res = [.tmp q2] := rfl
theorem fits73 : FitsF Try.prog 73 F73 := cmpF_fits (pol := fun _ => false) Try.func73 (by kernel_rfl)
def B74 : IC := .seq (.reg [oO q2 (.box (.t q0)), oO q4 (.new [.i .u64 0, .i .u64 0, .i .u64 0, .i .u64 0])]) (.seq (.reg [oM q5 q1, oO q6 (.binI .shr (.t q5) (.c (.i .u64 6))), oM q7 q1, oO q8 (.binI .shr (.t q7) (.c (.i .u64 6))), oO q9 (.ixA 4 1 (.t q2) (.t q8)), oO q10 (.ld1 (.t q9)), oM q11 q1, oO q12 (.binI .and (.t q11) (.c (.i .u8 63))), oO q13 (.cvI .u64 (.t q12)), oO q14 (.binI .shl (.c (.i .u64 1)) (.t q13)), oO q15 (.binI .or (.t q10) (.t q14)), oO q16 (.ixA 4 1 (.t q2) (.t q6)), ⟨none, none, .st 1 (.t q16) (.t q15)⟩]) (.seq (.reg [oO q17 (.ldN 4 (.t q2)), ⟨none, none, .st 4 (.t q4) (.t q17)⟩]) .ret))
def F74 : IFn := ⟨18, [.cN q4 4], B74⟩
theorem R74 : F74.res = [.cN q4 4] := rfl
theorem fits74 : FitsF Try.prog 74 F74 := cmpF_fits (pol := fun _ => false) Try.func74 (by kernel_rfl)
def K75_0 : IC := .seq (.reg [oM q20 q0, oO q21 (.nck (.t q20)), oO q22 (.fa 1 (.t q21)), oO q23 (.ld1 (.t q22)), oO q24 (.binI .add (.t q23) (.c (.i .i64 1))), oO q25 (.nck (.t q20)), oO q26 (.fa 1 (.t q25)), ⟨none, none, .st 1 (.t q26) (.t q24)⟩]) (.seq (.dreg 0 [(oM q27 q0, .pu), (oO q28 (.nck (.t q27)), .pu), (oO q29 (.fa 0 (.t q28)), .pu), (oO q30 (.ld1 (.t q29)), .rd 0), (oM q31 q0, .pu), (oO q32 (.nck (.t q31)), .pu), (oO q33 (.fa 1 (.t q32)), .pu), (oO q34 (.ld1 (.t q33)), .rd 0), (oO q35 (.binI .sub (.t q34) (.c (.i .i64 1))), .pu)] [oO q36 (.pu2 .ixT (.t q30) (.t q35)), oM q2 q36] []) .ret)
def K75_1 : IC := .seq (.seq (.reg [oM q12 q0, oO q13 (.call 20 [.t q12])]) (.cond (.t q13) (.seq (.reg [oM q14 q0, oM q15 q0, oO q16 (.nck (.t q15)), oO q17 (.fa 1 (.t q16)), oO q18 (.ld1 (.t q17)), oO q19 (.call 21 [.t q14, .c (.i .i64 2), .t q18])]) (.seq (.reg [oO q2 (.mov (.c (.i .u8 0)))]) .ret)) .skip)) K75_0
def B75 : IC := .seq (.reg [oO q2 (.mov (.c (.i .u8 0)))]) (.seq (.seq (.reg [oM q3 q0, oO q4 (.call 39 [.t q3, .c (.i .u8 92)])]) (.cond (.t q4) (.reg [oM q5 q0, oO q6 (.nck (.t q5)), oO q7 (.fa 1 (.t q6)), oO q8 (.ld1 (.t q7)), oO q9 (.binI .add (.t q8) (.c (.i .i64 1))), oO q10 (.nck (.t q5)), oO q11 (.fa 1 (.t q10)), ⟨none, none, .st 1 (.t q11) (.t q9)⟩]) .skip)) K75_1)
def F75 : IFn := ⟨37, [.tmp q2], B75⟩
theorem R75 : F75.res = [.tmp q2] := rfl
theorem fits75 : FitsF Try.prog 75 F75 := cmpF_fits (pol := fun _ => false) Try.func75 (by kernel_rfl)
end Go.Proofs.Ythklpecigkdkiaa.K
set_option maxRecDepth 100000
namespace Go.Proofs.Ythklpecigkdkiaa.Ev
open Go
def fnsL : List (Nat × IFn) := [(14, K.F14), (17, K.F17), (36, K.F36), (59, K.F59)]
def fnsT : T IFn := ⟨⟨none, none, none, none, none, none, none, none, none, none, none, none, none, none, some K.F14, none⟩, some ⟨w1, ⟨none, some K.F17, none, none, none, none, none, none, none, none, none, none, none, none, none, none⟩, ⟨none, none, none, none, some K.F36, none, none, none, none, none, none, none, none, none, none, none⟩, ⟨none, none, none, none, none, none, none, none, none, none, none, some K.F59, none, none, none, none⟩, ⟨none, none, none, none, none, none, none, none, none, none, none, none, none, none, none, none⟩, w1, w1, w1, w1, w1, w1, w1, w1, w1, w1, w1⟩, none, none, .lf⟩
theorem fnsT_eq : fnsT = mkT fnsL := by kernel_rfl
noncomputable def fns (g : Nat) : Option IFn := idK fnsT g
theorem fns_ok : ∀ g fn, fns g = some fn → FitsF Try.prog g fn :=
 fits_of fnsT_eq fun x hx => by
  unfold fnsL at hx
  simp only [List.mem_cons, List.not_mem_nil, or_false] at hx
  rcases hx with rfl | rfl | rfl | rfl
  ·exact K.fits14
  ·exact K.fits17
  ·exact K.fits36
  ·exact K.fits59
end Go.Proofs.Ythklpecigkdkiaa.Ev
set_option linter.unusedSimpArgs false
namespace Go.Proofs.Ythklpecigkdkiaa
open Go Go.RowKit Kit Ev
set_option maxRecDepth 1000000
noncomputable def gaveB (b : Bool) : Option (MV × MH) → Bool
 | some (.b c, _) => c == b
 | _ => false
theorem gave_some {b : Bool} {r : Option (MV × MH)} (h : gaveB b r = true) : ∃ M', r = some (.b b, M') := by
 unfold gaveB at h
 split at h
 ·rename_i c M'
  simp only [beq_iff_eq] at h
  subst h
  exact ⟨M', rfl⟩
 ·cases h
theorem globs : ∀ g, gtab g = none := fun _ => rfl
theorem openedz (w : World) : Opened Try.prog w Bz Mz := opened_none globs
theorem mixed : Try.prog.follows .mixedOrders = true := by kernel_rfl
theorem alive_of {g : Nat} (hr : gaveB true (callF fns 3000 g [] Mz) = true) (w : World) : Calls Try.prog g #[] w fun e w' => e = .returned (.bool true) ∧ Kept w w' := by
 obtain ⟨M', h⟩ := gave_some hr
 have hO := openedz w
 refine (calls_run_at (P := Try.prog) mixed fns_ok 3000 g [] [] (.b true) Bz Mz M' w hO.glob hO.inv hO.ro h (DenL.nil _)).mono ?_
 rintro e w' ⟨v, β', rfl, hd, hk⟩
 cases hd
 exact ⟨rfl, hk⟩
theorem run14 : gaveB true (callF fns 3000 14 [] Mz) = true := by kernel_rfl
theorem sem_alive14 : SemF Try.prog 14 Ftrue := by
 obtain ⟨c, hc⟩ : ∃ c, Try.f14.body = some c := Option.isSome_iff_exists.1 (by kernel_rfl)
 exact sem_true Try.func14 (by kernel_rfl) hc (alive_of run14)
end Go.Proofs.Ythklpecigkdkiaa
set_option maxRecDepth 100000
namespace Go.Proofs.Ythklpecigkdkiaa.K
open Go Ev
abbrev G14 : IFn := Ftrue
theorem gfits14 : FitsF Try.prog 14 G14 := .inr sem_alive14
def fnsL : List (Nat × IFn) := [(6, F6), (8, F8), (14, G14), (15, F15), (16, F16), (17, F17), (18, F18), (19, F19), (20, F20), (21, F21), (29, F29), (30, F30), (31, F31), (32, F32), (33, F33), (34, F34), (35, F35), (36, F36), (37, F37), (38, F38), (39, F39), (52, F52), (53, F53), (54, F54), (55, F55), (56, F56), (57, F57), (58, F58), (59, F59), (60, F60), (67, F67), (68, F68), (69, F69), (70, F70), (71, F71), (72, F72), (73, F73), (74, F74), (75, F75)]
def fnsT : T IFn := ⟨⟨none, none, none, none, none, none, some F6, none, some F8, none, none, none, none, none, some G14, some F15⟩, some ⟨w1, ⟨some F16, some F17, some F18, some F19, some F20, some F21, none, none, none, none, none, none, none, some F29, some F30, some F31⟩, ⟨some F32, some F33, some F34, some F35, some F36, some F37, some F38, some F39, none, none, none, none, none, none, none, none⟩, ⟨none, none, none, none, some F52, some F53, some F54, some F55, some F56, some F57, some F58, some F59, some F60, none, none, none⟩, ⟨none, none, none, some F67, some F68, some F69, some F70, some F71, some F72, some F73, some F74, some F75, none, none, none, none⟩, w1, w1, w1, w1, w1, w1, w1, w1, w1, w1, w1⟩, none, none, .lf⟩
theorem fnsT_eq : fnsT = mkT fnsL := by kernel_rfl
noncomputable def fns (g : Nat) : Option IFn := idK fnsT g
theorem fns_ok : ∀ g fn, fns g = some fn → FitsF Try.prog g fn :=
 fits_of fnsT_eq fun x hx => by
  unfold fnsL at hx
  simp only [List.mem_cons, List.not_mem_nil, or_false] at hx
  rcases hx with rfl | rfl | rfl | rfl | rfl | rfl | rfl | rfl | rfl | rfl | rfl | rfl | rfl | rfl | rfl | rfl | rfl | rfl | rfl | rfl | rfl | rfl | rfl | rfl | rfl | rfl | rfl | rfl | rfl | rfl | rfl | rfl | rfl | rfl | rfl | rfl | rfl | rfl | rfl
  ·exact fits6
  ·exact fits8
  ·exact gfits14
  ·exact fits15
  ·exact fits16
  ·exact fits17
  ·exact fits18
  ·exact fits19
  ·exact fits20
  ·exact fits21
  ·exact fits29
  ·exact fits30
  ·exact fits31
  ·exact fits32
  ·exact fits33
  ·exact fits34
  ·exact fits35
  ·exact fits36
  ·exact fits37
  ·exact fits38
  ·exact fits39
  ·exact fits52
  ·exact fits53
  ·exact fits54
  ·exact fits55
  ·exact fits56
  ·exact fits57
  ·exact fits58
  ·exact fits59
  ·exact fits60
  ·exact fits67
  ·exact fits68
  ·exact fits69
  ·exact fits70
  ·exact fits71
  ·exact fits72
  ·exact fits73
  ·exact fits74
  ·exact fits75
theorem bxR : type_of% ((And.intro R6 (And.intro R8 (((((And.intro R15 (And.intro R16 (And.intro R17 (And.intro R18 (And.intro R19 (And.intro R20 (And.intro R21 ((((((((And.intro R29 (And.intro R30 (And.intro R31 (And.intro R32 (And.intro R33 (And.intro R34 (And.intro R35 (And.intro R36 (And.intro R37 (And.intro R38 (And.intro R39 (((((((((((((And.intro R52 (And.intro R53 (And.intro R54 (And.intro R55 (And.intro R56 (And.intro R57 (And.intro R58 (And.intro R59 (And.intro R60 (((((((And.intro R67 (And.intro R68 (And.intro R69 (And.intro R70 (And.intro R71 (And.intro R72 (And.intro R73 (And.intro R74 (R75)))))))))))))))))))))))))))))))))))))))))))))))))))))))))))))))))))) := (And.intro R6 (And.intro R8 (((((And.intro R15 (And.intro R16 (And.intro R17 (And.intro R18 (And.intro R19 (And.intro R20 (And.intro R21 ((((((((And.intro R29 (And.intro R30 (And.intro R31 (And.intro R32 (And.intro R33 (And.intro R34 (And.intro R35 (And.intro R36 (And.intro R37 (And.intro R38 (And.intro R39 (((((((((((((And.intro R52 (And.intro R53 (And.intro R54 (And.intro R55 (And.intro R56 (And.intro R57 (And.intro R58 (And.intro R59 (And.intro R60 (((((((And.intro R67 (And.intro R68 (And.intro R69 (And.intro R70 (And.intro R71 (And.intro R72 (And.intro R73 (And.intro R74 (R75)))))))))))))))))))))))))))))))))))))))))))))))))))))))))))))))))))
end Go.Proofs.Ythklpecigkdkiaa.K
set_option linter.unusedVariables false
namespace Go.Proofs.Ythklpecigkdkiaa.Ev
open Go
theorem bxD : type_of% (And.intro @Wp_reg_iff (And.intro @Wp_seq_reg (And.intro @Wp_seq_skip (And.intro @Wp_seq_exit (And.intro @Wp_seq_ret (And.intro @Wp_seq_cond (And.intro @Wp_seq_block (And.intro @Wp_seq_loop (And.intro @Wp_seq_dreg (And.intro @Wp_seq_seq (And.intro @Wp_block_iff (And.intro @Wp_skip_iff (And.intro @Wp_exit_iff (And.intro @Wp_ret_iff (And.intro @Wp_cond_iff (And.intro @Wl_nil_iff (And.intro @Wl_op_iff (And.intro @Wl_gd_iff (And.intro @Wd_nil (And.intro @Wd_pu (And.intro @Wd_rd (And.intro @Wd_ad (And.intro @Wd_md (And.intro @Wd_fl (And.intro @Wd_ma (And.intro @Wd_gpu (And.intro @Wd_grd (And.intro @Wd_gad (@Wd_gmd))))))))))))))))))))))))))))) := And.intro @Wp_reg_iff (And.intro @Wp_seq_reg (And.intro @Wp_seq_skip (And.intro @Wp_seq_exit (And.intro @Wp_seq_ret (And.intro @Wp_seq_cond (And.intro @Wp_seq_block (And.intro @Wp_seq_loop (And.intro @Wp_seq_dreg (And.intro @Wp_seq_seq (And.intro @Wp_block_iff (And.intro @Wp_skip_iff (And.intro @Wp_exit_iff (And.intro @Wp_ret_iff (And.intro @Wp_cond_iff (And.intro @Wl_nil_iff (And.intro @Wl_op_iff (And.intro @Wl_gd_iff (And.intro @Wd_nil (And.intro @Wd_pu (And.intro @Wd_rd (And.intro @Wd_ad (And.intro @Wd_md (And.intro @Wd_fl (And.intro @Wd_ma (And.intro @Wd_gpu (And.intro @Wd_grd (And.intro @Wd_gad (@Wd_gmd))))))))))))))))))))))))))))
theorem bxP : type_of% (And.intro @bindP_some (And.intro @condP_t (And.intro @condP_f (And.intro @gdP_tt (And.intro @gdP_tf (And.intro @gdP_ft (And.intro @gdP_ff (And.intro @gdP_tp (And.intro @thenQ_ret (And.intro @thenQ_exit (And.intro @blockQ_norm (And.intro @blockQ_ret (And.intro @blockQ_exit (And.intro @ev_c (And.intro @ev_set (And.intro @setD_some (And.intro @setD_none (And.intro @retQ_ret (And.intro @retQ_norm (And.intro @o1_some (And.intro @ev_mov (And.intro @ev_pick (And.intro @ev_new (And.intro @ev_box (And.intro @ev_build (And.intro @ev_bslW (And.intro @bslW_some (And.intro @zrow_one (And.intro @fill_ag (And.intro @fill_one (And.intro @ev_ld1 (And.intro @ev_ldN (And.intro @ev_st (And.intro @ev_nck (And.intro @ev_binI (And.intro @ev_binB (And.intro @ev_binN (And.intro @ev_un (And.intro @ev_cvI (And.intro @ev_fld1 (And.intro @ev_fldN (And.intro @ev_fa (And.intro @ev_ixA (And.intro @ev_ixS (And.intro @ev_ext (And.intro @ev_mkm (And.intro @ev_cut (And.intro @ev_app (And.intro @ev_len (And.intro @ev_mn (And.intro @ev_mx (And.intro @ev_call (And.intro @ev_mkf (And.intro @ev_pu2 (And.intro @ev_rdm (And.intro @bin_add (And.intro @bin_sub (And.intro @bin_mul (And.intro @bin_eql (And.intro @bin_neq (And.intro @bin_lss (And.intro @bin_leq (And.intro @bin_gtr (And.intro @bin_geq (And.intro @binB_eql (And.intro @binB_neq (And.intro @un_not (And.intro @pick_t (And.intro @pick_f (And.intro @fa_p (And.intro @nck_p (And.intro @len_sl (And.intro @ix_sl (And.intro @ixA_p (And.intro @push_ok (And.intro @not_dec (And.intro @dregK_cons (And.intro @apartL_nil (And.intro @lateL_nil (And.intro @adopt_nil (And.intro @room0 (And.intro @room_n (And.intro @room_get (And.intro @room_lo (And.intro @lift_n (And.intro @lift_lo (And.intro @lift_get (And.intro @down_n (And.intro @down_lo (And.intro @down_get (And.intro @st_w (And.intro @stW_ok (And.intro @ld1_w (And.intro @ldN_w (And.intro @ldW_cs (And.intro @ldNW_cs (And.intro @map_ag (And.intro @cells_ag (And.intro @push_new (And.intro @push_old (And.intro @set_same (And.intro @set_ne (And.intro @set_n (And.intro @set_lo (And.intro @push_n (And.intro @push_lo (And.intro @wrap_in (And.intro @getN_setN' (And.intro @resL_1 (And.intro @res_set (And.intro @puM_eqA (And.intro @eqAg_nil (And.intro @eqAg_i (And.intro @beq_self_eq_true.{0} (And.intro @cond_true.{1} (And.intro @cond_false.{1} (And.intro @Bool.not_true (And.intro @Bool.not_false (And.intro @isU_ag (And.intro @isU_i (And.intro @isU_b (And.intro @isU_s (And.intro @isU_p (And.intro @isU_nils (And.intro @isU_sl (And.intro @Bool.false_eq_true (And.intro @pack1 (And.intro @pack2 (And.intro @pack3 (And.intro @resL_c (And.intro @consO_some (And.intro @ext_tp (And.intro @decide_true (And.intro @Ky.k1.injEq (And.intro @Ky.k2.injEq (And.intro @Ky.k3.injEq (And.intro @if_true.{1} (And.intro @if_false.{1} (And.intro @and_false (And.intro @and_true (And.intro @false_and (And.intro @true_and (And.intro @List.map_cons.{0,0} (And.intro @List.map_nil.{0,0} (And.intro @cget_setN (And.intro @cget_ofL (And.intro @List.length_cons.{0} (And.intro @List.length_nil.{0} (And.intro @Nat.lt_add_one (And.intro @Nat.le_refl (And.intro @Nat.zero_le (And.intro @List.getElem?_cons_zero.{0} (And.intro @List.getElem?_cons_succ.{0} (And.intro @Nat.add_zero (And.intro @Nat.zero_add (And.intro @Nat.sub_zero (@and_self))))))))))))))))))))))))))))))))))))))))))))))))))))))))))))))))))))))))))))))))))))))))))))))))))))))))))))))))))))))))))))))))))))))))))))))))))))))))))))) := And.intro @bindP_some (And.intro @condP_t (And.intro @condP_f (And.intro @gdP_tt (And.intro @gdP_tf (And.intro @gdP_ft (And.intro @gdP_ff (And.intro @gdP_tp (And.intro @thenQ_ret (And.intro @thenQ_exit (And.intro @blockQ_norm (And.intro @blockQ_ret (And.intro @blockQ_exit (And.intro @ev_c (And.intro @ev_set (And.intro @setD_some (And.intro @setD_none (And.intro @retQ_ret (And.intro @retQ_norm (And.intro @o1_some (And.intro @ev_mov (And.intro @ev_pick (And.intro @ev_new (And.intro @ev_box (And.intro @ev_build (And.intro @ev_bslW (And.intro @bslW_some (And.intro @zrow_one (And.intro @fill_ag (And.intro @fill_one (And.intro @ev_ld1 (And.intro @ev_ldN (And.intro @ev_st (And.intro @ev_nck (And.intro @ev_binI (And.intro @ev_binB (And.intro @ev_binN (And.intro @ev_un (And.intro @ev_cvI (And.intro @ev_fld1 (And.intro @ev_fldN (And.intro @ev_fa (And.intro @ev_ixA (And.intro @ev_ixS (And.intro @ev_ext (And.intro @ev_mkm (And.intro @ev_cut (And.intro @ev_app (And.intro @ev_len (And.intro @ev_mn (And.intro @ev_mx (And.intro @ev_call (And.intro @ev_mkf (And.intro @ev_pu2 (And.intro @ev_rdm (And.intro @bin_add (And.intro @bin_sub (And.intro @bin_mul (And.intro @bin_eql (And.intro @bin_neq (And.intro @bin_lss (And.intro @bin_leq (And.intro @bin_gtr (And.intro @bin_geq (And.intro @binB_eql (And.intro @binB_neq (And.intro @un_not (And.intro @pick_t (And.intro @pick_f (And.intro @fa_p (And.intro @nck_p (And.intro @len_sl (And.intro @ix_sl (And.intro @ixA_p (And.intro @push_ok (And.intro @not_dec (And.intro @dregK_cons (And.intro @apartL_nil (And.intro @lateL_nil (And.intro @adopt_nil (And.intro @room0 (And.intro @room_n (And.intro @room_get (And.intro @room_lo (And.intro @lift_n (And.intro @lift_lo (And.intro @lift_get (And.intro @down_n (And.intro @down_lo (And.intro @down_get (And.intro @st_w (And.intro @stW_ok (And.intro @ld1_w (And.intro @ldN_w (And.intro @ldW_cs (And.intro @ldNW_cs (And.intro @map_ag (And.intro @cells_ag (And.intro @push_new (And.intro @push_old (And.intro @set_same (And.intro @set_ne (And.intro @set_n (And.intro @set_lo (And.intro @push_n (And.intro @push_lo (And.intro @wrap_in (And.intro @getN_setN' (And.intro @resL_1 (And.intro @res_set (And.intro @puM_eqA (And.intro @eqAg_nil (And.intro @eqAg_i (And.intro @beq_self_eq_true.{0} (And.intro @cond_true.{1} (And.intro @cond_false.{1} (And.intro @Bool.not_true (And.intro @Bool.not_false (And.intro @isU_ag (And.intro @isU_i (And.intro @isU_b (And.intro @isU_s (And.intro @isU_p (And.intro @isU_nils (And.intro @isU_sl (And.intro @Bool.false_eq_true (And.intro @pack1 (And.intro @pack2 (And.intro @pack3 (And.intro @resL_c (And.intro @consO_some (And.intro @ext_tp (And.intro @decide_true (And.intro @Ky.k1.injEq (And.intro @Ky.k2.injEq (And.intro @Ky.k3.injEq (And.intro @if_true.{1} (And.intro @if_false.{1} (And.intro @and_false (And.intro @and_true (And.intro @false_and (And.intro @true_and (And.intro @List.map_cons.{0,0} (And.intro @List.map_nil.{0,0} (And.intro @cget_setN (And.intro @cget_ofL (And.intro @List.length_cons.{0} (And.intro @List.length_nil.{0} (And.intro @Nat.lt_add_one (And.intro @Nat.le_refl (And.intro @Nat.zero_le (And.intro @List.getElem?_cons_zero.{0} (And.intro @List.getElem?_cons_succ.{0} (And.intro @Nat.add_zero (And.intro @Nat.zero_add (And.intro @Nat.sub_zero (@and_self))))))))))))))))))))))))))))))))))))))))))))))))))))))))))))))))))))))))))))))))))))))))))))))))))))))))))))))))))))))))))))))))))))))))))))))))))))))))))))
theorem bxS : type_of% (And.intro @beq_self_eq_true.{0} (And.intro @Bool.not_false (And.intro @decide_true (And.intro @cells_ag (And.intro @cells_i (And.intro @cells_b (And.intro @cells_s (And.intro @cells_p (And.intro @cells_nilp (And.intro @cells_nils (And.intro @cells_m (And.intro @cells_sl (And.intro @cells_fn (And.intro @one_i (And.intro @one_b (And.intro @one_s (And.intro @one_p (And.intro @one_nilp (And.intro @one_nils (And.intro @one_m (And.intro @one_sl (And.intro @one_fn (And.intro @isU_i (And.intro @isU_b (And.intro @isU_s (And.intro @isU_p (And.intro @isU_nilp (And.intro @isU_nils (And.intro @isU_m (And.intro @isU_sl (And.intro @isU_ag (And.intro @isU_fn (And.intro @all_nil (And.intro @all_cons (And.intro @List.length_cons.{0} (And.intro @List.length_nil.{0} (And.intro @Bool.and_true (@Bool.true_and)))))))))))))))))))))))))))))))))))))) := And.intro @beq_self_eq_true.{0} (And.intro @Bool.not_false (And.intro @decide_true (And.intro @cells_ag (And.intro @cells_i (And.intro @cells_b (And.intro @cells_s (And.intro @cells_p (And.intro @cells_nilp (And.intro @cells_nils (And.intro @cells_m (And.intro @cells_sl (And.intro @cells_fn (And.intro @one_i (And.intro @one_b (And.intro @one_s (And.intro @one_p (And.intro @one_nilp (And.intro @one_nils (And.intro @one_m (And.intro @one_sl (And.intro @one_fn (And.intro @isU_i (And.intro @isU_b (And.intro @isU_s (And.intro @isU_p (And.intro @isU_nilp (And.intro @isU_nils (And.intro @isU_m (And.intro @isU_sl (And.intro @isU_ag (And.intro @isU_fn (And.intro @all_nil (And.intro @all_cons (And.intro @List.length_cons.{0} (And.intro @List.length_nil.{0} (And.intro @Bool.and_true (@Bool.true_and)))))))))))))))))))))))))))))))))))))
theorem bxU : type_of% (And.intro @push_lo (And.intro @push_n (And.intro @set_lo (@set_n)))) := And.intro @push_lo (And.intro @push_n (And.intro @set_lo (@set_n)))
theorem bxV : type_of% (And.intro @push_n (And.intro @set_n (@beq_self_eq_true.{0}))) := And.intro @push_n (And.intro @set_n (@beq_self_eq_true.{0}))
theorem bxL : type_of% (And.intro @List.length_cons.{0} (@List.length_nil.{0})) := And.intro @List.length_cons.{0} (@List.length_nil.{0})
theorem bxQ : (q0 = Ky.k1 .d0) ∧ (q1 = Ky.k1 .d1) ∧ (q2 = Ky.k1 .d2) ∧ (q3 = Ky.k1 .d3) ∧ (q4 = Ky.k1 .d4) ∧ (q5 = Ky.k1 .d5) ∧ (q6 = Ky.k1 .d6) ∧ (q7 = Ky.k1 .d7) ∧ (q8 = Ky.k1 .d8) ∧ (q9 = Ky.k1 .d9) ∧ (q10 = Ky.k1 .d10) ∧ (q11 = Ky.k1 .d11) ∧ (q12 = Ky.k1 .d12) ∧ (q13 = Ky.k1 .d13) ∧ (q14 = Ky.k1 .d14) ∧ (q15 = Ky.k1 .d15) ∧ (q16 = Ky.k2 .d1 .d0) ∧ (q17 = Ky.k2 .d1 .d1) ∧ (q18 = Ky.k2 .d1 .d2) ∧ (q19 = Ky.k2 .d1 .d3) ∧ (q20 = Ky.k2 .d1 .d4) ∧ (q21 = Ky.k2 .d1 .d5) ∧ (q22 = Ky.k2 .d1 .d6) ∧ (q23 = Ky.k2 .d1 .d7) ∧ (q24 = Ky.k2 .d1 .d8) ∧ (q25 = Ky.k2 .d1 .d9) ∧ (q26 = Ky.k2 .d1 .d10) ∧ (q27 = Ky.k2 .d1 .d11) ∧ (q28 = Ky.k2 .d1 .d12) ∧ (q29 = Ky.k2 .d1 .d13) ∧ (q30 = Ky.k2 .d1 .d14) ∧ (q31 = Ky.k2 .d1 .d15) ∧ (q32 = Ky.k2 .d2 .d0) ∧ (q33 = Ky.k2 .d2 .d1) ∧ (q34 = Ky.k2 .d2 .d2) ∧ (q35 = Ky.k2 .d2 .d3) ∧ (q36 = Ky.k2 .d2 .d4) ∧ (q37 = Ky.k2 .d2 .d5) ∧ (q38 = Ky.k2 .d2 .d6) ∧ (q39 = Ky.k2 .d2 .d7) ∧ (q40 = Ky.k2 .d2 .d8) ∧ (q41 = Ky.k2 .d2 .d9) ∧ (q42 = Ky.k2 .d2 .d10) ∧ (q43 = Ky.k2 .d2 .d11) ∧ (q44 = Ky.k2 .d2 .d12) ∧ (q45 = Ky.k2 .d2 .d13) ∧ (q46 = Ky.k2 .d2 .d14) ∧ (q47 = Ky.k2 .d2 .d15) ∧ (q48 = Ky.k2 .d3 .d0) ∧ (q49 = Ky.k2 .d3 .d1) ∧ (q50 = Ky.k2 .d3 .d2) ∧ (q51 = Ky.k2 .d3 .d3) ∧ (q52 = Ky.k2 .d3 .d4) ∧ (q53 = Ky.k2 .d3 .d5) ∧ (q54 = Ky.k2 .d3 .d6) ∧ (q55 = Ky.k2 .d3 .d7) ∧ (q56 = Ky.k2 .d3 .d8) ∧ (q57 = Ky.k2 .d3 .d9) ∧ (q58 = Ky.k2 .d3 .d10) ∧ (q59 = Ky.k2 .d3 .d11) := ⟨rfl, rfl, rfl, rfl, rfl, rfl, rfl, rfl, rfl, rfl, rfl, rfl, rfl, rfl, rfl, rfl, rfl, rfl, rfl, rfl, rfl, rfl, rfl, rfl, rfl, rfl, rfl, rfl, rfl, rfl, rfl, rfl, rfl, rfl, rfl, rfl, rfl, rfl, rfl, rfl, rfl, rfl, rfl, rfl, rfl, rfl, rfl, rfl, rfl, rfl, rfl, rfl, rfl, rfl, rfl, rfl, rfl, rfl, rfl, rfl⟩
theorem bxQ2 : (q60 = Ky.k2 .d3 .d12) ∧ (q61 = Ky.k2 .d3 .d13) ∧ (q62 = Ky.k2 .d3 .d14) ∧ (q63 = Ky.k2 .d3 .d15) ∧ (q64 = Ky.k2 .d4 .d0) ∧ (q65 = Ky.k2 .d4 .d1) ∧ (q66 = Ky.k2 .d4 .d2) ∧ (q67 = Ky.k2 .d4 .d3) ∧ (q68 = Ky.k2 .d4 .d4) ∧ (q69 = Ky.k2 .d4 .d5) ∧ (q70 = Ky.k2 .d4 .d6) ∧ (q71 = Ky.k2 .d4 .d7) ∧ (q72 = Ky.k2 .d4 .d8) ∧ (q73 = Ky.k2 .d4 .d9) ∧ (q74 = Ky.k2 .d4 .d10) ∧ (q75 = Ky.k2 .d4 .d11) ∧ (q76 = Ky.k2 .d4 .d12) ∧ (q77 = Ky.k2 .d4 .d13) ∧ (q78 = Ky.k2 .d4 .d14) ∧ (q79 = Ky.k2 .d4 .d15) ∧ (q80 = Ky.k2 .d5 .d0) ∧ (q81 = Ky.k2 .d5 .d1) ∧ (q82 = Ky.k2 .d5 .d2) ∧ (q83 = Ky.k2 .d5 .d3) ∧ (q84 = Ky.k2 .d5 .d4) ∧ (q85 = Ky.k2 .d5 .d5) ∧ (q86 = Ky.k2 .d5 .d6) ∧ (q87 = Ky.k2 .d5 .d7) ∧ (q88 = Ky.k2 .d5 .d8) ∧ (q89 = Ky.k2 .d5 .d9) ∧ (q90 = Ky.k2 .d5 .d10) ∧ (q91 = Ky.k2 .d5 .d11) ∧ (q92 = Ky.k2 .d5 .d12) ∧ (q93 = Ky.k2 .d5 .d13) ∧ (q94 = Ky.k2 .d5 .d14) ∧ (q95 = Ky.k2 .d5 .d15) ∧ (q96 = Ky.k2 .d6 .d0) ∧ (q97 = Ky.k2 .d6 .d1) ∧ (q98 = Ky.k2 .d6 .d2) ∧ (q99 = Ky.k2 .d6 .d3) ∧ (q100 = Ky.k2 .d6 .d4) ∧ (q101 = Ky.k2 .d6 .d5) ∧ (q102 = Ky.k2 .d6 .d6) ∧ (q103 = Ky.k2 .d6 .d7) ∧ (q104 = Ky.k2 .d6 .d8) ∧ (q105 = Ky.k2 .d6 .d9) ∧ (q106 = Ky.k2 .d6 .d10) ∧ (q107 = Ky.k2 .d6 .d11) ∧ (q108 = Ky.k2 .d6 .d12) ∧ (q109 = Ky.k2 .d6 .d13) ∧ (q110 = Ky.k2 .d6 .d14) ∧ (q111 = Ky.k2 .d6 .d15) ∧ (q112 = Ky.k2 .d7 .d0) ∧ (q113 = Ky.k2 .d7 .d1) ∧ (q114 = Ky.k2 .d7 .d2) ∧ (q115 = Ky.k2 .d7 .d3) ∧ (q116 = Ky.k2 .d7 .d4) ∧ (q117 = Ky.k2 .d7 .d5) ∧ (q118 = Ky.k2 .d7 .d6) ∧ (q119 = Ky.k2 .d7 .d7) ∧ (q120 = Ky.k2 .d7 .d8) ∧ (q121 = Ky.k2 .d7 .d9) ∧ (q122 = Ky.k2 .d7 .d10) ∧ (q123 = Ky.k2 .d7 .d11) ∧ (q124 = Ky.k2 .d7 .d12) ∧ (q125 = Ky.k2 .d7 .d13) ∧ (q126 = Ky.k2 .d7 .d14) ∧ (q127 = Ky.k2 .d7 .d15) ∧ (q128 = Ky.k2 .d8 .d0) ∧ (q129 = Ky.k2 .d8 .d1) ∧ (q130 = Ky.k2 .d8 .d2) ∧ (q131 = Ky.k2 .d8 .d3) ∧ (q132 = Ky.k2 .d8 .d4) ∧ (q133 = Ky.k2 .d8 .d5) ∧ (q134 = Ky.k2 .d8 .d6) ∧ (q135 = Ky.k2 .d8 .d7) ∧ (q136 = Ky.k2 .d8 .d8) ∧ (q137 = Ky.k2 .d8 .d9) ∧ (q138 = Ky.k2 .d8 .d10) ∧ (q139 = Ky.k2 .d8 .d11) ∧ (q140 = Ky.k2 .d8 .d12) ∧ (q141 = Ky.k2 .d8 .d13) ∧ (q142 = Ky.k2 .d8 .d14) ∧ (q143 = Ky.k2 .d8 .d15) ∧ (q144 = Ky.k2 .d9 .d0) ∧ (q145 = Ky.k2 .d9 .d1) ∧ (q146 = Ky.k2 .d9 .d2) ∧ (q147 = Ky.k2 .d9 .d3) ∧ (q148 = Ky.k2 .d9 .d4) ∧ (q149 = Ky.k2 .d9 .d5) ∧ (q150 = Ky.k2 .d9 .d6) ∧ (q151 = Ky.k2 .d9 .d7) ∧ (q152 = Ky.k2 .d9 .d8) ∧ (q153 = Ky.k2 .d9 .d9) ∧ (q154 = Ky.k2 .d9 .d10) ∧ (q155 = Ky.k2 .d9 .d11) ∧ (q156 = Ky.k2 .d9 .d12) ∧ (q157 = Ky.k2 .d9 .d13) ∧ (q158 = Ky.k2 .d9 .d14) ∧ (q159 = Ky.k2 .d9 .d15) ∧ (q160 = Ky.k2 .d10 .d0) ∧ (q161 = Ky.k2 .d10 .d1) ∧ (q162 = Ky.k2 .d10 .d2) ∧ (q163 = Ky.k2 .d10 .d3) ∧ (q164 = Ky.k2 .d10 .d4) ∧ (q165 = Ky.k2 .d10 .d5) ∧ (q166 = Ky.k2 .d10 .d6) ∧ (q167 = Ky.k2 .d10 .d7) ∧ (q168 = Ky.k2 .d10 .d8) ∧ (q169 = Ky.k2 .d10 .d9) ∧ (q170 = Ky.k2 .d10 .d10) ∧ (q171 = Ky.k2 .d10 .d11) ∧ (q172 = Ky.k2 .d10 .d12) ∧ (q173 = Ky.k2 .d10 .d13) ∧ (q174 = Ky.k2 .d10 .d14) ∧ (q175 = Ky.k2 .d10 .d15) ∧ (q176 = Ky.k2 .d11 .d0) ∧ (q177 = Ky.k2 .d11 .d1) ∧ (q178 = Ky.k2 .d11 .d2) ∧ (q179 = Ky.k2 .d11 .d3) ∧ (q180 = Ky.k2 .d11 .d4) ∧ (q181 = Ky.k2 .d11 .d5) ∧ (q182 = Ky.k2 .d11 .d6) ∧ (q183 = Ky.k2 .d11 .d7) ∧ (q184 = Ky.k2 .d11 .d8) ∧ (q185 = Ky.k2 .d11 .d9) ∧ (q186 = Ky.k2 .d11 .d10) ∧ (q187 = Ky.k2 .d11 .d11) ∧ (q188 = Ky.k2 .d11 .d12) ∧ (q189 = Ky.k2 .d11 .d13) ∧ (q190 = Ky.k2 .d11 .d14) ∧ (q191 = Ky.k2 .d11 .d15) ∧ (q192 = Ky.k2 .d12 .d0) ∧ (q193 = Ky.k2 .d12 .d1) ∧ (q194 = Ky.k2 .d12 .d2) ∧ (q195 = Ky.k2 .d12 .d3) ∧ (q196 = Ky.k2 .d12 .d4) ∧ (q197 = Ky.k2 .d12 .d5) ∧ (q198 = Ky.k2 .d12 .d6) ∧ (q199 = Ky.k2 .d12 .d7) ∧ (q200 = Ky.k2 .d12 .d8) ∧ (q201 = Ky.k2 .d12 .d9) ∧ (q202 = Ky.k2 .d12 .d10) ∧ (q203 = Ky.k2 .d12 .d11) ∧ (q204 = Ky.k2 .d12 .d12) ∧ (q205 = Ky.k2 .d12 .d13) ∧ (q206 = Ky.k2 .d12 .d14) ∧ (q207 = Ky.k2 .d12 .d15) ∧ (q208 = Ky.k2 .d13 .d0) ∧ (q209 = Ky.k2 .d13 .d1) ∧ (q210 = Ky.k2 .d13 .d2) ∧ (q211 = Ky.k2 .d13 .d3) ∧ (q212 = Ky.k2 .d13 .d4) ∧ (q213 = Ky.k2 .d13 .d5) ∧ (q214 = Ky.k2 .d13 .d6) ∧ (q215 = Ky.k2 .d13 .d7) ∧ (q216 = Ky.k2 .d13 .d8) ∧ (q217 = Ky.k2 .d13 .d9) ∧ (q218 = Ky.k2 .d13 .d10) ∧ (q219 = Ky.k2 .d13 .d11) ∧ (q220 = Ky.k2 .d13 .d12) ∧ (q221 = Ky.k2 .d13 .d13) ∧ (q222 = Ky.k2 .d13 .d14) ∧ (q223 = Ky.k2 .d13 .d15) ∧ (q224 = Ky.k2 .d14 .d0) ∧ (q225 = Ky.k2 .d14 .d1) ∧ (q226 = Ky.k2 .d14 .d2) ∧ (q227 = Ky.k2 .d14 .d3) ∧ (q228 = Ky.k2 .d14 .d4) ∧ (q229 = Ky.k2 .d14 .d5) := ⟨rfl, rfl, rfl, rfl, rfl, rfl, rfl, rfl, rfl, rfl, rfl, rfl, rfl, rfl, rfl, rfl, rfl, rfl, rfl, rfl, rfl, rfl, rfl, rfl, rfl, rfl, rfl, rfl, rfl, rfl, rfl, rfl, rfl, rfl, rfl, rfl, rfl, rfl, rfl, rfl, rfl, rfl, rfl, rfl, rfl, rfl, rfl, rfl, rfl, rfl, rfl, rfl, rfl, rfl, rfl, rfl, rfl, rfl, rfl, rfl, rfl, rfl, rfl, rfl, rfl, rfl, rfl, rfl, rfl, rfl, rfl, rfl, rfl, rfl, rfl, rfl, rfl, rfl, rfl, rfl, rfl, rfl, rfl, rfl, rfl, rfl, rfl, rfl, rfl, rfl, rfl, rfl, rfl, rfl, rfl, rfl, rfl, rfl, rfl, rfl, rfl, rfl, rfl, rfl, rfl, rfl, rfl, rfl, rfl, rfl, rfl, rfl, rfl, rfl, rfl, rfl, rfl, rfl, rfl, rfl, rfl, rfl, rfl, rfl, rfl, rfl, rfl, rfl, rfl, rfl, rfl, rfl, rfl, rfl, rfl, rfl, rfl, rfl, rfl, rfl, rfl, rfl, rfl, rfl, rfl, rfl, rfl, rfl, rfl, rfl, rfl, rfl, rfl, rfl, rfl, rfl, rfl, rfl, rfl, rfl, rfl, rfl, rfl, rfl, rfl, rfl, rfl, rfl, rfl, rfl⟩
end Go.Proofs.Ythklpecigkdkiaa.Ev
set_option linter.unusedSimpArgs false
set_option linter.unusedVariables false
namespace Go.Proofs.Ythklpecigkdkiaa.K
open Go Ev
set_option maxRecDepth 100000
set_option maxHeartbeats 4000000
theorem bA : type_of% (And.intro bxP (And.intro bxQ (And.intro bxQ2 bxR))) := And.intro bxP (And.intro bxQ (And.intro bxQ2 bxR))
theorem bZ : type_of% (And.intro bxS (And.intro bxV (And.intro bxU bxL))) := And.intro bxS (And.intro bxV (And.intro bxU bxL))

def cutLo (sz l : Nat) : MV → MV
 | .sl id off n e => .sl id (off + l * sz) (n - l) (e + l)
 | v => v
def cutHi (h : Nat) : MV → MV
 | .sl id off _ e => .sl id off h e
 | v => v
theorem cutM_hi {v : MV} {sz h : Nat} {k : IntKind} (hv : isSl v = true) (hl : h ≤ slen v) : cutM sz v none (some (.i k (h : Int))) = some (cutHi h v) := by
 cases v <;> first | cases hv | skip
 ·simp [slen] at hl; subst hl; rfl
 ·rename_i id off n e
  show (bif Nat.ble 0 h && Nat.ble h n then some (MV.sl id (off + 0 * sz) (h - 0) (e + 0)) else none) = _
  rw [ble_t' (Nat.zero_le _), ble_t' (show h ≤ n from hl)]
  simp [cutHi]
theorem cutM_lo {v : MV} {sz l : Nat} {k : IntKind} (hv : isSl v = true) (hl : l ≤ slen v) : cutM sz v (some (.i k (l : Int))) none = some (cutLo sz l v) := by
 cases v <;> first | cases hv | skip
 ·simp [slen] at hl; subst hl; rfl
 ·rename_i id off n e
  show (bif Nat.ble l n && Nat.ble n n then some (MV.sl id (off + l * sz) (n - l) (e + l)) else none) = _
  rw [ble_t' (Nat.le_refl _), ble_t' (show l ≤ n from hl)]
  rfl
structure Chg (S : Nat → Prop) (M M' : MH) : Prop where
 n : M.n ≤ M'.n
 lo : M'.lo = M.lo
 old : ∀ j, j < M.n → ¬ S j → M'.get j = M.get j
theorem Chg.refl (S : Nat → Prop) (M : MH) : Chg S M M := ⟨Nat.le_refl _, rfl, fun _ _ _ => rfl⟩
theorem Chg.trans {S : Nat → Prop} {a b c : MH} (h : Chg S a b) (k : Chg S b c) : Chg S a c := ⟨Nat.le_trans h.n k.n, k.lo.trans h.lo, fun j hj hs => (k.old j (Nat.lt_of_lt_of_le hj h.n) hs).trans (h.old j hj hs)⟩
theorem Chg.of {S : Nat → Prop} {a b : MH} (h : Ext a b) : Chg S a b := ⟨h.n, h.lo, fun j hj _ => h.old j hj⟩
theorem Chg.set {S : Nat → Prop} {a b : MH} (h : Chg S a b) {id : Nat} (o : Option MO) (k : S id ∨ a.n ≤ id) : Chg S a (b.set id o) := ⟨h.n, h.lo, fun j hj hs => by
 rw [set_ne (by rcases k with k | k; exact fun e => hs (e ▸ k); omega)]; exact h.old j hj hs⟩
noncomputable def cNo (n off : Nat) : Option MO → Option MV
 | some (.cs _ _ c) => (getN c n off).map MV.ag
 | _ => none
noncomputable def cNV (M : MH) (n : Nat) : Option MV → Option MV
 | some (.p id off) => cNo n off (M.get id)
 | _ => none
theorem res_cN (f : Fr) (M : MH) (p : Ky) (n : Nat) : IRes.ev f M (.cN p n) = cNV M n (f.get p) := by
 unfold IRes.ev cNV
 simp only
 cases f.get p with
 | none => rfl
 | some v =>
  cases v <;> try rfl
  rename_i id off
  simp only
  unfold cNo
  cases M.get id with
  | none => rfl
  | some o =>
   cases o <;> try rfl
   simp only
   cases getN _ n off <;> rfl
theorem cNV_p (M : MH) (n id off : Nat) : cNV M n (some (.p id off)) = cNo n off (M.get id) := rfl
theorem cNo_cs (n off : Nat) (r : Bool) (s : Nat) (c : T MV) : cNo n off (some (.cs r s c)) = (getN c n off).map MV.ag := rfl
theorem get_set (p q : Ky) (m : MV) (f : Fr) : (T.set p (some m) f : Fr).get q = if p = q then some m else f.get q := T.get_set p (some m) f q
theorem NodeAt.rw {M : MH} {x : Rx} {id off : Nat} (h : NodeAt M x id off) : rwcs M id = true ∧ id < M.n := by
 obtain ⟨op, a, b, c, d, k⟩ := x
 unfold NodeAt at h
 obtain ⟨t, kv, h1, h2, _⟩ := h
 refine ⟨?_, h2⟩
 unfold rwcs
 rw [h1]; rfl
def nv (l : List Nat) : List (List MV) := l.map fun (n : Nat) => [.i .i64 (n : Int)]
theorem nv_len (l : List Nat) : (nv l).length = l.length := by unfold nv; rw [List.length_map]
theorem nv_app (l : List Nat) (n : Nat) : nv (l ++ [n]) = nv l ++ [[.i .i64 (n : Int)]] := by unfold nv; simp
theorem nv_at {l : List Nat} {i n : Nat} (h : l[i]? = some n) : (nv l)[i]? = some [.i .i64 (n : Int)] := by unfold nv; rw [List.getElem?_map, h]; rfl
theorem own_id {lo : Nat} {M : MH} {sz : Nat} {v : MV} {es : List (List MV)} (h : OwnRow lo M sz v es) {a b n d : Nat} (e : v = .sl a b n d) : ∃ c, M.get a = some (.cs false sz c) ∧ lo ≤ a ∧ a < M.n := by
 obtain ⟨hs, ⟨h1, _⟩ | ⟨id, c, h1, h2, h3, h4, h5⟩⟩ := h
 ·rw [h1] at e; cases e
 ·rw [h1] at e; cases e; exact ⟨c, h2, h3, h4⟩
theorem wrap_u64 {n : Nat} (h : n < 18446744073709551616) : wrapF .u64 (n : Int) = (n : Int) := by
 rw [wrapF_eq]
 simp only [IntKind.wrap, IntKind.bits, IntKind.signed]
 simp
 omega
theorem fdiv_nat (a b : Nat) : (a : Int).fdiv (b : Int) = ((a / b : Nat) : Int) := by
 rw [Int.fdiv_eq_ediv_of_nonneg _ (by omega)]
 rfl
theorem ev_get {f : Fr} {p : Ky} {m : MV} (h : f.get p = some m) : X.ev f (.t p) = m := by
 show (match f.get p with | some m => m | none => .u) = m
 rw [h]
def bitsOf (N n : Nat) : List Nat := (List.range n).filter fun i => N.testBit i
theorem bitsOf_succ (N n : Nat) : bitsOf N (n + 1) = if N.testBit n = true then bitsOf N n ++ [n] else bitsOf N n := by
 unfold bitsOf
 rw [List.range_succ, List.filter_append]
 cases h : N.testBit n <;> simp [h]
theorem bitsOf_len (N n : Nat) : (bitsOf N n).length ≤ n := by
 unfold bitsOf
 exact Nat.le_trans (List.length_filter_le _ _) (by rw [List.length_range]; exact Nat.le_refl _)
structure Pm where
 null : Bool
 fi : Nat
 la : Nat
structure Bs where
 sets : List (List MV)
 fol : List Nat
def linkM (fol : List Nat) (la fi : Nat) : List Nat := fol.mapIdx fun i f => if la.testBit i then f ||| fi else f
theorem linkM_len (fol : List Nat) (la fi : Nat) : (linkM fol la fi).length = fol.length := by unfold linkM; rw [List.length_mapIdx]
def mixF (fol : List Nat) (la fi k : Nat) : List Nat := fol.mapIdx fun i f => if i < k ∧ la.testBit i = true then f ||| fi else f
theorem mixF_len (fol : List Nat) (la fi k : Nat) : (mixF fol la fi k).length = fol.length := by unfold mixF; rw [List.length_mapIdx]
theorem mixF_all (fol : List Nat) (la fi : Nat) : mixF fol la fi fol.length = linkM fol la fi := by
 refine List.ext_getElem? fun j => ?_
 unfold mixF linkM
 rw [List.getElem?_mapIdx, List.getElem?_mapIdx]
 cases h : fol[j]? with
 | none => rfl
 | some f =>
  have := (List.getElem?_eq_some_iff.1 h).1
  simp [this]
theorem mixF_at {fol : List Nat} {la fi k f : Nat} (h : fol[k]? = some f) : (mixF fol la fi k)[k]? = some f := by
 unfold mixF
 rw [List.getElem?_mapIdx, h]
 simp
theorem mixF_succ {fol : List Nat} {la fi k f : Nat} (h : fol[k]? = some f) : mixF fol la fi (k + 1) = if la.testBit k = true then (mixF fol la fi k).set k (f ||| fi) else mixF fol la fi k := by
 have hk := (List.getElem?_eq_some_iff.1 h).1
 refine List.ext_getElem? fun j => ?_
 split
 ·rename_i e
  rw [List.getElem?_set]
  by_cases hj : k = j
  ·subst hj
   rw [if_pos rfl, if_pos (by rw [mixF_len]; exact hk)]
   unfold mixF
   rw [List.getElem?_mapIdx, h]
   simp [e]
  ·rw [if_neg hj]
   unfold mixF
   rw [List.getElem?_mapIdx, List.getElem?_mapIdx]
   cases fol[j]? with
   | none => rfl
   | some x =>
    have : (j < k + 1) = (j < k) := by rw [eq_iff_iff]; omega
    simp [this]
 ·rename_i e
  unfold mixF
  rw [List.getElem?_mapIdx, List.getElem?_mapIdx]
  cases hx : fol[j]? with
  | none => rfl
  | some x =>
   by_cases hj : j = k
   ·subst hj
    simp [e]
   ·have : (j < k + 1) = (j < k) := by rw [eq_iff_iff]; omega
    simp [this]
def st4 (a b c d : Int) : List MV := [.i .u64 a, .i .u64 b, .i .u64 c, .i .u64 d]
def p0M : Pm := ⟨true, 0, 0⟩
def placeM (s : List MV) (st : Bs) : Pm × Bs := (⟨false, 2 ^ st.sets.length, 2 ^ st.sets.length⟩, ⟨st.sets ++ [s], st.fol ++ [0]⟩)
def catP (p q : Pm) : Pm := ⟨p.null && q.null, if p.null = true then p.fi ||| q.fi else p.fi, if q.null = true then p.la ||| q.la else q.la⟩
def altP (p q : Pm) : Pm := ⟨p.null || q.null, p.fi ||| q.fi, p.la ||| q.la⟩
def linkB (st : Bs) (la fi : Nat) : Bs := ⟨st.sets, linkM st.fol la fi⟩
def repP (op : Int) (q : Pm × Bs) : Pm × Bs := (⟨if op = 5 then q.1.null else true, q.1.fi, q.1.la⟩, if op = 6 then q.2 else linkB q.2 q.1.la q.1.fi)
mutual
def partM : Rx → Bs → Pm × Bs
 | .mk op a b c d kids, st => if cnt (.mk op a b c d kids) = 0 then (p0M, st) else if op = 1 then placeM (st4 a b c d) st else if op = 2 then catM kids p0M st else if op = 3 then altM kids ⟨false, 0, 0⟩ st else rep1M op kids st
def catM : List Rx → Pm → Bs → Pm × Bs
 | [], p, st => (p, st)
 | k :: r, p, st => catM r (catP p (partM k st).1) (linkB (partM k st).2 p.la (partM k st).1.fi)
def altM : List Rx → Pm → Bs → Pm × Bs
 | [], p, st => (p, st)
 | k :: r, p, st => altM r (altP p (partM k st).1) (partM k st).2
def rep1M : Int → List Rx → Bs → Pm × Bs
 | _, [], st => (p0M, st)
 | op, k :: _, st => repP op (partM k st)
end
theorem repP_sets (op : Int) (q : Pm × Bs) : (repP op q).2.sets = q.2.sets := by
 show (if op = 6 then q.2 else linkB q.2 q.1.la q.1.fi).sets = _
 split <;> rfl
theorem linkB_len (st : Bs) (la fi : Nat) : (linkB st la fi).sets.length = st.sets.length := rfl
mutual
theorem partM_len : ∀ (x : Rx) (st : Bs), (partM x st).2.sets.length = st.sets.length + cnt x
 | .mk op a b c d kids, st => by
  rw [partM]
  by_cases h0 : cnt (.mk op a b c d kids) = 0
  ·rw [if_pos h0, h0]; rfl
  rw [if_neg h0]
  rw [cnt] at h0 ⊢
  by_cases h1 : op = 1
  ·rw [if_pos h1, if_pos h1]; simp [placeM]
  rw [if_neg h1] at h0
  rw [if_neg h1, if_neg h1]
  by_cases h2 : op = 2
  ·rw [if_pos h2, if_pos (.inl h2)]; exact catM_len kids _ st
  by_cases h3 : op = 3
  ·rw [if_neg h2, if_pos h3, if_pos (.inr h3)]; exact altM_len kids _ st
  have h23 : ¬ (op = 2 ∨ op = 3) := fun h => h.elim h2 h3
  rw [if_neg h23] at h0
  rw [if_neg h2, if_neg h3, if_neg h23]
  by_cases h4 : op = 4 ∨ op = 5 ∨ op = 6
  ·rw [if_pos h4]; exact rep1M_len op kids st
  ·rw [if_neg h4] at h0; exact (h0 rfl).elim
theorem catM_len : ∀ (l : List Rx) (p : Pm) (st : Bs), (catM l p st).2.sets.length = st.sets.length + cntL l
 | [], p, st => by rw [catM, cntL]; rfl
 | k :: r, p, st => by rw [catM, cntL, catM_len r, linkB_len, partM_len k st, Nat.add_assoc]
theorem altM_len : ∀ (l : List Rx) (p : Pm) (st : Bs), (altM l p st).2.sets.length = st.sets.length + cntL l
 | [], p, st => by rw [altM, cntL]; rfl
 | k :: r, p, st => by rw [altM, cntL, altM_len r, partM_len k st, Nat.add_assoc]
theorem rep1M_len : ∀ (op : Int) (l : List Rx) (st : Bs), (rep1M op l st).2.sets.length = st.sets.length + cnt1 l
 | op, [], st => by rw [rep1M, cnt1]; rfl
 | op, k :: r, st => by
  rw [rep1M, cnt1, repP_sets]
  exact partM_len k st
end
theorem push_at {M : MH} {o : MO} {j : Nat} (h : (j == M.n) = true) : (M.push o).get j = some o := by rw [beq_iff_eq] at h; subst h; exact push_new _
def ListsAt (lo : Nat) (M : MH) (v : MV) (l : List (List Nat)) : Prop := ∃ es : List MV, OwnRow lo M 1 v (es.map fun x => [x]) ∧ es.length = l.length ∧ ∀ (i : Nat) x y, es[i]? = some x → l[i]? = some y → OwnRow lo M 1 x (nv y)
def PosAt (lo : Nat) (M : MH) (m : MV) (p : Pm) (b : Bs) : Prop := ∃ vs vf vl vo, m = .ag [vs, .b p.null, vf, vl, vo] ∧ OwnRow lo M 4 vs b.sets ∧ OwnRow lo M 1 vf (nv (bitsOf p.fi 150)) ∧ OwnRow lo M 1 vl (nv (bitsOf p.la 150)) ∧ ListsAt lo M vo (b.fol.map fun N => bitsOf N 150)
def z5 : List MV := [.nils, .b false, .nils, .nils, .nils]
def OfPost (M : MH) (x : Rx) (m : MV) (M' : MH) : Prop := Ext M M' ∧ ((150 < cnt x ∧ m = .tp [.ag z5, .i .i64 3]) ∨ (cnt x ≤ 150 ∧ 200 < deep x ∧ m = .tp [.ag z5, .i .i64 4]) ∨ (cnt x ≤ 150 ∧ deep x ≤ 200 ∧ ∃ mm, m = .tp [mm, .i .i64 0] ∧ PosAt M.n M' mm (partM x ⟨[], []⟩).1 (partM x ⟨[], []⟩).2))
def wHas (w : Int) (k : Nat) : Bool := decide (bitsF .and .u64 (w.fdiv ((2 ^ k : Nat) : Int)) 1 = 1)
def hasS (s : List MV) (c : Nat) : Bool := match s[c / 64]? with
 | some (.i .u64 w) => wHas w (c % 64)
 | _ => false
theorem shr_u8 (i : Nat) : binV .shr (.i .u8 (i : Int)) (.i .u64 6) = some (.i .u8 ((i / 64 : Nat) : Int)) := by
 show (bif decide ((6 : Int) < 0) then none else some (MV.i .u8 ((i : Int).fdiv ((2 ^ (min (6 : Int).toNat 64) : Nat) : Int)))) = _
 rw [show ((2 ^ (min (6 : Int).toNat 64) : Nat)) = 64 from by decide, fdiv_nat]
 rfl
theorem shr_w {kk : IntKind} (w : Int) (s : Nat) (h : s < 64) : binV .shr (.i .u64 w) (.i kk (s : Int)) = some (.i .u64 (w.fdiv ((2 ^ s : Nat) : Int))) := by
 have : binV .shr (.i .u64 w) (.i kk (s : Int)) = (bif decide ((s : Int) < 0) then none else some (MV.i .u64 (w.fdiv ((2 ^ (min (s : Int).toNat 64) : Nat) : Int)))) := by cases kk <;> rfl
 rw [this, decide_eq_false (by omega), cond_false, show min (s : Int).toNat 64 = s from by omega]
theorem and_w (w : Int) : binV .and (.i .u64 w) (.i .u64 1) = some (.i .u64 (bitsF .and .u64 w 1)) := rfl
theorem and63_u8 {i : Nat} (h : i < 256) : binV .and (.i .u8 (i : Int)) (.i .u8 63) = some (.i .u8 ((i % 64 : Nat) : Int)) := by
 have e1 : (BitVec.ofInt IntKind.u8.bits (i : Int)).toNat = i := by
  rw [BitVec.ofInt_natCast, BitVec.toNat_ofNat]; exact Nat.mod_eq_of_lt (Nat.lt_of_lt_of_le h (by decide))
 have e2 : (BitVec.ofInt IntKind.u8.bits ((63 : Nat) : Int)).toNat = 63 := by
  rw [BitVec.ofInt_natCast, BitVec.toNat_ofNat]; rfl
 show (bif (IntKind.u8 == IntKind.u8) then some (MV.i .u8 (wrapF .u8 (((BitVec.ofInt IntKind.u8.bits (i : Int)) &&& (BitVec.ofInt IntKind.u8.bits ((63 : Nat) : Int))).toNat : Int))) else none) = _
 rw [BitVec.toNat_and, e1, e2]
 have : i &&& 63 = i % 64 := Nat.and_two_pow_sub_one_eq_mod i 6
 rw [this, wrapF_eq]
 simp only [IntKind.wrap, IntKind.bits, IntKind.signed]
 simp
 omega
theorem cv_u8 {i : Nat} (h : i < 256) : cvIV .u64 (.i .u8 (i : Int)) = some (.i .u64 (i : Int)) := by
 show some (MV.i .u64 (wrapF .u64 (i : Int))) = _
 rw [wrap_u64 (by omega)]
theorem st4_at (a b c d : Int) {k : Nat} (h : k < 4) : ∃ w, (st4 a b c d)[k]? = some (.i .u64 w) := by
 match k, h with
 | 0, _ => exact ⟨a, rfl⟩
 | 1, _ => exact ⟨b, rfl⟩
 | 2, _ => exact ⟨c, rfl⟩
 | 3, _ => exact ⟨d, rfl⟩
theorem hasByte' {M : MH} {a b c d : Int} {e : Nat} (he : e < 256) (hlo : M.lo ≤ M.n) : Cp fns 29 [.ag (st4 a b c d), .i .u8 (e : Int)] M fun m M' => m = .b (hasS (st4 a b c d) e) ∧ Ext M M' := by
 refine Cp_call (fn := F29) (by kernel_rfl) (Nat.le_of_ble_eq_true rfl) ?_
 show Wp fns B29 (T.set q1 (some (.i .u8 (e : Int))) (T.set q0 (some (.ag (st4 a b c d))) T.lf)) M _
 unfold B29
 obtain ⟨w, hw⟩ := st4_at a b c d (k := e / 64) (by omega)
 have hU : isU (.ag (st4 a b c d)) = false := rfl
 have hcl : MV.cells (.ag (st4 a b c d)) = st4 a b c d := rfl
 have hlen : (st4 a b c d).length = 4 := rfl
 have c1 : cget (ofL (st4 a b c d) 0) (0 + e / 64 * 1) = some (.i .u64 w) := at_ofL (st4 a b c d) _ _ (by rw [Nat.mul_one]; exact hw)
 have e1 := shr_u8 e
 have e2 := and63_u8 he
 have e3 := shr_w (kk := .u64) w (e % 64) (by omega)
 have e4 := cv_u8 (i := e % 64) (by omega)
 have e5 : ixAV 4 1 (.p M.n 0) (.i .u8 ((e / 64 : Nat) : Int)) = some (.p M.n (0 + e / 64 * 1)) := ixA_p (by omega)
 simp (disch := first | omega | assumption) only [↓bxD, bA, reduceCtorEq, hU, hcl, hlen, hw, e1, e2, e3, e4, e5, and_w, Nat.zero_add, Nat.mul_one]
 refine ⟨?_, .push M _⟩
 unfold hasS wHas
 rw [hw]
def bvs (l : List Nat) : List (List MV) := l.map fun (n : Nat) => [.i .u8 (n : Int)]
theorem bvs_len (l : List Nat) : (bvs l).length = l.length := by unfold bvs; rw [List.length_map]
theorem bvs_at {l : List Nat} {i n : Nat} (h : l[i]? = some n) : (bvs l)[i]? = some [.i .u8 (n : Int)] := by unfold bvs; rw [List.getElem?_map, h]; rfl
def tells (la : List Nat) (o : Option (Nat × List Nat × List Nat)) : Bool := match o with
 | none => false
 | some (k, tk, _) => la.any fun i => decide (tk[i]? = some k)
mutual
theorem partM_st4 : ∀ (x : Rx) (st : Bs), (∀ s ∈ st.sets, ∃ a b c d, s = st4 a b c d) → ∀ s ∈ (partM x st).2.sets, ∃ a b c d, s = st4 a b c d
 | .mk op a b c d kids, st, h => by
  rw [partM]
  split
  ·exact h
  split
  ·intro s hs
   rcases List.mem_append.1 hs with hs | hs
   ·exact h s hs
   ·rw [List.mem_singleton] at hs; exact ⟨a, b, c, d, hs⟩
  split
  ·exact catM_st4 kids _ st h
  split
  ·exact altM_st4 kids _ st h
  ·exact rep1M_st4 op kids st h
theorem catM_st4 : ∀ (l : List Rx) (p : Pm) (st : Bs), (∀ s ∈ st.sets, ∃ a b c d, s = st4 a b c d) → ∀ s ∈ (catM l p st).2.sets, ∃ a b c d, s = st4 a b c d
 | [], p, st, h => by rw [catM]; exact h
 | k :: r, p, st, h => by rw [catM]; exact catM_st4 r _ _ (partM_st4 k st h)
theorem altM_st4 : ∀ (l : List Rx) (p : Pm) (st : Bs), (∀ s ∈ st.sets, ∃ a b c d, s = st4 a b c d) → ∀ s ∈ (altM l p st).2.sets, ∃ a b c d, s = st4 a b c d
 | [], p, st, h => by rw [altM]; exact h
 | k :: r, p, st, h => by rw [altM]; exact altM_st4 r _ _ (partM_st4 k st h)
theorem rep1M_st4 : ∀ (op : Int) (l : List Rx) (st : Bs), (∀ s ∈ st.sets, ∃ a b c d, s = st4 a b c d) → ∀ s ∈ (rep1M op l st).2.sets, ∃ a b c d, s = st4 a b c d
 | op, [], st, h => by rw [rep1M]; exact h
 | op, k :: r, st, h => by rw [rep1M, repP_sets]; exact partM_st4 k st h
end
def XAt (M : MH) : MV → Rx → Prop
 | v, .mk op a b c d kids => ∃ kv, v = .ag [.i .i64 op, .i .u64 a, .i .u64 b, .i .u64 c, .i .u64 d, kv] ∧ isSl kv = true ∧ slen kv = kids.length ∧ NodesAt M kids (sid kv) (soff kv)
theorem XAt.ext {M M' : MH} {v : MV} {x : Rx} (h : XAt M v x) (k : Ext M M') : XAt M' v x := by
 obtain ⟨op, a, b, c, d, kids⟩ := x
 obtain ⟨kv, h1, h2, h3, h4⟩ := h
 exact ⟨kv, h1, h2, h3, h4.ext k⟩
theorem NodeAt.xat {M : MH} {x : Rx} {id off : Nat} (h : NodeAt M x id off) : ∃ t v, M.get id = some (.cs false 6 t) ∧ (getN t 6 off).map MV.ag = some v ∧ XAt M v x := by
 obtain ⟨op, a, b, c, d, kids⟩ := x
 unfold NodeAt at h
 obtain ⟨t, kv, h1, h2, h3, h4, h5, h6⟩ := h
 exact ⟨t, _, h1, by rw [show getN t 6 off = some _ from h3.getN]; rfl, kv, rfl, h4, h5, h6⟩
mutual
def Wk : Rx → Prop
 | .mk op _ _ _ _ kids => (2 ≤ op ∧ op ≤ 6 → kids ≠ []) ∧ WkL kids
def WkL : List Rx → Prop
 | [] => True
 | k :: r => Wk k ∧ WkL r
end

theorem wei_len : ∀ (l : List Rx), l.length ≤ weiL l
 | [] => Nat.zero_le _
 | .mk op a b c d ks :: r => by
  have := wei_len r
  rw [weiL, wei, List.length_cons]
  omega
def mer : List Nat → List Nat → List Nat
 | [], b => b
 | a, [] => a
 | x :: a, y :: b => if x < y then x :: mer a (y :: b) else if y < x then y :: mer (x :: a) b else x :: mer a b
termination_by a b => a.length + b.length
theorem mer_nil (a : List Nat) : mer a [] = a := by cases a <;> simp [mer]
theorem mer_nil' (b : List Nat) : mer [] b = b := by simp [mer]
theorem mer_lt {x y : Nat} (a b : List Nat) (h : x < y) : mer (x :: a) (y :: b) = x :: mer a (y :: b) := by rw [mer, if_pos h]
theorem mer_gt {x y : Nat} (a b : List Nat) (h : y < x) : mer (x :: a) (y :: b) = y :: mer (x :: a) b := by rw [mer, if_neg (by omega), if_pos h]
theorem mer_eq (x : Nat) (a b : List Nat) : mer (x :: a) (x :: b) = x :: mer a b := by rw [mer, if_neg (by omega), if_neg (by omega)]
theorem mer_mem : ∀ (n : Nat) (a b : List Nat), a.length + b.length ≤ n → ∀ z, z ∈ mer a b ↔ z ∈ a ∨ z ∈ b
 | _, [], b, _, z => by rw [mer_nil']; simp
 | _, a, [], _, z => by rw [mer_nil]; simp
 | 0, x :: a, y :: b, h, z => by simp at h
 | n + 1, x :: a, y :: b, h, z => by
  simp only [List.length_cons] at h
  rcases Nat.lt_trichotomy x y with k | rfl | k
  ·rw [mer_lt _ _ k, List.mem_cons, mer_mem n a (y :: b) (by simp only [List.length_cons]; omega), List.mem_cons, List.mem_cons, or_assoc]
  ·rw [mer_eq, List.mem_cons, mer_mem n a b (by omega), List.mem_cons, List.mem_cons]
   constructor
   ·rintro (h | h | h)
    ·exact .inl (.inl h)
    ·exact .inl (.inr h)
    ·exact .inr (.inr h)
   ·rintro ((h | h) | (h | h))
    ·exact .inl h
    ·exact .inr (.inl h)
    ·exact .inl h
    ·exact .inr (.inr h)
  ·rw [mer_gt _ _ k, List.mem_cons, mer_mem n (x :: a) b (by simp only [List.length_cons]; omega), List.mem_cons, List.mem_cons]
   constructor
   ·rintro (h | h | h)
    ·exact .inr (.inl h)
    ·exact .inl h
    ·exact .inr (.inr h)
   ·rintro (h | h | h)
    ·exact .inr (.inl h)
    ·exact .inl h
    ·exact .inr (.inr h)
theorem mer_sorted : ∀ (n : Nat) (a b : List Nat), a.length + b.length ≤ n → a.Pairwise (· < ·) → b.Pairwise (· < ·) → (mer a b).Pairwise (· < ·)
 | _, [], b, _, _, hb => by rw [mer_nil']; exact hb
 | _, a, [], _, ha, _ => by rw [mer_nil]; exact ha
 | 0, x :: a, y :: b, h, _, _ => by simp at h
 | n + 1, x :: a, y :: b, h, ha, hb => by
  simp only [List.length_cons] at h
  have ha' := List.pairwise_cons.1 ha
  have hb' := List.pairwise_cons.1 hb
  rcases Nat.lt_trichotomy x y with k | rfl | k
  ·rw [mer_lt _ _ k]
   refine List.pairwise_cons.2 ⟨fun z hz => ?_, mer_sorted n a (y :: b) (by simp only [List.length_cons]; omega) ha'.2 hb⟩
   rcases (mer_mem _ _ _ (Nat.le_refl _) z).1 hz with q | q
   ·exact ha'.1 z q
   ·rcases List.mem_cons.1 q with rfl | q
    ·exact k
    ·exact Nat.lt_trans k (hb'.1 z q)
  ·rw [mer_eq]
   refine List.pairwise_cons.2 ⟨fun z hz => ?_, mer_sorted n a b (by omega) ha'.2 hb'.2⟩
   rcases (mer_mem _ _ _ (Nat.le_refl _) z).1 hz with q | q
   ·exact ha'.1 z q
   ·exact hb'.1 z q
  ·rw [mer_gt _ _ k]
   refine List.pairwise_cons.2 ⟨fun z hz => ?_, mer_sorted n (x :: a) b (by simp only [List.length_cons]; omega) ha hb'.2⟩
   rcases (mer_mem _ _ _ (Nat.le_refl _) z).1 hz with q | q
   ·rcases List.mem_cons.1 q with rfl | q
    ·exact k
    ·exact Nat.lt_trans k (ha'.1 z q)
   ·exact hb'.1 z q
theorem asc_eq : ∀ {a b : List Nat}, a.Pairwise (· < ·) → b.Pairwise (· < ·) → (∀ j, j ∈ a ↔ j ∈ b) → a = b
 | [], [], _, _, _ => rfl
 | [], y :: b, _, _, h => by have := (h y).2 List.mem_cons_self; cases this
 | x :: a, [], _, _, h => by have := (h x).1 List.mem_cons_self; cases this
 | x :: a, y :: b, ha, hb, h => by
  rw [List.pairwise_cons] at ha hb
  have e : x = y := by
   rcases List.mem_cons.1 ((h x).1 List.mem_cons_self) with e | e
   ·exact e
   ·rcases List.mem_cons.1 ((h y).2 List.mem_cons_self) with e2 | e2
    ·exact e2.symm
    ·have := hb.1 x e
     have := ha.1 y e2
     omega
  subst e
  rw [asc_eq ha.2 hb.2 fun j => ⟨fun hj => by
   rcases List.mem_cons.1 ((h j).1 (List.mem_cons_of_mem _ hj)) with e | e
   ·have := ha.1 j hj; omega
   ·exact e, fun hj => by
   rcases List.mem_cons.1 ((h j).2 (List.mem_cons_of_mem _ hj)) with e | e
   ·have := hb.1 j hj; omega
   ·exact e⟩]
theorem mer_bits (A B n : Nat) : mer (bitsOf A n) (bitsOf B n) = bitsOf (A ||| B) n := by
 have hs : ∀ N, (bitsOf N n).Pairwise (· < ·) := fun N => List.Pairwise.filter _ List.pairwise_lt_range
 refine asc_eq (mer_sorted _ _ _ (Nat.le_refl _) (hs A) (hs B)) (hs _) fun j => ?_
 rw [mer_mem _ _ _ (Nat.le_refl _)]
 unfold bitsOf
 simp only [List.mem_filter, List.mem_range, Nat.testBit_or, Bool.or_eq_true]
 constructor
 ·rintro (h | h)
  ·exact ⟨h.1, .inl h.2⟩
  ·exact ⟨h.1, .inr h.2⟩
 ·rintro ⟨h1, h | h⟩
  ·exact .inl ⟨h1, h⟩
  ·exact .inr ⟨h1, h⟩
theorem app_nat {lo : Nat} {M : MH} {v : MV} {l : List Nat} (n : Nat) (h : OwnRow lo M 1 v (nv l)) (hlo : M.lo ≤ lo) (hln : lo ≤ M.n) (hl : l.length ≤ 100000) :
  ∃ v' M', appM (M.push (.cs false 1 (ofL [.i .i64 (n : Int)] 0))) 1 8 v (.sl M.n 0 1 0) = some (v', M') ∧ OwnRow lo M' 1 v' (nv (l ++ [n])) ∧ M.n ≤ M'.n ∧ M'.lo = M.lo ∧ (∀ j, j < lo → M'.get j = M.get j) := by
 have x3 : Ext M (M.push (.cs false 1 (ofL [.i .i64 (n : Int)] 0))) := .push M _
 have n3 := x3.n
 have l3 := x3.lo
 obtain ⟨v', M4, a1, a2, a3, a4, _, a6, _⟩ := app_rowX (bytes := 8) (h.ext x3) (row_one (M := M) (e := [.i .i64 (n : Int)]) rfl) (by omega) (by omega) (fun e he => by
  simp only [List.mem_cons, List.not_mem_nil, or_false] at he
  subst he; rfl) (by rw [nv_len]; simp only [List.length_cons, List.length_nil]; omega) (by rw [nv_len]; simp only [List.length_cons, List.length_nil]; omega)
 exact ⟨v', M4, a1, by rw [nv_app]; exact a2, by omega, by omega, fun j hj => (a6 j hj (by omega)).trans (x3.old j (by omega))⟩
theorem nv_read {M : MH} {v : MV} {l : List Nat} (h : RowAt M 1 v (nv l)) {i x : Nat} (hx : l[i]? = some x) : ∃ ro s c, M.get (sid v) = some (.cs ro s c) ∧ sid v < M.n ∧ cget c (soff v + i * 1) = some (.i .i64 (x : Int)) := by
 obtain ⟨ro, s, c, h1, h2, h3⟩ := h.read (nv_at hx)
 exact ⟨ro, s, c, h1, h2, h3 0 _ rfl⟩
def NrAt (lo : Nat) (M : MH) (v : MV) (l : List Nat) : Prop := (l = [] → v = .nils) ∧ OwnRow lo M 1 v (nv l)
theorem union_any {M : MH} {va vb : MV} {la lb : List Nat} (hlo : M.lo ≤ M.n) (ha : RowAt M 1 va (nv la)) (hb : RowAt M 1 vb (nv lb)) (hla : la.length ≤ 1000) (hlb : lb.length ≤ 1000) : Cp fns 37 [va, vb] M fun m M' => Ext M M' ∧ NrAt M.n M' m (mer la lb) := by
 obtain ⟨sa, na⟩ := ha.sl
 obtain ⟨sb, nb⟩ := hb.sl
 have na : slen va = la.length := na.trans (nv_len la)
 have nb : slen vb = lb.length := nb.trans (nv_len lb)
 refine Cp_call (fn := F37) (by kernel_rfl) (Nat.le_of_ble_eq_true rfl) ?_
 show Wp fns B37 (T.set q1 (some vb) (T.set q0 (some va) T.lf)) M _
 unfold B37
 simp (disch := first | omega | assumption) only [↓bxD, bA, reduceCtorEq]
 refine Wp_inv (σ := Nat × Nat) (fun s f M' => s.1 ≤ la.length ∧ s.2 ≤ lb.length ∧ X.ev f (.t q0) = va ∧ X.ev f (.t q1) = vb ∧ X.ev f (.t q6) = .i .i64 (s.1 : Int) ∧ X.ev f (.t q7) = .i .i64 (s.2 : Int) ∧ Ext M M' ∧ ∃ out, OwnRow M.n M' 1 (X.ev f (.t q5)) (nv out) ∧ mer la lb = out ++ mer (la.drop s.1) (lb.drop s.2) ∧ out.length ≤ s.1 + s.2 ∧ (out = [] → X.ev f (.t q5) = .nils)) (fun s => 2000 - s.1 - s.2) ?_ (0, 0) ?_
 ·rintro ⟨i, j⟩ f M' ⟨hi, hj, h0, h1, h6, h7, hx, out, hr, hm, ho, hz⟩
  have hi : i ≤ la.length := hi
  have hj : j ≤ lb.length := hj
  have ho : out.length ≤ i + j := ho
  have hm : mer la lb = out ++ mer (la.drop i) (lb.drop j) := hm
  simp only [q5] at hz
  have n1 := hx.n
  have l1 := hx.lo
  have hlo1 : M'.lo ≤ M'.n := by omega
  have ha1 := ha.ext hx
  have hb1 := hb.ext hx
  simp only [q0, q1, q5, q6, q7] at h0 h1 hr h6 h7
  generalize h5 : X.ev f (.t (Ky.k1 Dg.d5)) = v at hr hz
  unfold L37_3
  have grow : ∀ x : Nat, ∃ v' M4, appM (M'.push (.cs false 1 (ofL [.i .i64 (x : Int)] 0))) 1 8 v (.sl M'.n 0 1 0) = some (v', M4) ∧ OwnRow M.n M4 1 v' (nv (out ++ [x])) ∧ Ext M M4 := fun x => by
   obtain ⟨v', M4, a1, a2, a3, a4, a6⟩ := app_nat x hr (by omega) (by omega) (by omega)
   exact ⟨v', M4, a1, a2, by omega, by omega, fun j hj => (a6 j hj).trans (hx.old j hj)⟩
  have ff : ∀ x : Nat, fillM [(0, 1, MV.i .i64 (x : Int))] (zrow [.i .i64 0] 1) = some [.i .i64 (x : Int)] := fun x => rfl
  by_cases hja : j < lb.length
  ·obtain ⟨y, hy⟩ : ∃ y, lb[j]? = some y := ⟨_, List.getElem?_eq_getElem hja⟩
   obtain ⟨rob, szb, tb, gb, _, cb⟩ := nv_read hb1 hy
   have dy : lb.drop j = y :: lb.drop (j + 1) := by
    rw [List.drop_eq_getElem_cons hja]; congr 1
    rw [List.getElem?_eq_getElem hja] at hy; exact Option.some.inj hy
   by_cases hia : i < la.length
   ·obtain ⟨x, hxx⟩ : ∃ x, la[i]? = some x := ⟨_, List.getElem?_eq_getElem hia⟩
    obtain ⟨roa, sza, ta, ga, _, ca⟩ := nv_read ha1 hxx
    have dx : la.drop i = x :: la.drop (i + 1) := by
     rw [List.drop_eq_getElem_cons hia]; congr 1
     rw [List.getElem?_eq_getElem hia] at hxx; exact Option.some.inj hxx
    have d1 : decide ((i : Int) < (la.length : Int)) = true := decide_eq_true (by omega)
    have d2 : decide ((lb.length : Int) ≤ (j : Int)) = false := decide_eq_false (by omega)
    have d3 : decide ((la.length : Int) ≤ (i : Int)) = false := decide_eq_false (by omega)
    simp (disch := first | omega | assumption) only [↓bxD, bA, reduceCtorEq, h0, h1, h5, h6, h7, sa, sb, na, nb, ga, gb, ca, cb, ff, bslW_some, d1]
    show Wp fns K37_2 _ _ _
    unfold K37_2
    simp (disch := first | omega | assumption) only [↓bxD, bA, reduceCtorEq, h0, h1, h5, h6, h7, sa, sb, na, nb, ga, gb, ca, cb, ff, bslW_some]
    refine Wp_dreg_of (by omega) ?_
    simp (disch := first | omega | assumption) only [↓bxD, bA, reduceCtorEq, h0, h1, h5, h6, h7, sa, sb, na, nb, ga, gb, ca, cb, ff, bslW_some, d1, d2]
    by_cases hlt : x < y
    ·have e1 : decide ((x : Int) < (y : Int)) = true := decide_eq_true (by omega)
     obtain ⟨v', M4, a1, a2, a3⟩ := grow x
     simp (disch := first | omega | assumption) only [↓bxD, bA, reduceCtorEq, h0, h1, h5, h6, h7, sa, sb, na, nb, ga, gb, ca, cb, ff, bslW_some, e1]
     show Wp fns K37_1 _ _ _
     unfold K37_1
     simp (disch := first | omega | assumption | (simp only [bZ, stOk, Nat.reduceBEq, Nat.reduceEqDiff, Nat.reduceAdd] <;> omega) | ((try apply has_setN); apply has_ofL; simp only [bxL]; omega)) only [↓bxD, bA, Nat.reduceBEq, reduceCtorEq, Nat.reduceAdd, Nat.reduceSub, Nat.reduceMul, Nat.reduceLeDiff, Nat.reduceLT, h0, h1, h5, h6, h7, sa, sb, na, nb, ga, gb, ca, cb, ff, bslW_some]
     refine bindP_of a1 ?_
     simp (disch := first | omega | assumption) only [↓bxD, bA, reduceCtorEq, h0, h1, h5, h6, h7, sa, sb, na, nb, ga, gb, ca, cb, ff, bslW_some]
     exact ⟨(i + 1, j), by show 2000 - (i + 1) - j < 2000 - i - j; omega, by show i + 1 ≤ _; omega, by show j ≤ _; omega, rfl, rfl, a3, _, a2, by rw [hm, dx, dy, mer_lt _ _ hlt]; simp, by simp; omega, fun e => by simp at e⟩
    ·have e1 : decide ((x : Int) < (y : Int)) = false := decide_eq_false (by omega)
     simp (disch := first | omega | assumption | (simp only [bZ, stOk, Nat.reduceBEq, Nat.reduceEqDiff, Nat.reduceAdd] <;> omega) | ((try apply has_setN); apply has_ofL; simp only [bxL]; omega)) only [↓bxD, bA, Nat.reduceBEq, reduceCtorEq, Nat.reduceAdd, Nat.reduceSub, Nat.reduceMul, Nat.reduceLeDiff, Nat.reduceLT, h0, h1, h5, h6, h7, sa, sb, na, nb, ga, gb, ca, cb, ff, bslW_some, e1]
     show Wp fns K37_1 _ _ _
     unfold K37_1
     simp (disch := first | omega | assumption | (simp only [bZ, stOk, Nat.reduceBEq, Nat.reduceEqDiff, Nat.reduceAdd] <;> omega) | ((try apply has_setN); apply has_ofL; simp only [bxL]; omega)) only [↓bxD, bA, Nat.reduceBEq, reduceCtorEq, Nat.reduceAdd, Nat.reduceSub, Nat.reduceMul, Nat.reduceLeDiff, Nat.reduceLT, h0, h1, h5, h6, h7, sa, sb, na, nb, ga, gb, ca, cb, ff, bslW_some]
     refine Wp_dreg_of (by omega) ?_
     simp (maxSteps := 4000000) (disch := first | omega | assumption | (simp only [bxS, bxV, stOk, Nat.reduceBEq, Nat.reduceEqDiff, Nat.reduceAdd]; done) | (simp only [bxU]; omega) | ((try apply has_setN); apply has_ofL; simp only [bxL]; omega)) only [↓bxD, bxP, bxQ, bxQ2, Nat.reduceBEq, reduceCtorEq, Nat.reduceAdd, Nat.reduceSub, Nat.reduceMul, Nat.reduceLeDiff, Nat.reduceLT, bxR, h0, h1, h5, h6, h7, sa, sb, na, nb, ga, gb, ca, cb, ff, bslW_some, d3]
     by_cases hgt : y < x
     ·have e2 : decide ((y : Int) < (x : Int)) = true := decide_eq_true (by omega)
      obtain ⟨v', M4, a1, a2, a3⟩ := grow y
      simp (disch := first | omega | assumption) only [↓bxD, bA, reduceCtorEq, h0, h1, h5, h6, h7, sa, sb, na, nb, ga, gb, ca, cb, ff, bslW_some, e2]
      show Wp fns K37_0 _ _ _
      unfold K37_0
      simp (disch := first | omega | assumption | (simp only [bZ, stOk, Nat.reduceBEq, Nat.reduceEqDiff, Nat.reduceAdd] <;> omega) | ((try apply has_setN); apply has_ofL; simp only [bxL]; omega)) only [↓bxD, bA, Nat.reduceBEq, reduceCtorEq, Nat.reduceAdd, Nat.reduceSub, Nat.reduceMul, Nat.reduceLeDiff, Nat.reduceLT, h0, h1, h5, h6, h7, sa, sb, na, nb, ga, gb, ca, cb, ff, bslW_some]
      refine bindP_of a1 ?_
      simp (disch := first | omega | assumption) only [↓bxD, bA, reduceCtorEq, h0, h1, h5, h6, h7, sa, sb, na, nb, ga, gb, ca, cb, ff, bslW_some]
      exact ⟨(i, j + 1), by show 2000 - i - (j + 1) < 2000 - i - j; omega, by show i ≤ _; omega, by show j + 1 ≤ _; omega, rfl, rfl, a3, _, a2, by rw [hm, dx, dy, mer_gt _ _ hgt]; simp, by simp; omega, fun e => by simp at e⟩
     ·have e2 : decide ((y : Int) < (x : Int)) = false := decide_eq_false (by omega)
      have e3 : x = y := by omega
      subst e3
      obtain ⟨v', M4, a1, a2, a3⟩ := grow x
      simp (disch := first | omega | assumption | (simp only [bZ, stOk, Nat.reduceBEq, Nat.reduceEqDiff, Nat.reduceAdd] <;> omega) | ((try apply has_setN); apply has_ofL; simp only [bxL]; omega)) only [↓bxD, bA, Nat.reduceBEq, reduceCtorEq, Nat.reduceAdd, Nat.reduceSub, Nat.reduceMul, Nat.reduceLeDiff, Nat.reduceLT, h0, h1, h5, h6, h7, sa, sb, na, nb, ga, gb, ca, cb, ff, bslW_some, e2]
      show Wp fns K37_0 _ _ _
      unfold K37_0
      simp (maxSteps := 4000000) (disch := first | omega | assumption | (simp only [bxS, bxV, stOk, Nat.reduceBEq, Nat.reduceEqDiff, Nat.reduceAdd]; done) | (simp only [bxU]; omega) | ((try apply has_setN); apply has_ofL; simp only [bxL]; omega)) only [↓bxD, bxP, bxQ, bxQ2, Nat.reduceBEq, reduceCtorEq, Nat.reduceAdd, Nat.reduceSub, Nat.reduceMul, Nat.reduceLeDiff, Nat.reduceLT, bxR, h0, h1, h5, h6, h7, sa, sb, na, nb, ga, gb, ca, cb, ff, bslW_some]
      refine bindP_of a1 ?_
      simp (maxSteps := 4000000) (disch := first | omega | assumption | (simp only [bxS, bxV, stOk, Nat.reduceBEq, Nat.reduceEqDiff, Nat.reduceAdd]; done) | (simp only [bxU]; omega) | ((try apply has_setN); apply has_ofL; simp only [bxL]; omega)) only [↓bxD, bxP, bxQ, bxQ2, Nat.reduceBEq, reduceCtorEq, Nat.reduceAdd, Nat.reduceSub, Nat.reduceMul, Nat.reduceLeDiff, Nat.reduceLT, bxR, h0, h1, h5, h6, h7, sa, sb, na, nb, ga, gb, ca, cb, ff, bslW_some]
      exact ⟨(i + 1, j + 1), by show 2000 - (i + 1) - (j + 1) < 2000 - i - j; omega, by show i + 1 ≤ _; omega, by show j + 1 ≤ _; omega, rfl, rfl, a3, _, a2, by rw [hm, dx, dy, mer_eq]; simp, by simp; omega, fun e => by simp at e⟩
   ·have dx : la.drop i = [] := List.drop_eq_nil_of_le (by omega)
    have d1 : decide ((i : Int) < (la.length : Int)) = false := decide_eq_false (by omega)
    have d2 : decide ((lb.length : Int) ≤ (j : Int)) = false := decide_eq_false (by omega)
    have d3 : decide ((la.length : Int) ≤ (i : Int)) = true := decide_eq_true (by omega)
    have d4 : decide ((j : Int) < (lb.length : Int)) = true := decide_eq_true (by omega)
    obtain ⟨v', M4, a1, a2, a3⟩ := grow y
    simp (disch := first | omega | assumption) only [↓bxD, bA, reduceCtorEq, h0, h1, h5, h6, h7, sa, sb, na, nb, gb, cb, ff, bslW_some, d1, d4]
    show Wp fns K37_2 _ _ _
    unfold K37_2
    simp (disch := first | omega | assumption) only [↓bxD, bA, reduceCtorEq, h0, h1, h5, h6, h7, sa, sb, na, nb, gb, cb, ff, bslW_some]
    refine Wp_dreg_of (by omega) ?_
    simp (disch := first | omega | assumption) only [↓bxD, bA, reduceCtorEq, h0, h1, h5, h6, h7, sa, sb, na, nb, gb, cb, ff, bslW_some, d1, d2]
    show Wp fns K37_1 _ _ _
    unfold K37_1
    simp (disch := first | omega | assumption) only [↓bxD, bA, reduceCtorEq, h0, h1, h5, h6, h7, sa, sb, na, nb, gb, cb, ff, bslW_some]
    refine Wp_dreg_of (by omega) ?_
    simp (disch := first | omega | assumption) only [↓bxD, bA, reduceCtorEq, h0, h1, h5, h6, h7, sa, sb, na, nb, gb, cb, ff, bslW_some, d3]
    show Wp fns K37_0 _ _ _
    unfold K37_0
    simp (disch := first | omega | assumption | (simp only [bZ, stOk, Nat.reduceBEq, Nat.reduceEqDiff, Nat.reduceAdd] <;> omega) | ((try apply has_setN); apply has_ofL; simp only [bxL]; omega)) only [↓bxD, bA, Nat.reduceBEq, reduceCtorEq, Nat.reduceAdd, Nat.reduceSub, Nat.reduceMul, Nat.reduceLeDiff, Nat.reduceLT, h0, h1, h5, h6, h7, sa, sb, na, nb, gb, cb, ff, bslW_some]
    refine bindP_of a1 ?_
    simp (disch := first | omega | assumption) only [↓bxD, bA, reduceCtorEq, h0, h1, h5, h6, h7, sa, sb, na, nb, gb, cb, ff, bslW_some]
    exact ⟨(i, j + 1), by show 2000 - i - (j + 1) < 2000 - i - j; omega, by show i ≤ _; omega, by show j + 1 ≤ _; omega, rfl, rfl, a3, _, a2, by rw [hm, dx, dy, mer_nil', mer_nil']; simp, by simp; omega, fun e => by simp at e⟩
  ·have dy : lb.drop j = [] := List.drop_eq_nil_of_le (by omega)
   have d4 : decide ((j : Int) < (lb.length : Int)) = false := decide_eq_false (by omega)
   have d2 : decide ((lb.length : Int) ≤ (j : Int)) = true := decide_eq_true (by omega)
   by_cases hia : i < la.length
   ·obtain ⟨x, hxx⟩ : ∃ x, la[i]? = some x := ⟨_, List.getElem?_eq_getElem hia⟩
    obtain ⟨roa, sza, ta, ga, _, ca⟩ := nv_read ha1 hxx
    have dx : la.drop i = x :: la.drop (i + 1) := by
     rw [List.drop_eq_getElem_cons hia]; congr 1
     rw [List.getElem?_eq_getElem hia] at hxx; exact Option.some.inj hxx
    have d1 : decide ((i : Int) < (la.length : Int)) = true := decide_eq_true (by omega)
    obtain ⟨v', M4, a1, a2, a3⟩ := grow x
    simp (disch := first | omega | assumption) only [↓bxD, bA, reduceCtorEq, h0, h1, h5, h6, h7, sa, sb, na, nb, ga, ca, ff, bslW_some, d1]
    show Wp fns K37_2 _ _ _
    unfold K37_2
    simp (disch := first | omega | assumption) only [↓bxD, bA, reduceCtorEq, h0, h1, h5, h6, h7, sa, sb, na, nb, ga, ca, ff, bslW_some]
    refine Wp_dreg_of (by omega) ?_
    simp (disch := first | omega | assumption) only [↓bxD, bA, reduceCtorEq, h0, h1, h5, h6, h7, sa, sb, na, nb, ga, ca, ff, bslW_some, d2]
    show Wp fns K37_1 _ _ _
    unfold K37_1
    simp (disch := first | omega | assumption | (simp only [bZ, stOk, Nat.reduceBEq, Nat.reduceEqDiff, Nat.reduceAdd] <;> omega) | ((try apply has_setN); apply has_ofL; simp only [bxL]; omega)) only [↓bxD, bA, Nat.reduceBEq, reduceCtorEq, Nat.reduceAdd, Nat.reduceSub, Nat.reduceMul, Nat.reduceLeDiff, Nat.reduceLT, h0, h1, h5, h6, h7, sa, sb, na, nb, ga, ca, ff, bslW_some]
    refine bindP_of a1 ?_
    simp (disch := first | omega | assumption) only [↓bxD, bA, reduceCtorEq, h0, h1, h5, h6, h7, sa, sb, na, nb, ga, ca, ff, bslW_some]
    exact ⟨(i + 1, j), by show 2000 - (i + 1) - j < 2000 - i - j; omega, by show i + 1 ≤ _; omega, by show j ≤ _; omega, rfl, rfl, a3, _, a2, by rw [hm, dx, dy, mer_nil, mer_nil]; simp, by simp; omega, fun e => by simp at e⟩
   ·have dx : la.drop i = [] := List.drop_eq_nil_of_le (by omega)
    have d1 : decide ((i : Int) < (la.length : Int)) = false := decide_eq_false (by omega)
    simp (disch := first | omega | assumption) only [↓bxD, bA, reduceCtorEq, h0, h1, h5, h6, h7, sa, sb, na, nb, d1, d4]
    show Wp fns K37_4 _ _ _
    unfold K37_4
    simp (disch := first | omega | assumption) only [↓bxD, bA, reduceCtorEq, h0, h1, h5, h6, h7, sa, sb, na, nb]
    rw [hm, dx, dy, mer_nil, List.append_nil]
    exact ⟨hx, hz, hr⟩
 ·refine ⟨Nat.zero_le _, Nat.zero_le _, by simp only [bA, reduceCtorEq], by simp only [bA, reduceCtorEq], by simp only [bA, reduceCtorEq] <;> rfl, by simp only [bA, reduceCtorEq] <;> rfl, .refl _, [], ?_, rfl, Nat.le_refl _, fun _ => by simp only [bA, reduceCtorEq] <;> rfl⟩
  simp (disch := first | omega | assumption) only [↓bxD, bA, reduceCtorEq]
  exact OwnRow.nil _ _ _
def isNum (c : Ev.T MV) : Prop := ∃ z, cget c 0 = some (.i .i64 z)
structure FrW (M M' : MH) : Prop where
 n : M.n ≤ M'.n
 lo : M'.lo = M.lo
 old : ∀ j sz c, j < M.n → M.get j = some (.cs false sz c) → (sz = 3 ∨ sz = 6 ∨ (sz = 1 ∧ isNum c)) → M'.get j = some (.cs false sz c)
theorem FrW.refl (M : MH) : FrW M M := ⟨Nat.le_refl _, rfl, fun _ _ _ _ h _ => h⟩
theorem FrW.trans {a b c : MH} (h : FrW a b) (k : FrW b c) : FrW a c := ⟨Nat.le_trans h.n k.n, k.lo.trans h.lo, fun j s x hj e q => k.old j s x (Nat.lt_of_lt_of_le hj h.n) (h.old j s x hj e q) q⟩
theorem FrW.of {a b : MH} (h : Ext a b) : FrW a b := ⟨h.n, h.lo, fun j s x hj e _ => (h.old j hj).trans e⟩
theorem nr_cell {l : List Nat} {c : T MV} (h : At c 0 (nv l).flatten) (hl : l ≠ []) : isNum c := by
 cases l with
 | nil => exact (hl rfl).elim
 | cons x r => exact ⟨x, h 0 _ rfl⟩
theorem NrAt.fr {lo : Nat} {M M' : MH} {v : MV} {l : List Nat} (h : NrAt lo M v l) (k : FrW M M') : NrAt lo M' v l := by
 refine ⟨h.1, ?_⟩
 by_cases hl : l = []
 ·rw [h.1 hl, hl]
  exact OwnRow.nil _ _ _
 ·obtain ⟨hs, ⟨h1, h2⟩ | ⟨id, c, h1, h2, h3, h4, h5⟩⟩ := h.2
  ·exact (hl (by cases l with | nil => rfl | cons x r => cases h2)).elim
  ·exact ⟨hs, .inr ⟨id, c, h1, k.old id 1 c h4 h2 (.inr (.inr ⟨rfl, nr_cell h5 hl⟩)), h3, Nat.lt_of_lt_of_le h4 k.n, h5⟩⟩
theorem NrAt.le {lo lo' : Nat} {M : MH} {v : MV} {l : List Nat} (h : NrAt lo M v l) (k : lo' ≤ lo) : NrAt lo' M v l := ⟨h.1, h.2.le k⟩
theorem NrAt.nil (lo : Nat) (M : MH) : NrAt lo M .nils [] := ⟨fun _ => rfl, OwnRow.nil _ _ _⟩
theorem NrAt.sub {lo : Nat} {M M' : MH} {v : MV} {l : List Nat} (h : NrAt lo M v l) (k : Sub M M') : NrAt lo M' v l := by
 obtain ⟨h0, hs, ⟨h1, h2⟩ | ⟨id, c, h1, h2, h3, h4, h5⟩⟩ := h
 ·exact ⟨h0, hs, .inl ⟨h1, h2⟩⟩
 ·exact ⟨h0, hs, .inr ⟨id, c, h1, (k.old id h4).trans h2, h3, Nat.lt_of_lt_of_le h4 k.n, h5⟩⟩
theorem NrAt.not_num {lo : Nat} {M : MH} {v : MV} {l : List Nat} (h : NrAt lo M v l) : ∀ k z, v ≠ .i k z := fun k z e => by
 obtain ⟨_, _, ⟨h1, _⟩ | ⟨id, c, h1, _⟩⟩ := h <;> rw [h1] at e <;> cases e
def lv (fs : List MV) : List (List MV) := fs.map fun v => [v]
theorem lv_sized (fs : List MV) : Sized 1 (lv fs) := fun e he => by
 obtain ⟨m, _, rfl⟩ := List.mem_map.1 he
 rfl
theorem lv_at {fs : List MV} {i : Nat} {v : MV} (h : fs[i]? = some v) : (lv fs)[i]? = some [v] := by unfold lv; rw [List.getElem?_map, h]; rfl
structure DsO (Mb M : MH) (px : Nat) (c : T MV) (sv x1 x2 x3 fv : MV) (fs : List MV) (b : Bs) : Prop where
 ext : Ext Mb M
 g : M.get px = some (.cs false 5 c)
 bl : Mb.n ≤ px ∧ px < M.n
 at_ : At c 0 [sv, x1, x2, x3, fv]
 rs : OwnRow Mb.n M 4 sv b.sets
 rf : OwnRow Mb.n M 1 fv (lv fs)
 fl : fs.length = b.fol.length
 fz : fs = [] → fv = .nils
 fo : ∀ (i : Nat) (v : MV) (A : Nat), fs[i]? = some v → b.fol[i]? = some A → NrAt Mb.n M v (bitsOf A 150)
 len : b.fol.length = b.sets.length
theorem DsO.nn {Mb M : MH} {px : Nat} {c : T MV} {sv x1 x2 x3 fv : MV} {fs : List MV} {b : Bs} (h : DsO Mb M px c sv x1 x2 x3 fv fs b) {A n d e : Nat} (e0 : fv = .sl A n d e) : ∃ cc, M.get A = some (.cs false 1 cc) ∧ ¬ isNum cc ∧ Mb.n ≤ A ∧ A < M.n := by
 obtain ⟨hs, ⟨h1, _⟩ | ⟨id, cc, h1, h2, h3, h4, h5⟩⟩ := h.rf
 ·rw [h1] at e0; cases e0
 ·have h1' := h1
  rw [e0] at h1; cases h1
  refine ⟨cc, h2, ?_, h3, h4⟩
  rintro ⟨z, hz⟩
  cases hf : fs with
  | nil => rw [h.fz hf] at e0; cases e0
  | cons w r =>
   have hw : fs[0]? = some w := by rw [hf]; rfl
   have hl := h.fl
   obtain ⟨A0, hA0⟩ : ∃ A0, b.fol[0]? = some A0 := ⟨_, List.getElem?_eq_getElem (by rw [hf, List.length_cons] at hl; omega)⟩
   have := At.elem (lv_sized _) h5 (lv_at hw) 0 _ rfl
   simp only [Nat.zero_mul, Nat.add_zero] at this
   rw [this, Option.some.injEq] at hz
   exact (h.fo 0 w A0 hw hA0).not_num _ _ hz
def Ds (Mb M : MH) (px : Nat) (x1 x2 x3 : MV) (b : Bs) : Prop := ∃ c sv fv fs, DsO Mb M px c sv x1 x2 x3 fv fs b
theorem DsO.more {Mb M M' : MH} {px : Nat} {c : T MV} {sv x1 x2 x3 fv : MV} {fs : List MV} {b : Bs} (h : DsO Mb M px c sv x1 x2 x3 fv fs b) (k : Ext M M') : DsO Mb M' px c sv x1 x2 x3 fv fs b :=
 ⟨h.ext.trans k, (k.old px h.bl.2).trans h.g, ⟨h.bl.1, Nat.lt_of_lt_of_le h.bl.2 k.n⟩, h.at_, h.rs.ext k, h.rf.ext k, h.fl, h.fz, fun i v A h1 h2 => (h.fo i v A h1 h2).fr (.of k), h.len⟩
theorem Ds.more {Mb M M' : MH} {px : Nat} {x1 x2 x3 : MV} {b : Bs} (h : Ds Mb M px x1 x2 x3 b) (k : Ext M M') : Ds Mb M' px x1 x2 x3 b := by
 obtain ⟨c, sv, fv, fs, h⟩ := h
 exact ⟨c, sv, fv, fs, h.more k⟩
def lstep (fi : Nat) (F : List Nat) (n : Nat) : List Nat := F.set n (F[n]?.getD 0 ||| fi)
theorem lstep_len (fi : Nat) : ∀ (l F : List Nat), (l.foldl (lstep fi) F).length = F.length
 | [], F => rfl
 | n :: r, F => by rw [List.foldl_cons, lstep_len fi r]; unfold lstep; rw [List.length_set]
theorem fold_mix {fol : List Nat} {la fi : Nat} : ∀ n, n ≤ fol.length → (bitsOf la n).foldl (lstep fi) fol = mixF fol la fi n
 | 0, _ => by
  unfold mixF bitsOf
  refine List.ext_getElem? fun j => ?_
  rw [List.getElem?_mapIdx]
  show fol[j]? = _
  cases fol[j]? with
  | none => rfl
  | some f => simp
 | n + 1, h => by
  have hf : fol[n]? = some fol[n] := List.getElem?_eq_getElem h
  rw [bitsOf_succ, mixF_succ hf]
  split
  ·rw [List.foldl_append, fold_mix n (by omega)]
   show lstep fi _ n = _
   unfold lstep
   rw [mixF_at hf]; rfl
  ·exact fold_mix n (by omega)
theorem bits_below {A n m : Nat} (h : ∀ i, A.testBit i = true → i < n) (hm : n ≤ m) : bitsOf A m = bitsOf A n := by
 refine asc_eq (List.Pairwise.filter _ List.pairwise_lt_range) (List.Pairwise.filter _ List.pairwise_lt_range) fun j => ?_
 unfold bitsOf
 simp only [List.mem_filter, List.mem_range]
 constructor
 ·rintro ⟨_, h2⟩; exact ⟨h j h2, h2⟩
 ·rintro ⟨h1, h2⟩; exact ⟨by omega, h2⟩
theorem fold_link {fol : List Nat} {la fi : Nat} (h : ∀ i, la.testBit i = true → i < fol.length) (hl : fol.length ≤ 150) : (bitsOf la 150).foldl (lstep fi) fol = linkM fol la fi := by
 rw [bits_below h hl, fold_mix _ (Nat.le_refl _), mixF_all]
theorem link52 {Mb M : MH} {px : Nat} {c : T MV} {sv x1 x2 x3 fv va vf : MV} {fs : List MV} {b : Bs} {la fi : Nat} (h : DsO Mb M px c sv x1 x2 x3 fv fs b) (hlo : Mb.lo ≤ Mb.n) (hb : b.fol.length ≤ 150) (hla : NrAt Mb.n M va (bitsOf la 150)) (hfi : NrAt Mb.n M vf (bitsOf fi 150)) (hbit : ∀ i, la.testBit i = true → i < b.fol.length) :
  Cp fns 52 [.p px 0, va, vf] M fun _ M' => Ds Mb M' px x1 x2 x3 (linkB b la fi) ∧ FrW M M' := by
 have en := h.ext.n
 have el := h.ext.lo
 refine Cp_call (fn := F52) (by kernel_rfl) (Nat.le_of_ble_eq_true rfl) ?_
 show Wp fns B52 (T.set q2 (some vf) (T.set q1 (some va) (T.set q0 (some (.p px 0)) T.lf))) M _
 unfold B52
 simp (disch := first | omega | assumption) only [↓bxD, bA, reduceCtorEq]
 refine Wp_inv (σ := Nat) (fun k f M' => k ≤ (bitsOf la 150).length ∧ X.ev f (.t q0) = .p px 0 ∧ X.ev f (.t q1) = va ∧ X.ev f (.t q2) = vf ∧ X.ev f (.t q6) = .i .i64 (k : Int) ∧ (∃ fs, DsO Mb M' px c sv x1 x2 x3 fv fs ⟨b.sets, ((bitsOf la 150).take k).foldl (lstep fi) b.fol⟩) ∧ FrW M M') (fun k => (bitsOf la 150).length - k) ?_ 0 ?_
 ·rintro k f M' ⟨hk, h0, h1, h2, h6, ⟨fs, hB⟩, hF⟩
  have n1 := hF.n
  have l1 := hF.lo
  have en1 := hB.ext.n
  have el1 := hB.ext.lo
  have hla1 := hla.fr hF
  have hfi1 := hfi.fr hF
  have hll := bitsOf_len la 150
  obtain ⟨sa, na⟩ := hla1.2.row.sl
  have na : slen va = (bitsOf la 150).length := na.trans (nv_len _)
  simp only [q0, q1, q2, q6] at h0 h1 h2 h6
  unfold L52_2
  simp (disch := first | omega | assumption) only [↓bxD, bA, reduceCtorEq, h0, h1, h2, h6, sa, na, nck_p]
  refine condP_split (fun hlt => ?_) (fun hge => ?_)
  ·have hk3 : k < (bitsOf la 150).length := by omega
   obtain ⟨n, hn⟩ : ∃ n, (bitsOf la 150)[k]? = some n := ⟨_, List.getElem?_eq_getElem hk3⟩
   have hnb : n < b.fol.length := hbit n (by
    have := List.mem_of_getElem? hn
    unfold bitsOf at this
    exact (List.mem_filter.1 this).2)
   generalize hFd : ((bitsOf la 150).take k).foldl (lstep fi) b.fol = F at hB
   have hFl : F.length = b.fol.length := by rw [← hFd]; exact lstep_len fi _ _
   have hfl := hB.fl
   have hfl : fs.length = F.length := hfl
   obtain ⟨A0, hA0⟩ : ∃ A0, F[n]? = some A0 := ⟨_, List.getElem?_eq_getElem (by omega)⟩
   obtain ⟨w, hw⟩ : ∃ w, fs[n]? = some w := ⟨_, List.getElem?_eq_getElem (by omega)⟩
   have hwr := hB.fo n w A0 hw hA0
   obtain ⟨roa, sza, ta, ga, _, ca⟩ := nv_read hla1.2.row hn
   have g2 := hB.g
   have c4 : cget c 4 = some fv := hB.at_ 4 _ rfl
   obtain ⟨A, cf, rfl, hA1, hA2, hA3, hA4⟩ : ∃ A cf, fv = .sl A 0 fs.length 0 ∧ M'.get A = some (.cs false 1 cf) ∧ Mb.n ≤ A ∧ A < M'.n ∧ At cf 0 (lv fs).flatten := by
    obtain ⟨hs, ⟨_, e2⟩ | ⟨A, cf, e1, e2, e3, e4, e5⟩⟩ := hB.rf
    ·have := congrArg List.length e2
     unfold lv at this
     rw [List.length_map, List.length_nil] at this
     omega
    ·unfold lv at e1
     rw [List.length_map] at e1
     exact ⟨A, cf, e1, e2, e3, e4, e5⟩
   have ixf : ixV 1 (.sl A 0 fs.length 0) (.i .i64 (n : Int)) = some (.p A (0 + n * 1)) := ix_sl (v := .sl A 0 fs.length 0) rfl (show n < fs.length by omega)
   have cw : cget cf (n * 1) = some w := by
    have := At.elem (lv_sized _) hA4 (lv_at hw) 0 _ rfl
    simpa using this
   have hnn : ¬ isNum cf := by
    rintro ⟨z, hz⟩
    obtain ⟨w0, hw0⟩ : ∃ w0, fs[0]? = some w0 := ⟨_, List.getElem?_eq_getElem (by omega)⟩
    obtain ⟨A00, hA00⟩ : ∃ A00, F[0]? = some A00 := ⟨_, List.getElem?_eq_getElem (by omega)⟩
    have := At.elem (lv_sized _) hA4 (lv_at hw0) 0 _ rfl
    simp only [Nat.zero_mul, Nat.add_zero] at this
    rw [this, Option.some.injEq] at hz
    exact (hB.fo 0 w0 A00 hw0 hA00).not_num _ _ hz
   have hbk : hasB cf 1 (n * 1) = true := (show At cf (n * 1) [w] from by
    have := At.elem (lv_sized _) hA4 (lv_at hw)
    rwa [Nat.zero_add] at this).has
   simp (disch := first | omega | assumption) only [↓bxD, bA, reduceCtorEq, h0, h1, h2, h6, sa, na, nck_p]
   show Wp fns K52_1 _ _ _
   unfold K52_1
   simp (disch := first | omega | assumption) only [↓bxD, bA, reduceCtorEq, h0, h1, h2, h6, sa, na, nck_p]
   refine Wp_dreg_of (by omega) ?_
   simp (disch := first | omega | assumption) only [↓bxD, bA, reduceCtorEq, h0, h1, h2, h6, sa, na, nck_p, g2, c4, ga, ca, ixf, Nat.zero_add, hA1, cw]
   refine bindP_call (union_any (Nat.le_refl _) ((hwr.2.row).sub (.lift M')) ((hfi1.2.row).sub (.lift M')) (Nat.le_trans (bitsOf_len _ _) (by omega)) (Nat.le_trans (bitsOf_len _ _) (by omega))) ?_
   rintro m M3 ⟨hx3, hm⟩
   rw [mer_bits] at hm
   have sx : Sub M' (M3.down M'.lo) := ((Sub.lift M').trans hx3.sub).trans (.down _ _)
   have ex := sx.ext rfl
   have n3 := ex.n
   have hA1' : (M3.down M'.lo).get A = some (.cs false 1 cf) := (ex.old A hA3).trans hA1
   have hA1'' : M3.get A = some (.cs false 1 cf) := hA1'
   have l3 : (M3.down M'.lo).lo ≤ A := by have := ex.lo; omega
   have hm3 : NrAt Mb.n (M3.down M'.lo) m (bitsOf (A0 ||| fi) 150) := (hm.sub (.down _ _)).le (by show Mb.n ≤ M'.n; omega)
   obtain ⟨hst, hcm⟩ : stOk 1 m = true ∧ MV.cells m = [m] := by
    obtain ⟨_, _, ⟨h1, _⟩ | ⟨id, c, h1, _⟩⟩ := hm3 <;> rw [h1] <;> exact ⟨rfl, rfl⟩
   simp (disch := first | omega | assumption) only [↓bxD, bA, reduceCtorEq, h0, h1, h2, h6, sa, na, nck_p, ixf, Nat.zero_add, hA1'', hst, hcm]
   generalize hM4 : MH.set _ _ _ = M4
   have x4 : Chg (fun j => j = A) (M3.down M'.lo) M4 := by rw [← hM4]; exact (Chg.refl (fun j => j = A) _).set _ (.inl rfl)
   have g4 : M4.get A = some (.cs false 1 (setN [m] (n * 1) cf)) := by rw [← hM4]; exact set_same _ _
   have n4 := x4.n
   have l4 := x4.lo
   clear hM4
   have hF4 : FrW M' M4 := (FrW.of ex).trans ⟨n4, l4, fun j s cc hj e q => (x4.old j hj (fun e2 => by
    rw [e2, hA1'] at e
    cases e
    rcases q with q | q | ⟨_, q⟩
    ·cases q
    ·cases q
    ·exact hnn q)).trans e⟩
   have hm4 := hm3.fr (⟨n4, l4, fun j s cc hj e q => (x4.old j hj (fun e2 => by
    rw [e2, hA1'] at e
    cases e
    rcases q with q | q | ⟨_, q⟩
    ·cases q
    ·cases q
    ·exact hnn q)).trans e⟩ : FrW (M3.down M'.lo) M4)
   show Wp fns K52_0 _ _ _
   unfold K52_0
   simp (disch := first | omega | assumption) only [↓bxD, bA, reduceCtorEq, h0, h1, h2, h6, sa, na, nck_p]
   have hbl := hB.bl
   have hAp : A ≠ px := fun e => by rw [e, g2] at hA1; cases hA1
   refine ⟨k + 1, by omega, by omega, rfl, ⟨fs.set n m, ⟨⟨by omega, by have := ex.lo; omega, fun j hj => (x4.old j (by omega) (by omega)).trans ((ex.old j (by omega)).trans (hB.ext.old j hj))⟩, (x4.old px (by omega) (fun e => hAp e.symm)).trans ((ex.old px hbl.2).trans g2), ⟨hbl.1, by omega⟩, hB.at_, ?_, ?_, ?_, ?_, ?_, ?_⟩⟩, hF.trans hF4⟩
   ·exact (hB.rs.ext ex).keep n4 fun a b n d e => by
     obtain ⟨cc, q1, q2, q3⟩ := own_id (hB.rs.ext ex) e
     exact x4.old a q3 fun e => by rw [e, hA1'] at q1; cases q1
   ·refine ⟨lv_sized _, .inr ⟨A, _, ?_, g4, hA2, by omega, ?_⟩⟩
    ·unfold lv; rw [List.length_map, List.length_set]
    ·have := At.elem_set (lv_sized fs) hA4 (i := n) (o := 0) (x := m) (lv_at hw) (by omega) (k := n * 1) (by omega)
     unfold lv at this ⊢
     rw [List.map_set]
     exact this
   ·show (fs.set n m).length = _
    rw [List.length_set, lstep_len]; omega
   ·intro e
    have := congrArg List.length e
    rw [List.length_set, List.length_nil] at this
    omega
   ·intro i v A h1 h2
    have hts : (bitsOf la 150).take (k + 1) = (bitsOf la 150).take k ++ [n] := by rw [List.take_add_one, hn]; rfl
    have h2 : (((bitsOf la 150).take (k + 1)).foldl (lstep fi) b.fol)[i]? = some A := h2
    rw [hts, List.foldl_append, hFd] at h2
    have h2 : (F.set n (F[n]?.getD 0 ||| fi))[i]? = some A := h2
    rw [hA0] at h2
    rw [List.getElem?_set] at h1 h2
    by_cases hi : n = i
    ·subst hi
     rw [if_pos rfl, if_pos (by omega)] at h1 h2
     cases h1; cases h2
     exact hm4
    ·rw [if_neg hi] at h1 h2
     exact (hB.fo i v A h1 h2).fr hF4
   ·show (List.foldl (lstep fi) b.fol _).length = _
    rw [lstep_len]; exact h.len
  ·have hk3 : k = (bitsOf la 150).length := by omega
   simp (disch := first | omega | assumption) only [↓bxD, bA, reduceCtorEq, h0, h1, h2, h6, sa, na, nck_p, resL_nil]
   rw [hk3, List.take_length, fold_link hbit hb] at hB
   exact ⟨⟨_, _, _, _, hB⟩, hF⟩
 ·exact ⟨Nat.zero_le _, by simp only [bA, reduceCtorEq], by simp only [bA, reduceCtorEq], by simp only [bA, reduceCtorEq], by simp only [bA, reduceCtorEq] <;> rfl, ⟨fs, h⟩, .refl _⟩
theorem part0 {x : Rx} (h : cnt x = 0) (st : Bs) : partM x st = (p0M, st) := by
 obtain ⟨op, a, b, c, d, kids⟩ := x
 rw [partM, if_pos h]
theorem link0 (st : Bs) : linkB st 0 0 = st := by
 obtain ⟨s, f⟩ := st
 unfold linkB linkM
 congr 1
 refine List.ext_getElem? fun j => ?_
 rw [List.getElem?_mapIdx]
 simp
theorem cat0 : ∀ (l : List Rx) (st : Bs), cntL l = 0 → catM l p0M st = (p0M, st)
 | [], st, _ => by rw [catM]
 | k :: r, st, h => by
  rw [cntL] at h
  rw [catM, part0 (by omega)]
  have e1 : catP p0M p0M = p0M := by simp [catP, p0M]
  have e2 : linkB st p0M.la p0M.fi = st := link0 st
  simp only [e1, e2]
  exact cat0 r st (by omega)
theorem alt0 : ∀ (l : List Rx) (p : Pm) (st : Bs), cntL l = 0 → altM l p st = (⟨p.null || !l.isEmpty, p.fi, p.la⟩, st)
 | [], p, st, _ => by rw [altM]; simp
 | k :: r, p, st, h => by
  rw [cntL] at h
  rw [altM, part0 (by omega), alt0 r _ st (by omega)]
  simp [altP, p0M]
def docM (op a b c d : Int) (kids : List Rx) (st : Bs) : Pm × Bs :=
 if op = 1 then placeM (st4 a b c d) st else if op = 2 then catM kids p0M st else if op = 3 then (if kids = [] then (p0M, st) else altM kids ⟨false, 0, 0⟩ st) else if op = 4 ∨ op = 5 ∨ op = 6 then rep1M op kids st else (p0M, st)
theorem partM_doc (op a b c d : Int) (kids : List Rx) (st : Bs) : partM (.mk op a b c d kids) st = docM op a b c d kids st := by
 by_cases h0 : cnt (.mk op a b c d kids) = 0
 ·rw [part0 h0]
  unfold docM
  rw [cnt] at h0
  by_cases h1 : op = 1
  ·rw [if_pos h1] at h0; cases h0
  rw [if_neg h1] at h0 ⊢
  by_cases h2 : op = 2
  ·rw [if_pos (.inl h2)] at h0
   rw [if_pos h2, cat0 kids st h0]
  rw [if_neg h2]
  by_cases h3 : op = 3
  ·rw [if_pos (.inr h3)] at h0
   rw [if_pos h3, alt0 kids _ st h0]
   split
   ·rfl
   ·cases kids with
    | nil => rename_i h; exact (h rfl).elim
    | cons k r => simp [p0M]
  rw [if_neg h3]
  rw [if_neg (fun h => h.elim h2 h3)] at h0
  by_cases h4 : op = 4 ∨ op = 5 ∨ op = 6
  ·rw [if_pos h4] at h0 ⊢
   cases kids with
   | nil => rw [rep1M]
   | cons k r =>
    rw [cnt1] at h0
    rw [rep1M, part0 h0]
    unfold repP
    simp only [p0M]
    have : linkB st 0 0 = st := link0 st
    rw [this]
    split <;> simp
  ·rw [if_neg h4]
 ·rw [partM, if_neg h0]
  unfold docM
  rw [cnt] at h0
  by_cases h1 : op = 1
  ·rw [if_pos h1, if_pos h1]
  rw [if_neg h1] at h0
  rw [if_neg h1, if_neg h1]
  by_cases h2 : op = 2
  ·rw [if_pos h2, if_pos h2]
  rw [if_neg h2, if_neg h2]
  by_cases h3 : op = 3
  ·rw [if_pos h3, if_pos h3]
   rw [if_pos (.inr h3)] at h0
   split
   ·rename_i h; rw [h, cntL] at h0; exact (h0 rfl).elim
   ·rfl
  rw [if_neg h3, if_neg h3]
  rw [if_neg (fun h => h.elim h2 h3)] at h0
  by_cases h4 : op = 4 ∨ op = 5 ∨ op = 6
  ·rw [if_pos h4]
  ·rw [if_neg h4] at h0; exact (h0 rfl).elim
def InP (p : Pm) (n : Nat) : Prop := (∀ i, p.fi.testBit i = true → i < n) ∧ ∀ i, p.la.testBit i = true → i < n
theorem InP.le {p : Pm} {n m : Nat} (h : InP p n) (k : n ≤ m) : InP p m := ⟨fun i q => Nat.lt_of_lt_of_le (h.1 i q) k, fun i q => Nat.lt_of_lt_of_le (h.2 i q) k⟩
theorem InP.zero (b : Bool) (n : Nat) : InP ⟨b, 0, 0⟩ n := ⟨fun i h => by simp at h, fun i h => by simp at h⟩
theorem or_in {A B n : Nat} (ha : ∀ i, A.testBit i = true → i < n) (hb : ∀ i, B.testBit i = true → i < n) : ∀ i, (A ||| B).testBit i = true → i < n := fun i h => by
 rw [Nat.testBit_or, Bool.or_eq_true] at h
 exact h.elim (ha i) (hb i)
theorem InP.cat {p q : Pm} {n : Nat} (h : InP p n) (k : InP q n) : InP (catP p q) n := by
 unfold catP
 constructor
 ·show ∀ i, (if p.null = true then p.fi ||| q.fi else p.fi).testBit i = true → _
  split
  ·exact or_in h.1 k.1
  ·exact h.1
 ·show ∀ i, (if q.null = true then p.la ||| q.la else q.la).testBit i = true → _
  split
  ·exact or_in h.2 k.2
  ·exact k.2
theorem InP.alt {p q : Pm} {n : Nat} (h : InP p n) (k : InP q n) : InP (altP p q) n := ⟨or_in h.1 k.1, or_in h.2 k.2⟩
mutual
theorem partM_in : ∀ (x : Rx) (st : Bs), InP (partM x st).1 (partM x st).2.sets.length
 | .mk op a b c d kids, st => by
  rw [partM]
  split
  ·exact .zero _ _
  split
  ·have : ∀ i, (2 ^ st.sets.length).testBit i = true → i < st.sets.length + 1 := fun i h => by
    rw [Nat.testBit_two_pow, decide_eq_true_eq] at h; omega
   unfold placeM
   simp only [List.length_append, List.length_cons, List.length_nil]
   exact ⟨this, this⟩
  split
  ·exact catM_in kids _ st (.zero _ _)
  split
  ·exact altM_in kids _ st (.zero _ _)
  ·exact rep1M_in op kids st
theorem catM_in : ∀ (l : List Rx) (p : Pm) (st : Bs), InP p st.sets.length → InP (catM l p st).1 (catM l p st).2.sets.length
 | [], p, st, h => by rw [catM]; exact h
 | k :: r, p, st, h => by
  rw [catM]
  refine catM_in r _ _ ?_
  rw [linkB_len]
  exact (h.le (by rw [partM_len]; omega)).cat (partM_in k st)
theorem altM_in : ∀ (l : List Rx) (p : Pm) (st : Bs), InP p st.sets.length → InP (altM l p st).1 (altM l p st).2.sets.length
 | [], p, st, h => by rw [altM]; exact h
 | k :: r, p, st, h => by
  rw [altM]
  exact altM_in r _ _ ((h.le (by rw [partM_len]; omega)).alt (partM_in k st))
theorem rep1M_in : ∀ (op : Int) (l : List Rx) (st : Bs), InP (rep1M op l st).1 (rep1M op l st).2.sets.length
 | op, [], st => by rw [rep1M]; exact .zero _ _
 | op, k :: r, st => by
  rw [rep1M, repP_sets]
  exact partM_in k st
end
def tl : IC → IC
 | .seq _ b => b
 | x => x
def zP : List MV := [.b false, .nils, .nils]
def WkPost (Mb : MH) (px : Nat) (x1 x2 x3 : MV) (q : Pm × Bs) (M : MH) (m : MV) (M' : MH) : Prop := ∃ fv lv, m = .ag [.b q.1.null, fv, lv] ∧ NrAt Mb.n M' fv (bitsOf q.1.fi 150) ∧ NrAt Mb.n M' lv (bitsOf q.1.la 150) ∧ Ds Mb M' px x1 x2 x3 q.2 ∧ FrW M M'
structure WkAt (Mb M M1 : MH) (f : Fr) (px : Nat) (x1 x2 x3 : MV) (st : Bs) (op a b c d : Int) (kv : MV) (t : Ev.T MV) : Prop where
 h0 : X.ev f (.t q0) = .p px 0
 h3 : X.ev f (.t q3) = .p M.n 0
 h4 : f.get q4 = some (.p (M.n + 1) 0)
 g3 : M1.get M.n = some (.cs false 6 t)
 g4 : M1.get (M.n + 1) = some (.cs false 3 (ofL zP 0))
 at_ : At t 0 [.i .i64 op, .i .u64 a, .i .u64 b, .i .u64 c, .i .u64 d, kv]
 ext : Ext M M1
 n : M1.n = M.n + 2
 ds : Ds Mb M1 px x1 x2 x3 st
 bn : Mb.n ≤ M.n
theorem Ds.bl {Mb M : MH} {px : Nat} {x1 x2 x3 : MV} {st : Bs} (h : Ds Mb M px x1 x2 x3 st) : Mb.n ≤ px ∧ px < M.n ∧ Mb.n ≤ M.n ∧ M.lo = Mb.lo := by
 obtain ⟨c, sv, fv, fs, h⟩ := h
 exact ⟨h.bl.1, h.bl.2, h.ext.n, h.ext.lo⟩
theorem walk_in {Mb M : MH} {px : Nat} {x1 x2 x3 : MV} {st : Bs} {op a b c d : Int} {kv : MV} {P : MV → MH → Prop} (hlo : Mb.lo ≤ Mb.n) (hds : Ds Mb M px x1 x2 x3 st) (h : ∀ f M1 t, WkAt Mb M M1 f px x1 x2 x3 st op a b c d kv t → Wp fns (tl B32) f M1 (retQ F32 P)) : Cp fns 32 [.p px 0, .ag [.i .i64 op, .i .u64 a, .i .u64 b, .i .u64 c, .i .u64 d, kv]] M P := by
 have hb := hds.bl
 refine Cp_call (fn := F32) (by kernel_rfl) (Nat.le_of_ble_eq_true rfl) ?_
 show Wp fns B32 (T.set q1 (some (.ag [.i .i64 op, .i .u64 a, .i .u64 b, .i .u64 c, .i .u64 d, kv])) (T.set q0 (some (.p px 0)) T.lf)) M _
 have e : B32 = .seq (.reg [⟨some q3, none, .box (.t q1)⟩, ⟨some q4, none, .new [.b false, .nils, .nils]⟩]) (tl B32) := rfl
 rw [e]
 generalize tl B32 = R at h ⊢
 have hU : isU (.ag [.i .i64 op, .i .u64 a, .i .u64 b, .i .u64 c, .i .u64 d, kv]) = false := rfl
 have hcl : MV.cells (.ag [.i .i64 op, .i .u64 a, .i .u64 b, .i .u64 c, .i .u64 d, kv]) = [.i .i64 op, .i .u64 a, .i .u64 b, .i .u64 c, .i .u64 d, kv] := rfl
 have hlen : [MV.i .i64 op, .i .u64 a, .i .u64 b, .i .u64 c, .i .u64 d, kv].length = 6 := rfl
 simp (maxSteps := 4000000) (disch := first | omega | assumption | (simp only [bxS, bxV, stOk, Nat.reduceBEq, Nat.reduceEqDiff, Nat.reduceAdd]; done) | (simp only [bxU]; omega) | ((try apply has_setN); apply has_ofL; simp only [bxL]; omega)) only [↓bxD, bxP, bxQ, bxQ2, Nat.reduceBEq, reduceCtorEq, Nat.reduceAdd, Nat.reduceSub, Nat.reduceMul, Nat.reduceLeDiff, Nat.reduceLT, bxR, hU, hcl, hlen]
 have hx := (Ext.push M (.cs false 6 (ofL [.i .i64 op, .i .u64 a, .i .u64 b, .i .u64 c, .i .u64 d, kv] 0))).trans (.push _ (.cs false 3 (ofL zP 0)))
 refine h _ _ _ ⟨by simp only [bxP, bxQ, bxQ2, reduceCtorEq, hU, hcl, hlen], by simp only [bxP, bxQ, bxQ2, reduceCtorEq, hU, hcl, hlen], by simp (maxSteps := 4000000) (disch := first | omega | assumption | (simp only [bxS, bxV, stOk, Nat.reduceBEq, Nat.reduceEqDiff, Nat.reduceAdd]; done) | (simp only [bxU]; omega) | ((try apply has_setN); apply has_ofL; simp only [bxL]; omega)) only [↓bxD, bxP, bxQ, bxQ2, Nat.reduceBEq, reduceCtorEq, Nat.reduceAdd, Nat.reduceSub, Nat.reduceMul, Nat.reduceLeDiff, Nat.reduceLT, bxR, hU, hcl, hlen, get_set], (push_old (show M.n < M.n + 1 by omega)).trans (push_new _), push_new (M := M.push _) _, at_ofL _, hx, rfl, hds.more hx, hb.2.2.1⟩
theorem WkAt.cells {Mb M M1 : MH} {f : Fr} {px : Nat} {x1 x2 x3 : MV} {st : Bs} {op a b c d : Int} {kv : MV} {t : Ev.T MV} (h : WkAt Mb M M1 f px x1 x2 x3 st op a b c d kv t) (hlo : Mb.lo ≤ Mb.n) : M1.lo ≤ M1.n ∧ M1.lo ≤ M.n ∧ cget t 0 = some (.i .i64 op) ∧ getN t 4 1 = some (st4 a b c d) ∧ cget t 5 = some kv := by
 have hb := h.ds.bl
 have n1 := h.n
 have bn := h.bn
 refine ⟨by omega, by omega, h.at_ 0 _ rfl, (show At t 1 (st4 a b c d) from fun j x hj => ?_).getN, h.at_ 5 _ rfl⟩
 have h4 : j < 4 := (List.getElem?_eq_some_iff.1 hj).1
 have := h.at_ (1 + j) x (by rw [Nat.add_comm, List.getElem?_cons_succ]; match j, h4 with | 0, _ => exact hj | 1, _ => exact hj | 2, _ => exact hj | 3, _ => exact hj)
 rwa [Nat.zero_add] at this
end Go.Proofs.Ythklpecigkdkiaa.K
