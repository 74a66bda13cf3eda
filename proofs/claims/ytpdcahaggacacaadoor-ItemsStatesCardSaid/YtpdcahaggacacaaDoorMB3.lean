/-
 What the claim leans on, part 3: What single operations do, told for simp. Conditions: none. What comes in, read into the model's memory as1 it lies: numbers, bools, strings, slices, structs and arrays of these, of whatever depth. Conditions: none. Arguments of whatever types, read into the model; functions that are known by a contract that hangs on nothing. Conditions: none. The table of math/bits. Conditions: none. Stores into rows, and what stays. Conditions: none. Grammars as1 they lie in memory, and what chapter 10 asks of them. Conditions: none. Rows of bools of one's own: made, read, written. Conditions: none. Which name
-/
import Derived.Test.YtpdcahaggacacaaDoorMB2
import Derived.Deep.Slices
import Derived.Deep.Strs
import Derived.OpenShut
import Derived.DataReads
import Derived.ChangeArms
import Derived.WideShapes
import Derived.KernelRfl
import Derived.Test.YtpdcahaggacacaaDoorProg
set_option linter.unusedSimpArgs false
set_option linter.unusedVariables false
namespace Go.Proofs.YtpdcahaggacacaaDoor.Ev
open Go
variable {c : CallM} {f : Fr} {M : MH}
def o1 (r : Option MV) (M : MH) : Option (MV × MH) := match r with
 | some m => some (m, M)
 | none => none
theorem o1_some (m : MV) (M : MH) : o1 (some m) M = some (m, M) := rfl
def binV (op : BinOp) (x y : MV) : Option MV := match x, y with
 | .i k a, .i k' b => Ev.binI op k a k' b
 | _, _ => none
def lenV (x : MV) : Option MV := match x with
 | .nils => some (.i .i64 0)
 | .sl _ _ n _ => some (.i .i64 n)
 | _ => none
def ixV (s : Nat) (x i : MV) : Option MV := match x, i with
 | .sl id off ln _, .i _ (.ofNat j) => bif Nat.blt j ln then some (.p id (off + j * s)) else none
 | _, _ => none
def ixAV (n s : Nat) (x i : MV) : Option MV := match x, i with
 | .p id off, .i _ (.ofNat j) => bif Nat.blt j n then some (.p id (off + j * s)) else none
 | _, _ => none
noncomputable def ld1V (M : MH) (x : MV) : Option MV := match x with
 | .p id off => match M.get id with
  | some (.cs _ _ c) => cget c off
  | _ => none
 | _ => none
noncomputable def ldNV (M : MH) (n : Nat) (x : MV) : Option MV := match x with
 | .p id off => match M.get id with
  | some (.cs _ _ c) => match getN c n off with
   | some l => some (.ag l)
   | none => none
  | _ => none
 | _ => none
def faV (o : Nat) (x : MV) : Option MV := match x with
 | .p id off => some (.p id (off + o))
 | _ => none
def nckV (x : MV) : Option MV := match x with
 | .p id off => some (.p id off)
 | _ => none
def fld1V (o : Nat) (x : MV) : Option MV := match x with
 | .ag l => l[o]?
 | _ => none
def fldNV (o n : Nat) (x : MV) : Option MV := match x with
 | .ag l => some (.ag ((l.drop o).take n))
 | _ => none
def extV (i : Nat) (x : MV) : Option MV := match x with
 | .tp l => l[i]?
 | _ => none
def binBV (op : BinOp) (x y : MV) : Option MV := match x, y with
 | .b a, .b b => eqM op (a == b)
 | _, _ => none
def binNV (n : NilKind) (op : BinOp) (x y : MV) : Option MV := match nilR n x y with
 | some r => eqM op r
 | none => none
def pickV (c a b : MV) : Option MV := match c with
 | .b true => some a
 | .b false => some b
 | _ => none
def mnV (x y : MV) : Option MV := match x, y with
 | .i k a, .i _ b => some (.i k (bif decide (b < a) then b else a))
 | _, _ => none
def mxV (x y : MV) : Option MV := match x, y with
 | .i k a, .i _ b => some (.i k (bif decide (a < b) then b else a))
 | _, _ => none
def cvIV (k : IntKind) (x : MV) : Option MV := match x with
 | .i _ n => some (.i k (wrapF k n))
 | _ => none
noncomputable def stV (M : MH) (n : Nat) (x y : MV) : Option (MV × MH) := match x with
 | .p id off => match M.get id with
  | some (.cs false sz c) => bif y.cells.length == n && !isU y && allOne y.cells && Nat.ble M.lo id && hasB c n off then some (.u, M.set id (some (.cs false sz (setN y.cells off c)))) else none
  | _ => none
 | _ => none
noncomputable def pushV (M : MH) (m : MV) (o : MO) : Option (MV × MH) := bif Nat.ble M.lo M.n then some (m, M.push o) else none
theorem ev_mov (x : X) : Iop.ev c f M (.mov x) = some (x.ev f, M) := rfl
theorem ev_pick (a b d : X) : Iop.ev c f M (.pick a b d) = o1 (pickV (a.ev f) (b.ev f) (d.ev f)) M := by
 simp only [Iop.ev, pickV]
 cases a.ev f <;> try rfl
 rename_i t; cases t <;> rfl
theorem ev_new (l : List MV) : Iop.ev c f M (.new l) = pushV M (.p M.n 0) (.cs false l.length (ofL l 0)) := rfl
theorem ev_box (x : X) : Iop.ev c f M (.box x) = if isU (x.ev f) = true then none else pushV M (.p M.n 0) (.cs false (x.ev f).cells.length (ofL (x.ev f).cells 0)) := by
 simp only [Iop.ev, pushV]
 cases isU (x.ev f) <;> simp
theorem ev_build (zs : List MV) (ps : List (Nat × Nat × X)) : Iop.ev c f M (.build zs ps) = o1 ((fillM (ps.map fun x => (x.1, x.2.1, x.2.2.ev f)) zs).map .ag) M := by
 simp only [Iop.ev]
 cases fillM (ps.map fun x => (x.1, x.2.1, x.2.2.ev f)) zs <;> rfl
theorem ev_bsl (sz n : Nat) (zs : List MV) (ps : List (Nat × Nat × X)) : Iop.ev c f M (.bsl sz n zs ps) = bif Nat.ble M.lo M.n then (match fillM (ps.map fun x => (x.1, x.2.1, x.2.2.ev f)) (zrow zs n) with
  | some l => some (.sl M.n 0 n 0, M.push (.cs false sz (ofL l 0)))
  | none => none) else none := rfl
theorem ev_ld1 (x : X) : Iop.ev c f M (.ld1 x) = o1 (ld1V M (x.ev f)) M := by
 simp only [Iop.ev, ld1V]
 cases x.ev f <;> try rfl
 rename_i id off
 simp only
 cases M.get id with
 | none => rfl
 | some o =>
  cases o with
  | mp _ _ => rfl
  | cs r s c => simp only; cases cget c off <;> rfl
theorem ev_ldN (n : Nat) (x : X) : Iop.ev c f M (.ldN n x) = o1 (ldNV M n (x.ev f)) M := by
 simp only [Iop.ev, ldNV]
 cases x.ev f <;> try rfl
 rename_i id off
 simp only
 cases M.get id with
 | none => rfl
 | some o =>
  cases o with
  | mp _ _ => rfl
  | cs r s c => simp only; cases getN c n off <;> rfl
theorem ev_st (n : Nat) (x y : X) : Iop.ev c f M (.st n x y) = stV M n (x.ev f) (y.ev f) := rfl
theorem ev_nck (x : X) : Iop.ev c f M (.nck x) = o1 (nckV (x.ev f)) M := by
 simp only [Iop.ev, nckV]; cases x.ev f <;> rfl
theorem ev_binI (op : BinOp) (x y : X) : Iop.ev c f M (.binI op x y) = o1 (binV op (x.ev f) (y.ev f)) M := by
 simp only [Iop.ev, binV]
 cases x.ev f <;> try rfl
 cases y.ev f <;> try rfl
theorem ev_binB (op : BinOp) (x y : X) : Iop.ev c f M (.binB op x y) = o1 (binBV op (x.ev f) (y.ev f)) M := by
 simp only [Iop.ev, binBV]
 cases x.ev f <;> try rfl
 cases y.ev f <;> try rfl
theorem ev_binN (n : NilKind) (op : BinOp) (x y : X) : Iop.ev c f M (.binN n op x y) = o1 (binNV n op (x.ev f) (y.ev f)) M := by
 simp only [Iop.ev, binNV]
 cases nilR n (x.ev f) (y.ev f) with
 | none => rfl
 | some r => simp only; cases eqM op r <;> rfl
theorem ev_un (op : UnOp) (x : X) : Iop.ev c f M (.un op x) = o1 (unM op (x.ev f)) M := by
 simp only [Iop.ev]; cases unM op (x.ev f) <;> rfl
theorem ev_cvI (k : IntKind) (x : X) : Iop.ev c f M (.cvI k x) = o1 (cvIV k (x.ev f)) M := by
 simp only [Iop.ev, cvIV]; cases x.ev f <;> rfl
theorem ev_fld1 (o : Nat) (x : X) : Iop.ev c f M (.fld1 o x) = o1 (fld1V o (x.ev f)) M := by
 simp only [Iop.ev, fld1V]
 cases x.ev f <;> try rfl
theorem ev_fldN (o n : Nat) (x : X) : Iop.ev c f M (.fldN o n x) = o1 (fldNV o n (x.ev f)) M := by
 simp only [Iop.ev, fldNV]; cases x.ev f <;> rfl
theorem ev_fa (o : Nat) (x : X) : Iop.ev c f M (.fa o x) = o1 (faV o (x.ev f)) M := by
 simp only [Iop.ev, faV]; cases x.ev f <;> rfl
theorem ev_ixA (n s : Nat) (x i : X) : Iop.ev c f M (.ixA n s x i) = o1 (ixAV n s (x.ev f) (i.ev f)) M := by
 simp only [Iop.ev, ixAV]
 cases x.ev f <;> try rfl
 cases i.ev f <;> try rfl
 rename_i id off k z
 cases z with
 | negSucc j => rfl
 | ofNat j => simp only; cases Nat.blt j n <;> rfl
theorem ev_ixS (s : Nat) (x i : X) : Iop.ev c f M (.ixS s x i) = o1 (ixV s (x.ev f) (i.ev f)) M := by
 simp only [Iop.ev, ixV]
 cases x.ev f <;> try rfl
 cases i.ev f <;> try rfl
 rename_i id off ln e k z
 cases z with
 | negSucc j => rfl
 | ofNat j => simp only; cases Nat.blt j ln <;> rfl
theorem ev_ext (x : X) (i : Nat) : Iop.ev c f M (.ext x i) = o1 (extV i (x.ev f)) M := by
 simp only [Iop.ev, extV]
 cases x.ev f <;> try rfl
theorem ev_mkm : Iop.ev c f M .mkm = pushV M (.m M.n) (.mp [] 0) := rfl
theorem ev_cut (sz : Nat) (x : X) (lo hi : Option X) : Iop.ev c f M (.cut sz x lo hi) = o1 (cutM sz (x.ev f) (lo.map (X.ev f)) (hi.map (X.ev f))) M := by
 simp only [Iop.ev]; cases cutM sz (x.ev f) (lo.map (X.ev f)) (hi.map (X.ev f)) <;> rfl
theorem ev_app (sz bytes : Nat) (x y : X) : Iop.ev c f M (.app sz bytes x y) = appM M sz bytes (x.ev f) (y.ev f) := rfl
theorem ev_len (x : X) : Iop.ev c f M (.len x) = o1 (lenV (x.ev f)) M := by
 simp only [Iop.ev, lenV]; cases x.ev f <;> rfl
theorem ev_mn (x y : X) : Iop.ev c f M (.mn x y) = o1 (mnV (x.ev f) (y.ev f)) M := by
 simp only [Iop.ev, mnV]
 cases x.ev f <;> try rfl
 cases y.ev f <;> rfl
theorem ev_mx (x y : X) : Iop.ev c f M (.mx x y) = o1 (mxV (x.ev f) (y.ev f)) M := by
 simp only [Iop.ev, mxV]
 cases x.ev f <;> try rfl
 cases y.ev f <;> rfl
theorem ev_call (g : Nat) (l : List X) : Iop.ev c f M (.call g l) = c g (l.map (X.ev f)) M := rfl
theorem ev_mkf (g : Fn) (a d : List X) : Iop.ev c f M (.mkf g a d) = some (.fn g (a.map (X.ev f)) (d.map (X.ev f)), M) := rfl
theorem ev_pu2 (g : PG) (x y : X) : Iop.ev c f M (.pu2 g x y) = o1 (puM g (x.ev f) (y.ev f)) M := by
 simp only [Iop.ev]; cases puM g (x.ev f) (y.ev f) <;> rfl
theorem ev_rdm (g : RG) (x y : X) : Iop.ev c f M (.rdm g x y) = o1 (rdF g M (x.ev f) (y.ev f)) M := by
 simp only [Iop.ev]; cases rdF g M (x.ev f) (y.ev f) <;> rfl
theorem bin_add (k : IntKind) (a b : Int) : binV .add (.i k a) (.i k b) = some (.i k (wrapF k (a + b))) := by cases k <;> rfl
theorem bin_sub (k : IntKind) (a b : Int) : binV .sub (.i k a) (.i k b) = some (.i k (wrapF k (a - b))) := by cases k <;> rfl
theorem bin_mul (k : IntKind) (a b : Int) : binV .mul (.i k a) (.i k b) = some (.i k (wrapF k (a * b))) := by cases k <;> rfl
theorem bin_eql (k : IntKind) (a b : Int) : binV .eql (.i k a) (.i k b) = some (.b (decide (a = b))) := by cases k <;> rfl
theorem bin_neq (k : IntKind) (a b : Int) : binV .neq (.i k a) (.i k b) = some (.b (decide (a ≠ b))) := by
 have : (a != b) = decide (a ≠ b) := by rw [Bool.eq_iff_iff]; simp
 cases k <;> exact congrArg (fun t => some (MV.b t)) this
theorem bin_lss (k : IntKind) (a b : Int) : binV .lss (.i k a) (.i k b) = some (.b (decide (a < b))) := by cases k <;> rfl
theorem bin_leq (k : IntKind) (a b : Int) : binV .leq (.i k a) (.i k b) = some (.b (decide (a ≤ b))) := by cases k <;> rfl
theorem bin_gtr (k : IntKind) (a b : Int) : binV .gtr (.i k a) (.i k b) = some (.b (decide (b < a))) := by cases k <;> rfl
theorem bin_geq (k : IntKind) (a b : Int) : binV .geq (.i k a) (.i k b) = some (.b (decide (b ≤ a))) := by cases k <;> rfl
theorem binB_eql (a b : Bool) : binBV .eql (.b a) (.b b) = some (.b (a == b)) := rfl
theorem binB_neq (a b : Bool) : binBV .neq (.b a) (.b b) = some (.b (!(a == b))) := rfl
theorem un_not (a : Bool) : unM .not (.b a) = some (.b (!a)) := rfl
theorem not_dec (p : Prop) [Decidable p] : (!decide p) = decide (¬ p) := by
 rw [Bool.eq_iff_iff]; simp
theorem pick_t (a b : MV) : pickV (.b true) a b = some a := rfl
theorem pick_f (a b : MV) : pickV (.b false) a b = some b := rfl
def isSl : MV → Bool
 | .nils => true
 | .sl _ _ _ _ => true
 | _ => false
def sid : MV → Nat
 | .sl id _ _ _ => id
 | _ => 0
def soff : MV → Nat
 | .sl _ o _ _ => o
 | _ => 0
def slen : MV → Nat
 | .sl _ _ n _ => n
 | _ => 0
theorem len_sl {v : MV} (h : isSl v = true) : lenV v = some (.i .i64 (slen v : Int)) := by cases v <;> first | rfl | cases h
theorem ix_sl {s : Nat} {v : MV} {k : IntKind} {i : Nat} (h : isSl v = true) (hi : i < slen v) : ixV s v (.i k (i : Int)) = some (.p (sid v) (soff v + i * s)) := by
 cases v <;> first | (simp [slen] at hi; done) | skip
 rename_i id off n e
 show (bif Nat.blt i n then some (MV.p id (off + i * s)) else none) = _
 rw [blt_t (show i < n from hi)]; rfl
theorem ixA_p {n s id off : Nat} {k : IntKind} {i : Nat} (hi : i < n) : ixAV n s (.p id off) (.i k (i : Int)) = some (.p id (off + i * s)) := by
 show (bif Nat.blt i n then some (MV.p id (off + i * s)) else none) = _
 rw [blt_t hi]; rfl
theorem fa_p (o id off : Nat) : faV o (.p id off) = some (.p id (off + o)) := rfl
theorem nck_p (id off : Nat) : nckV (.p id off) = some (.p id off) := rfl
theorem push_ok {m : MV} {o : MO} (h : M.lo ≤ M.n) : pushV M m o = some (m, M.push o) := by unfold pushV; rw [ble_t' h]; rfl
theorem hasB_of : ∀ {t : T MV} {n off : Nat}, (∀ j, j < n → (cget t (off + j)).isSome = true) → hasB t n off = true
 | t, 0, off, h => rfl
 | t, n + 1, off, h => by
  show (match cget t off with
   | some _ => hasB t n (off + 1)
   | none => false) = true
  have h0 := h 0 (by omega)
  rw [Nat.add_zero] at h0
  cases hc : cget t off with
  | none => rw [hc] at h0; cases h0
  | some v => exact hasB_of fun j hj => by rw [show off + 1 + j = off + (j + 1) from by omega]; exact h (j + 1) (by omega)
noncomputable def stW (M : MH) (n id off : Nat) (y : MV) (o : Option MO) : Option (MV × MH) := match o with
 | some (.cs false sz c) => bif y.cells.length == n && !isU y && allOne y.cells && Nat.ble M.lo id && hasB c n off then some (.u, M.set id (some (.cs false sz (setN y.cells off c)))) else none
 | _ => none
theorem st_w (n id off : Nat) (y : MV) : stV M n (.p id off) y = stW M n id off y (M.get id) := rfl
theorem stW_cs {n id off sz : Nat} {t : T MV} {y : MV} (hlo : M.lo ≤ id) (hn : y.cells.length = n) (hu : isU y = false) (ho : allOne y.cells = true) (hb : hasB t n off = true) : stW M n id off y (some (.cs false sz t)) = some (.u, M.set id (some (.cs false sz (setN y.cells off t)))) := by
 simp only [stW, hn, beq_self_eq_true, hu, ho, ble_t' hlo, hb, Bool.not_false, Bool.and_true, cond_true]
noncomputable def ldW (off : Nat) (o : Option MO) : Option MV := match o with
 | some (.cs _ _ c) => cget c off
 | _ => none
noncomputable def ldNW (n off : Nat) (o : Option MO) : Option MV := match o with
 | some (.cs _ _ c) => (getN c n off).map .ag
 | _ => none
theorem ld1_w (id off : Nat) : ld1V M (.p id off) = ldW off (M.get id) := by
 simp only [ld1V, ldW]
theorem ldN_w (n id off : Nat) : ldNV M n (.p id off) = ldNW n off (M.get id) := by
 simp only [ldNV, ldNW]
 cases M.get id with
 | none => rfl
 | some o =>
  cases o with
  | mp _ _ => rfl
  | cs r s c => simp only; cases getN c n off <;> rfl
theorem ldW_cs (off : Nat) (r : Bool) (s : Nat) (t : T MV) : ldW off (some (.cs r s t)) = cget t off := rfl
theorem ldNW_cs (n off : Nat) (r : Bool) (s : Nat) (t : T MV) : ldNW n off (some (.cs r s t)) = (getN t n off).map .ag := rfl
theorem map_ag (l : List MV) : (some l).map MV.ag = some (.ag l) := rfl
theorem cells_ag (l : List MV) : (MV.ag l).cells = l := rfl
theorem at_setN (l : List MV) (off : Nat) (t : T MV) : At (setN l off t) off l := fun j x hj => by
 rw [cget_setN, if_pos ⟨by omega, by have := (List.getElem?_eq_some_iff.1 hj).1; omega⟩, show off + j - off = j from by omega, hj]
theorem getN_setN (l : List MV) (off : Nat) (t : T MV) : getN (setN l off t) l.length off = some l := (at_setN l off t).getN
theorem getN_setN' {l : List MV} {n off : Nat} {t : T MV} (h : l.length = n) : getN (setN l off t) n off = some l := by subst h; exact getN_setN l off t
theorem cells_i (k : IntKind) (z : Int) : (MV.i k z).cells = [.i k z] := rfl
theorem cells_b (t : Bool) : (MV.b t).cells = [.b t] := rfl
theorem cells_s (t : ByteArray) : (MV.s t).cells = [.s t] := rfl
theorem cells_p (a b : Nat) : (MV.p a b).cells = [.p a b] := rfl
theorem cells_nilp : (MV.nilp).cells = [.nilp] := rfl
theorem cells_nils : (MV.nils).cells = [.nils] := rfl
theorem cells_m (a : Nat) : (MV.m a).cells = [.m a] := rfl
theorem cells_sl (a b n d : Nat) : (MV.sl a b n d).cells = [.sl a b n d] := rfl
theorem cells_fn (g : Fn) (a b : List MV) : (MV.fn g a b).cells = [.fn g a b] := rfl
theorem one_i (k : IntKind) (z : Int) : (MV.i k z).one = true := rfl
theorem one_b (t : Bool) : (MV.b t).one = true := rfl
theorem one_s (t : ByteArray) : (MV.s t).one = true := rfl
theorem one_p (a b : Nat) : (MV.p a b).one = true := rfl
theorem one_nilp : (MV.nilp).one = true := rfl
theorem one_nils : (MV.nils).one = true := rfl
theorem one_m (a : Nat) : (MV.m a).one = true := rfl
theorem one_sl (a b n d : Nat) : (MV.sl a b n d).one = true := rfl
theorem one_fn (g : Fn) (a b : List MV) : (MV.fn g a b).one = true := rfl
theorem isU_i (k : IntKind) (z : Int) : isU (.i k z) = false := rfl
theorem isU_b (t : Bool) : isU (.b t) = false := rfl
theorem isU_s (t : ByteArray) : isU (.s t) = false := rfl
theorem isU_p (a b : Nat) : isU (.p a b) = false := rfl
theorem isU_nilp : isU .nilp = false := rfl
theorem isU_nils : isU .nils = false := rfl
theorem isU_m (a : Nat) : isU (.m a) = false := rfl
theorem isU_sl (a b n d : Nat) : isU (.sl a b n d) = false := rfl
theorem isU_ag (l : List MV) : isU (.ag l) = false := rfl
theorem isU_fn (g : Fn) (a b : List MV) : isU (.fn g a b) = false := rfl
theorem isSl_cells {v : MV} (h : isSl v = true) : v.cells = [v] := by cases v <;> first | rfl | cases h
theorem isSl_one {v : MV} (h : isSl v = true) : v.one = true := by cases v <;> first | rfl | cases h
theorem isSl_isU {v : MV} (h : isSl v = true) : isU v = false := by cases v <;> first | rfl | cases h
theorem all_nil : allOne [] = true := rfl
theorem all_cons (x : MV) (l : List MV) : allOne (x :: l) = (x.one && allOne l) := rfl
theorem has_ofL (l : List MV) (n off : Nat) (h : off + n ≤ l.length) : hasB (ofL l 0) n off = true := hasB_of fun j hj => by
 rw [cget_ofL, if_pos (Nat.zero_le _), List.getElem?_eq_getElem (by omega)]; rfl
theorem hasB_iff {t : T MV} : ∀ {n off : Nat}, hasB t n off = true → ∀ j, j < n → (cget t (off + j)).isSome = true
 | 0, off, h, j, hj => by omega
 | n + 1, off, h, j, hj => by
  have h' : (match cget t off with
   | some _ => hasB t n (off + 1)
   | none => false) = true := h
  cases hc : cget t off with
  | none => rw [hc] at h'; cases h'
  | some v =>
   rw [hc] at h'
   cases j with
   | zero => rw [Nat.add_zero, hc]; rfl
   | succ j => rw [show off + (j + 1) = off + 1 + j from by omega]; exact hasB_iff h' j (by omega)
theorem has_setN {t : T MV} (l : List MV) (o n off : Nat) (h : hasB t n off = true) : hasB (setN l o t) n off = true := hasB_of fun j hj => by
 rw [cget_setN]
 split
 ·rw [List.getElem?_eq_getElem (by omega)]; rfl
 ·exact hasB_iff h j hj
def stOk (n : Nat) (y : MV) : Bool := (y.cells.length == n) && (!isU y && allOne y.cells)
theorem stW_ok {n id off sz : Nat} {t : T MV} {y : MV} (hlo : M.lo ≤ id) (hy : stOk n y = true) (hb : hasB t n off = true) : stW M n id off y (some (.cs false sz t)) = some (.u, M.set id (some (.cs false sz (setN y.cells off t)))) := by
 unfold stOk at hy
 simp only [Bool.and_eq_true, Bool.not_eq_true'] at hy
 exact stW_cs hlo (by simpa using hy.1) hy.2.1 hy.2.2 hb
noncomputable def bslW (M : MH) (sz n : Nat) (o : Option (List MV)) : Option (MV × MH) := match o with
 | some l => pushV M (.sl M.n 0 n 0) (.cs false sz (ofL l 0))
 | none => none
theorem bslW_some (sz n : Nat) (l : List MV) : bslW M sz n (some l) = pushV M (.sl M.n 0 n 0) (.cs false sz (ofL l 0)) := rfl
theorem ev_bslW (sz n : Nat) (zs : List MV) (ps : List (Nat × Nat × X)) : Iop.ev c f M (.bsl sz n zs ps) = bslW M sz n (fillM (ps.map fun x => (x.1, x.2.1, x.2.2.ev f)) (zrow zs n)) := by
 simp only [ev_bsl, bslW, pushV]
 cases fillM (ps.map fun x => (x.1, x.2.1, x.2.2.ev f)) (zrow zs n) <;> cases Nat.ble M.lo M.n <;> rfl
theorem zrow_one (zs : List MV) : zrow zs 1 = zs := by
 rw [zrow_succ, zrow_zero, List.append_nil]
theorem fill_nil (l : List MV) : fillM [] l = some l := rfl
theorem fill_ag {n : Nat} {e zs : List MV} (h : e.length = n) (hz : zs.length = n) : fillM [(0, n, .ag e)] zs = some e := by
 rw [fillM_cons]
 simp only [cells_ag, h, beq_self_eq_true, Bool.true_and, Nat.zero_add, hz, ble_t' (Nat.le_refl n), isU, Bool.not_false, cond_true, fill_nil, splice, List.take_zero, List.nil_append]
 rw [List.drop_eq_nil_of_le (by omega), List.append_nil]
theorem fill_one {x z : MV} (h : x.cells = [x]) (hu : isU x = false) : fillM [(0, 1, x)] [z] = some [x] := by
 rw [fillM_cons, h, hu]
 rfl
theorem row_one {M : MH} {sz : Nat} {e : List MV} (he : e.length = sz) : RowAt (M.push (.cs false sz (ofL e 0))) sz (.sl M.n 0 1 0) [e] :=
 ⟨fun x hx => by rw [List.mem_singleton.1 hx]; exact he, .inr ⟨M.n, 0, 0, false, sz, ofL e 0, rfl, push_new _, Nat.lt_succ_self _, by simpa using at_ofL e⟩⟩
theorem puM_eqA (n : Nat) (neg : Bool) (a b : List MV) : puM (.eqA n neg) (.ag a) (.ag b) = bif a.length == n then (match eqAg a b with
  | some r => some (.b (bif neg then !r else r))
  | none => none) else none := rfl
theorem eqAg_nil : eqAg [] [] = some true := rfl
theorem eqAg_i (k : IntKind) (x y : Int) (a b : List MV) : eqAg (.i k x :: a) (.i k y :: b) = match eqAg a b with
  | some t => some (bif x == y then t else false)
  | none => none := by cases k <;> rfl
theorem resL_1 (r : IRes) : resL f M [r] = match r.ev f M with
  | some m => some [m]
  | none => none := by
 show (match r.ev f M, resL f M [] with
  | some m, some l => some (m :: l)
  | _, _ => none) = _
 cases r.ev f M <;> rfl
theorem RowAt.sl {sz : Nat} {v : MV} {es : List (List MV)} (h : RowAt M sz v es) : isSl v = true ∧ slen v = es.length := by
 obtain ⟨_, ⟨rfl, rfl⟩ | ⟨id, off, e, ro, s, c, rfl, _⟩⟩ := h <;> exact ⟨rfl, rfl⟩
theorem RowAt.read {sz : Nat} {v : MV} {es : List (List MV)} (h : RowAt M sz v es) {i : Nat} {e : List MV} (he : es[i]? = some e) : ∃ ro s c, M.get (sid v) = some (.cs ro s c) ∧ sid v < M.n ∧ At c (soff v + i * sz) e := by
 obtain ⟨hs, ⟨rfl, rfl⟩ | ⟨id, off, ed, ro, s, c, rfl, h2, h3, h4⟩⟩ := h
 ·simp at he
 ·exact ⟨ro, s, c, h2, h3, h4.elem hs he⟩
def consO : Option MV → Option (List MV) → Option (List MV)
 | some m, some l => some (m :: l)
 | _, _ => none
theorem resL_c (r s : IRes) (rs : List IRes) : resL f M (r :: s :: rs) = consO (r.ev f M) (resL f M (s :: rs)) := by
 show (match r.ev f M, resL f M (s :: rs) with
  | some m, some l => some (m :: l)
  | _, _ => none) = _
 cases r.ev f M <;> cases resL f M (s :: rs) <;> rfl
theorem consO_some (m : MV) (l : List MV) : consO (some m) (some l) = some (m :: l) := rfl
theorem pack1 (x : MV) : packM [x] = x := rfl
theorem pack2 (x y : MV) : packM [x, y] = .tp [x, y] := rfl
theorem pack3 (x y z : MV) : packM [x, y, z] = .tp [x, y, z] := rfl
theorem ext_tp (i : Nat) (l : List MV) : extV i (.tp l) = l[i]? := rfl
end Go.Proofs.YtpdcahaggacacaaDoor.Ev
set_option linter.unusedSimpArgs false
set_option linter.unusedVariables false
namespace Go.Proofs.YtpdcahaggacacaaDoor.Ev
open Go Go.Deep
def TypedFs (T : TypeId → List MV → Prop) : List Field → List MV → Prop
 | [], cs => cs = []
 | f :: fs, cs => ∃ a b, cs = a ++ b ∧ T f.type a ∧ TypedFs T fs b
def TypedN (T : TypeId → List MV → Prop) (e : TypeId) : Nat → List MV → Prop
 | 0, cs => cs = []
 | n + 1, cs => ∃ a b, cs = a ++ b ∧ T e a ∧ TypedN T e n b
def Typed (P : Program) (M : MH) : Nat → TypeId → List MV → Prop
 | 0, _, _ => False
 | n + 1, t, cs => match P.underlying t with
  | some .bool => ∃ b, cs = [.b b]
  | some (.int k) => ∃ z, cs = [.i k z] ∧ (Lit.int k z).wf = true
  | some .string => ∃ s, cs = [.s s] ∧ s.size ≤ maxLen
  | some (.slice e) => ∃ v es, cs = [v] ∧ RowAt M (P.cellsOf e) v es ∧ es.length ≤ maxLen ∧ ∀ x ∈ es, Typed P M n e x
  | some (.struct fs) => TypedFs (Typed P M n) fs.toList cs
  | some (.array m e) => TypedN (Typed P M n) e m cs
  | _ => False
theorem TypedFs.mono {T T' : TypeId → List MV → Prop} (h : ∀ t cs, T t cs → T' t cs) : ∀ {fs : List Field} {cs : List MV}, TypedFs T fs cs → TypedFs T' fs cs
 | [], cs, k => k
 | f :: fs, cs, ⟨a, b, h1, h2, h3⟩ => ⟨a, b, h1, h _ _ h2, TypedFs.mono h h3⟩
theorem TypedN.mono {T T' : TypeId → List MV → Prop} (h : ∀ t cs, T t cs → T' t cs) {e : TypeId} : ∀ {n : Nat} {cs : List MV}, TypedN T e n cs → TypedN T' e n cs
 | 0, cs, k => k
 | n + 1, cs, ⟨a, b, h1, h2, h3⟩ => ⟨a, b, h1, h _ _ h2, TypedN.mono h h3⟩
theorem Typed.ext {P : Program} {M M' : MH} (k : Ext M M') : ∀ {n : Nat} {t : TypeId} {cs : List MV}, Typed P M n t cs → Typed P M' n t cs
 | 0, t, cs, h => h
 | n + 1, t, cs, h => by
  have ih : ∀ t cs, Typed P M n t cs → Typed P M' n t cs := fun t cs h => Typed.ext k h
  unfold Typed at h ⊢
  cases hu : P.underlying t with
  | none => rw [hu] at h; exact h.elim
  | some d =>
   rw [hu] at h
   cases d <;> simp only at h ⊢ <;> first | exact h | skip
   ·obtain ⟨v, es, h1, h2, h3, h4⟩ := h
    exact ⟨v, es, h1, h2.ext k, h3, fun x hx => ih _ _ (h4 x hx)⟩
   ·exact h.mono ih
   ·exact h.mono ih
def fieldsOk (P : Program) (S : List TypeId) : List Field → Nat → Bool
 | [], _ => true
 | f :: r, o => (S.contains f.type && Nat.beq f.offset o) && fieldsOk P S r (o + P.cellsOf f.type)
def sumF (P : Program) : List Field → Nat → Nat
 | [], o => o
 | f :: r, o => sumF P r (o + P.cellsOf f.type)
def typeOk (P : Program) (S : List TypeId) (t : TypeId) : Bool := match P.underlying t with
 | some .bool => Nat.beq (P.cellsOf t) 1
 | some (.int _) => Nat.beq (P.cellsOf t) 1
 | some .string => Nat.beq (P.cellsOf t) 1
 | some (.slice e) => (S.contains e && Nat.blt 0 (P.cellsOf e)) && Nat.beq (P.cellsOf t) 1
 | some (.struct fs) => fieldsOk P S fs.toList 0 && Nat.beq (sumF P fs.toList 0) (P.cellsOf t)
 | some (.array m e) => S.contains e && Nat.beq (m * P.cellsOf e) (P.cellsOf t)
 | _ => false
def Closed (P : Program) (S : List TypeId) : Prop := ∀ t ∈ S, typeOk P S t = true
structure Opened (P : Program) (w : World) (β : BM) (M : MH) : Prop where
 inv : Inv β M w
 glob : GlobOk β
 ro : ∀ id o, M.get id = some o → o.rw = false
 lo : M.lo ≤ M.n
 zero : 0 < w.heap.size ∨ (M.get 0 = some thinO ∧ 0 < M.n ∧ β 0 = some ⟨0, 0, 0⟩)
theorem Opened.push {P : Program} {w : World} {β : BM} {M : MH} (h : Opened P w β M) (sz : Nat) (c : T MV) (B : Bl) (hB : B.blk < w.heap.size) (hc : ∀ i x, cget c i = some x → ∃ v, w.cell? ⟨B.blk, B.off + i, none⟩ = some v ∧ Den β x v) :
  ∃ β', Opened P w β' (M.push (.cs true sz c)) ∧ β.le β' ∧ β' M.n = some B := by
 have hle : β.le fun id => if id = M.n then some B else β id := fun id B' e => by
  by_cases h1 : id = M.n
  ·subst h1; rw [h.inv.fresh M.n (Nat.le_refl _)] at e; cases e
  ·show (if id = M.n then some B else β id) = some B'
   rw [if_neg h1]; exact e
 refine ⟨fun id => if id = M.n then some B else β id, ⟨⟨fun id hid => ?_, fun id B' e => ?_, fun id o ho => ?_, fun id id' o o' B1 B2 ho ho' hr e1 e2 hne => ?_⟩, h.glob.mono hle, fun id o ho => ?_, ?_, ?_⟩, hle, if_pos rfl⟩
 ·have hid : M.n + 1 ≤ id := hid
  show (if id = M.n then some B else β id) = none
  rw [if_neg (by omega)]
  exact h.inv.fresh id (by omega)
 ·by_cases h1 : id = M.n
  ·have e' : some B = some B' := by rw [← e]; exact (if_pos h1).symm
   injection e' with e'; subst e'; exact .inl hB
  ·have e' : β id = some B' := by rw [← e]; exact (if_neg h1).symm
   rcases h.inv.old id B' e' with h2 | ⟨rfl, h2⟩
   ·exact .inl h2
   ·exact .inr ⟨rfl, by rw [MH.get_push, if_neg fun x => h1 x.symm]; exact h2⟩
 ·rw [MH.get_push] at ho
  by_cases h1 : M.n = id
  ·rw [if_pos h1] at ho
   injection ho with ho
   subst ho
   exact ⟨B, if_pos h1.symm, fun i x hx => let ⟨v, a, b⟩ := hc i x hx; ⟨v, a, b.mono hle⟩⟩
  ·rw [if_neg h1] at ho
   obtain ⟨B', e, hk⟩ := h.inv.obj id o ho
   exact ⟨B', hle _ _ e, hk.mono hle rfl⟩
 ·exfalso
  rw [MH.get_push] at ho
  by_cases h1 : M.n = id
  ·rw [if_pos h1] at ho; injection ho with ho; subst ho; cases hr
  ·rw [if_neg h1] at ho; rw [h.ro id o ho] at hr; cases hr
 ·rw [MH.get_push] at ho
  by_cases h1 : M.n = id
  ·rw [if_pos h1] at ho; injection ho with ho; subst ho; rfl
  ·rw [if_neg h1] at ho; exact h.ro id o ho
 ·exact Nat.le_succ_of_le h.lo
 ·exact .inl (Nat.lt_of_le_of_lt (Nat.zero_le _) hB)
def OpenAs (P : Program) (w : World) (n : Nat) (t : TypeId) (vs : List Value) : Prop := ∀ β M, Opened P w β M → ∃ β' M' cs, Opened P w β' M' ∧ β.le β' ∧ Ext M M' ∧ DenL β' cs vs ∧ Typed P M' n t cs
variable {H : Type} {enc : TypeId × Value → H} {P : Program} {w : World} {held : Bool}
theorem open_fields {T : TypeId → List Value → Prop} {n : Nat} {S : List TypeId} (hT : ∀ t vs, t ∈ S → T t vs → OpenAs P w n t vs) : ∀ (fs : List Field) (o : Nat) (vs : List Value), fieldsOk P S fs o = true → o + vs.length = sumF P fs o → (∀ f ∈ fs, T f.type (((vs.drop (f.offset - o)).take (P.cellsOf f.type)))) →
  ∀ β M, Opened P w β M → ∃ β' M' cs, Opened P w β' M' ∧ β.le β' ∧ Ext M M' ∧ DenL β' cs vs ∧ TypedFs (Typed P M' n) fs cs
 | [], o, vs, hk, hl, hf, β, M, hO => by
  have : vs = [] := List.length_eq_zero_iff.1 (by have : o + vs.length = o := hl; omega)
  subst this
  exact ⟨β, M, [], hO, .refl β, .refl M, .nil β, rfl⟩
 | f :: fs, o, vs, hk, hl, hf, β, M, hO => by
  simp only [fieldsOk, Bool.and_eq_true] at hk
  obtain ⟨⟨hS, ho⟩, hr⟩ := hk
  have ho : f.offset = o := Nat.eq_of_beq_eq_true ho
  have hS : f.type ∈ S := by simpa using hS
  have hle : ∀ (fs : List Field) (o : Nat), o ≤ sumF P fs o := by
   intro fs
   induction fs with
   | nil => exact fun o => Nat.le_refl _
   | cons f fs ih => exact fun o => Nat.le_trans (Nat.le_add_right _ _) (ih (o + P.cellsOf f.type))
  have hl' : o + vs.length = sumF P fs (o + P.cellsOf f.type) := hl
  have h0 := hle fs (o + P.cellsOf f.type)
  have hoff : ∀ (fs : List Field) (o : Nat), fieldsOk P S fs o = true → ∀ f ∈ fs, o ≤ f.offset := by
   intro fs
   induction fs with
   | nil => exact fun o _ f hf => by cases hf
   | cons f fs ih =>
    intro o hk g hg
    simp only [fieldsOk, Bool.and_eq_true] at hk
    rcases List.mem_cons.1 hg with rfl | hg
    ·exact Nat.le_of_eq (Nat.eq_of_beq_eq_true hk.1.2).symm
    ·exact Nat.le_trans (Nat.le_add_right _ _) (ih _ hk.2 g hg)
  have h1 := hf f List.mem_cons_self
  rw [ho, Nat.sub_self, List.drop_zero] at h1
  obtain ⟨β1, M1, a, hO1, hb1, hx1, hd1, ht1⟩ := hT _ _ hS h1 β M hO
  obtain ⟨β2, M2, b, hO2, hb2, hx2, hd2, ht2⟩ := open_fields hT fs (o + P.cellsOf f.type) (vs.drop (P.cellsOf f.type)) hr (by rw [List.length_drop]; omega) (fun g hg => by
   have := hf g (List.mem_cons_of_mem _ hg)
   have hge := hoff fs _ hr g hg
   rw [List.drop_drop, show P.cellsOf f.type + (g.offset - (o + P.cellsOf f.type)) = g.offset - o from by omega]
   exact this) β1 M1 hO1
  refine ⟨β2, M2, a ++ b, hO2, hb1.trans hb2, hx1.trans hx2, ?_, a, b, rfl, Typed.ext hx2 ht1, ht2⟩
  have := (hd1.mono hb2).append hd2
  rwa [List.take_append_drop] at this
theorem open_cells {T : TypeId → List Value → Prop} {n : Nat} {e : TypeId} (hT : ∀ vs, T e vs → OpenAs P w n e vs) : ∀ (m : Nat) (vs : List Value), vs.length = m * P.cellsOf e → (∀ i, i < m → T e ((vs.drop (i * P.cellsOf e)).take (P.cellsOf e))) →
  ∀ β M, Opened P w β M → ∃ β' M' cs, Opened P w β' M' ∧ β.le β' ∧ Ext M M' ∧ DenL β' cs vs ∧ TypedN (Typed P M' n) e m cs
 | 0, vs, hl, hf, β, M, hO => by
  have : vs = [] := List.length_eq_zero_iff.1 (by rw [hl, Nat.zero_mul])
  subst this
  exact ⟨β, M, [], hO, .refl β, .refl M, .nil β, rfl⟩
 | m + 1, vs, hl, hf, β, M, hO => by
  have h1 := hf 0 (Nat.succ_pos _)
  rw [Nat.zero_mul, List.drop_zero] at h1
  rw [Nat.succ_mul] at hl
  obtain ⟨β1, M1, a, hO1, hb1, hx1, hd1, ht1⟩ := hT _ h1 β M hO
  obtain ⟨β2, M2, b, hO2, hb2, hx2, hd2, ht2⟩ := open_cells hT m (vs.drop (P.cellsOf e)) (by rw [List.length_drop]; omega) (fun i hi => by
   have := hf (i + 1) (by omega)
   rw [List.drop_drop, show P.cellsOf e + i * P.cellsOf e = (i + 1) * P.cellsOf e from by rw [Nat.succ_mul]; omega]
   exact this) β1 M1 hO1
  refine ⟨β2, M2, a ++ b, hO2, hb1.trans hb2, hx1.trans hx2, ?_, a, b, rfl, Typed.ext hx2 ht1, ht2⟩
  have := (hd1.mono hb2).append hd2
  rwa [List.take_append_drop] at this
theorem open_elems {n L : Nat} {e : TypeId} {a : Addr} (hT : ∀ i, i < L → OpenAs P w n e ((w.cells? 0 (a.add (i * P.cellsOf e)) (P.cellsOf e)).getD [])) : ∀ (m i : Nat), i + m ≤ L → ∀ β M, Opened P w β M → ∃ (β' : BM) (M' : MH) (es : List (List MV)), Opened P w β' M' ∧ β.le β' ∧ Ext M M' ∧ es.length = m ∧ (∀ x ∈ es, Typed P M' n e x) ∧ ∀ j x, es[j]? = some x → DenL β' x ((w.cells? 0 (a.add ((i + j) * P.cellsOf e)) (P.cellsOf e)).getD [])
 | 0, i, _, β, M, hO => ⟨β, M, [], hO, .refl β, .refl M, rfl, fun x hx => (by cases hx), fun j x hj => (by simp at hj)⟩
 | m + 1, i, hL, β, M, hO => by
  obtain ⟨β1, M1, c, hO1, hb1, hx1, hd1, ht1⟩ := hT i (by omega) β M hO
  obtain ⟨β2, M2, es, hO2, hb2, hx2, hl2, ht2, hd2⟩ := open_elems hT m (i + 1) (by omega) β1 M1 hO1
  refine ⟨β2, M2, c :: es, hO2, hb1.trans hb2, hx1.trans hx2, by rw [List.length_cons, hl2], fun x hx => ?_, fun j x hj => ?_⟩
  ·rcases List.mem_cons.1 hx with rfl | hx
   ·exact Typed.ext hx2 ht1
   ·exact ht2 x hx
  ·cases j with
   | zero =>
    simp only [List.getElem?_cons_zero, Option.some.injEq] at hj
    subst hj
    exact hd1.mono hb2
   | succ j =>
    rw [show i + (j + 1) = i + 1 + j from by omega]
    exact hd2 j x (by simpa using hj)
theorem add_at (a : Addr) (k : Nat) (h : a.spot = none) : a.add k = ⟨a.block, a.off + k, none⟩ := by
 obtain ⟨b, o, s⟩ := a
 simp only at h
 subst h
 unfold Addr.add
 split
 ·rename_i hk; subst hk; rfl
 ·rfl
theorem spot_none {a : Addr} {v : Value} (h : w.cell? a = some v) : a.spot = none := by
 obtain ⟨B, o, sp⟩ := a
 cases sp with
 | none => rfl
 | some q =>
  simp only [World.cell?, Option.isSome_some, if_true] at h
  split at h <;> simp at h
theorem Sized.at {sz : Nat} : ∀ {es : List (List MV)} {i : Nat} {x : MV}, Sized sz es → es.flatten[i]? = some x → ∃ j r c, i = j * sz + r ∧ r < sz ∧ es[j]? = some c ∧ c[r]? = some x
 | [], i, x, hs, h => by simp at h
 | e :: es, i, x, hs, h => by
  have he : e.length = sz := hs e List.mem_cons_self
  rw [List.flatten_cons] at h
  by_cases hi : i < e.length
  ·rw [List.getElem?_append_left hi] at h
   exact ⟨0, i, e, by omega, by omega, rfl, h⟩
  ·rw [List.getElem?_append_right (by omega)] at h
   obtain ⟨j, r, c, h1, h2, h3, h4⟩ := Sized.at (fun y hy => hs y (List.mem_cons_of_mem _ hy)) h
   exact ⟨j + 1, r, c, by rw [Nat.succ_mul]; omega, h2, by simpa using h3, h4⟩
theorem open_any {S : List TypeId} (hS : Closed P S) : ∀ (n : Nat) (t : TypeId) (vs : List Value) (x : DataW H × List MemPlace), t ∈ S → DataW.trod enc P w 0 (fun _ => true) held n t vs = some x → OpenAs P w n t vs
 | 0, t, vs, x, ht, h => by simp [DataW.trod] at h
 | n + 1, t, vs, x, ht, h => by
  have ih : ∀ t vs x, t ∈ S → DataW.trod enc P w 0 (fun _ => true) held n t vs = some x → OpenAs P w n t vs := open_any hS n
  have hk := hS t ht
  unfold typeOk at hk
  intro β M hO
  cases hu : P.underlying t with
  | none => rw [hu] at hk; cases hk
  | some d =>
   rw [hu] at hk
   cases d <;> simp only [Bool.and_eq_true] at hk <;> first | (cases hk; done) | skip
   ·obtain ⟨b, rfl, _⟩ := DataW.trod_bool hu h
    exact ⟨β, M, [.b b], hO, .refl β, .refl M, .cons (.b b) (.nil β), by simp only [Typed, hu]; exact ⟨b, rfl⟩⟩
   ·obtain ⟨z, rfl, _, hz⟩ := DataW.trod_int hu h
    exact ⟨β, M, [.i _ z], hO, .refl β, .refl M, .cons (.i _ z) (.nil β), by simp only [Typed, hu]; exact ⟨z, rfl, hz⟩⟩
   ·obtain ⟨s, rfl, _, hs⟩ := DataW.trod_string hu h
    exact ⟨β, M, [.s s], hO, .refl β, .refl M, .cons (.s s) (.nil β), by simp only [Typed, hu]; exact ⟨s, rfl, hs⟩⟩
   ·rename_i e
    obtain ⟨⟨hc, hz⟩, h1⟩ := hk
    have hc : e ∈ S := by simpa using hc
    have hz : 0 < P.cellsOf e := Nat.le_of_ble_eq_true hz
    rcases DataW.trod_slice hu h with ⟨rfl, _⟩ | ⟨a, len, cap, elems, rest, q, e1, rfl, _, hb, hl, hm, hlen, hel, hsp, hns⟩
    ·exact ⟨β, M, [.nils], hO, .refl β, .refl M, .cons .nils (.nil β), by simp only [Typed, hu]; exact ⟨.nils, [], rfl, ⟨fun x hx => (by cases hx), .inl ⟨rfl, rfl⟩⟩, Nat.zero_le _, fun x hx => (by cases hx)⟩⟩
    injection e1 with e1
    subst e1
    have hone : ∀ i, i < len → ∃ cs, w.cells? 0 (a.add (i * P.cellsOf e)) (P.cellsOf e) = some cs ∧ OpenAs P w n e cs := fun i hi => by
     have := hel i hi
     rw [List.getElem?_eq_getElem (by omega), Option.bind_eq_some_iff] at this
     obtain ⟨cs, g1, g2⟩ := this
     exact ⟨cs, g1, ih e cs _ hc g2⟩
    have hcap : 0 < cap → a.spot = none ∧ a.block < w.heap.size := fun hcap => by
     have hfirst : ∃ cs, w.cells? 0 a (P.cellsOf e) = some cs := by
      by_cases h0 : 0 < len
      ·obtain ⟨cs, g, _⟩ := hone 0 h0
       rw [Nat.zero_mul] at g
       exact ⟨cs, g⟩
      ·have := (hsp rfl).2 0 (by omega)
       rw [List.getElem?_eq_getElem (by have := (hsp rfl).1; omega), Option.bind_eq_some_iff] at this
       obtain ⟨cs, g, _⟩ := this
       rw [show len + 0 = 0 from by omega, Nat.zero_mul] at g
       exact ⟨cs, g⟩
     obtain ⟨cs, g⟩ := hfirst
     obtain ⟨_, gl, gat⟩ := World.cells?_some g
     have g0 := gat 0 hz
     have : cs[0]? = some cs[0] := List.getElem?_eq_getElem (by omega)
     rw [this] at g0
     exact ⟨spot_none (a := a) g0, World.block_lt_of_cell? w a g0⟩
    obtain ⟨β1, M1, es, hO1, hb1, hx1, hl1, ht1, hd1⟩ := open_elems (P := P) (w := w) (n := n) (L := len) (e := e) (a := a) (fun i hi => by
     obtain ⟨cs, g1, g2⟩ := hone i hi
     rw [g1]
     exact g2) len 0 (by omega) β M hO
    have hsz : Sized (P.cellsOf e) es := fun x hx => by
     obtain ⟨j, hj, rfl⟩ := List.mem_iff_getElem.1 hx
     obtain ⟨cs, g1, g2⟩ := hone j (by omega)
     have := hd1 j _ (List.getElem?_eq_getElem hj)
     rw [Nat.zero_add, g1] at this
     rw [this.1]
     exact (World.cells?_some g1).2.1
    have hcell : ∀ i x, cget (ofL es.flatten 0) i = some x → ∃ v, w.cell? ⟨a.block, a.off + i, none⟩ = some v ∧ Den β1 x v := fun i x hx => by
     rw [cget_ofL, if_pos (Nat.zero_le _), Nat.sub_zero] at hx
     obtain ⟨j, r, c, rfl, hr, hj, hcr⟩ := hsz.at hx
     have hjl : j < len := by have := (List.getElem?_eq_some_iff.1 hj).1; omega
     obtain ⟨cs, g1, g2⟩ := hone j hjl
     have hd := hd1 j c hj
     rw [Nat.zero_add, g1] at hd
     obtain ⟨v, g3, g4⟩ := hd.2 r x hcr
     obtain ⟨_, gl, gat⟩ := World.cells?_some g1
     have g5 := gat r hr
     have hsp0 := (hcap (by omega)).1
     rw [add_at a _ hsp0, add_at _ _ rfl] at g5
     rw [← Nat.add_assoc]
     exact ⟨v, g5.trans g3, g4⟩
    by_cases h0 : 0 < cap
    ·obtain ⟨hsp0, hblk⟩ := hcap h0
     obtain ⟨β2, hO2, hb2, hβ⟩ := hO1.push (P.cellsOf e) (ofL es.flatten 0) ⟨a.block, a.off, cap⟩ hblk hcell
     refine ⟨β2, _, [.sl M1.n 0 len 0], hO2, hb1.trans hb2, hx1.trans (.push M1 _), .cons (.sl M1.n 0 len 0 _ a hβ (by simpa using hl) fun _ => ?_) (.nil _), ?_⟩
     ·obtain ⟨b, o, sp⟩ := a
      simp only at hsp0
      subst hsp0
      rfl
     ·simp only [Typed, hu]
      refine ⟨_, es, rfl, ⟨hsz, .inr ⟨M1.n, 0, 0, true, _, _, by rw [hl1], push_new _, Nat.lt_succ_self _, at_ofL _⟩⟩, by rw [hl1]; omega, fun x hx => Typed.ext (.push M1 _) (ht1 x hx)⟩
    ·have hc0 : cap = 0 := by omega
     have hl0 : len = 0 := by omega
     subst hc0 hl0
     have he0 : es = [] := List.length_eq_zero_iff.1 hl1
     subst he0
     rcases hO1.zero with hw | ⟨z1, z2, z3⟩
     ·obtain ⟨β2, hO2, hb2, hβ⟩ := hO1.push (P.cellsOf e) (ofL [] 0) ⟨0, 0, 0⟩ hw (fun i x hx => by rw [cget_ofL] at hx; simp at hx)
      refine ⟨β2, _, [.sl M1.n 0 0 0], hO2, hb1.trans hb2, hx1.trans (.push M1 _), .cons (.sl M1.n 0 0 0 _ a hβ (Nat.le_refl _) fun h => absurd h (Nat.lt_irrefl _)) (.nil _), ?_⟩
      simp only [Typed, hu]
      exact ⟨_, [], rfl, ⟨hsz, .inr ⟨M1.n, 0, 0, true, _, _, rfl, push_new _, Nat.lt_succ_self _, at_ofL _⟩⟩, Nat.zero_le _, fun x hx => (by cases hx)⟩
     ·refine ⟨β1, M1, [.sl 0 0 0 0], hO1, hb1, hx1, .cons (.sl 0 0 0 0 ⟨0, 0, 0⟩ a z3 (Nat.le_refl _) fun h => absurd h (Nat.lt_irrefl _)) (.nil _), ?_⟩
      simp only [Typed, hu]
      exact ⟨_, [], rfl, ⟨hsz, .inr ⟨0, 0, 0, true, 0, .lf, rfl, z1, z2, .nil _ _⟩⟩, Nat.zero_le _, fun x hx => (by cases hx)⟩
   ·rename_i m e
    obtain ⟨hc, hz⟩ := hk
    obtain ⟨xs, q, e1, _, hl, hlen, hf⟩ := DataW.trod_array hu h
    injection e1 with e1
    subst e1
    have hz := Nat.eq_of_beq_eq_true hz
    have hc : e ∈ S := by simpa using hc
    obtain ⟨β', M', cs, k1, k2, k3, k4, k5⟩ := open_cells (P := P) (w := w) (n := n) (e := e) (T := fun t vs => ∃ x, DataW.trod enc P w 0 (fun _ => true) held n t vs = some x) (fun vs ⟨x, hx⟩ => ih e vs x hc hx) m vs (by rw [hl, hz]) (fun i hi => by
     have := hf i hi
     rw [List.getElem?_eq_getElem (by omega)] at this
     exact ⟨_, this⟩) β M hO
    exact ⟨β', M', cs, k1, k2, k3, k4, by simp only [Typed, hu]; exact k5⟩
   ·rename_i fs
    obtain ⟨hf, hz⟩ := hk
    have hz := Nat.eq_of_beq_eq_true hz
    obtain ⟨xs, q, e1, _, hl, hlen, hg⟩ := DataW.trod_struct hu h
    injection e1 with e1
    subst e1
    obtain ⟨β', M', cs, k1, k2, k3, k4, k5⟩ := open_fields (P := P) (w := w) (n := n) (S := S) (T := fun t vs => ∃ x, DataW.trod enc P w 0 (fun _ => true) held n t vs = some x) (fun t vs ht ⟨x, hx⟩ => ih t vs x ht hx) fs.toList 0 vs hf (by rw [Nat.zero_add, hl, hz]) (fun f hf => by
     obtain ⟨i, hi, rfl⟩ := List.mem_iff_getElem.1 hf
     have := hg i fs.toList[i] (by simp)
     rw [List.getElem?_eq_getElem (by rw [hlen]; simpa using hi)] at this
     rw [Nat.sub_zero]
     exact ⟨_, this⟩) β M hO
    exact ⟨β', M', cs, k1, k2, k3, k4, by simp only [Typed, hu]; exact k5⟩
end Go.Proofs.YtpdcahaggacacaaDoor.Ev
set_option linter.unusedSimpArgs false
set_option linter.unusedVariables false
namespace Go.Proofs.YtpdcahaggacacaaDoor.Ev
open Go Go.Deep Go.RowKit Go.WideShapes Kit
def ArgTyped (P : Program) (M : MH) (t : TypeId) (m : MV) : Prop := ∃ n cs, Typed P M n t cs ∧ match P.underlying t with
 | some (.struct _) => m = .ag cs
 | some (.array _ _) => m = .ag cs
 | _ => cs = [m]
def ArgsTyped (P : Program) (M : MH) : List TypeId → List MV → Prop
 | [], ms => ms = []
 | t :: ts, ms => ∃ m r, ms = m :: r ∧ ArgTyped P M t m ∧ ArgsTyped P M ts r
theorem ArgTyped.ext {P : Program} {M M' : MH} (k : Ext M M') {t : TypeId} {m : MV} (h : ArgTyped P M t m) : ArgTyped P M' t m :=
 let ⟨n, cs, h1, h2⟩ := h
 ⟨n, cs, Typed.ext k h1, h2⟩
variable {H : Type} {enc : TypeId × Value → H} {P : Program} {w : World}
theorem open_arg {S : List TypeId} (hS : Closed P S) {t : TypeId} {v : Value} {d : DataW H} {ps : List MemPlace} {r : Reach} {base : Nat} (ht : t ∈ S) (h : DataW.Trod enc P w 0 (fun _ => true) true t v d ps) (hv : Value.okWide P w r base t v) :
  ∀ β M, Opened P w β M → ∃ β' M' m, Opened P w β' M' ∧ β.le β' ∧ Ext M M' ∧ Den β' m v ∧ ArgTyped P M' t m := by
 intro β M hO
 obtain ⟨n, hn⟩ := h
 obtain ⟨β', M', cs, h1, h2, h3, h4, h5⟩ := open_any hS n t v.cells.toList _ ht hn β M hO
 have hk := hS t ht
 unfold typeOk at hk
 have one : (∀ xs, v ≠ .agg xs) → (∀ cs, Typed P M' n t cs → ∃ x, cs = [x]) → ∃ m, Den β' m v ∧ cs = [m] := fun hne hc => by
  obtain ⟨x, rfl⟩ := hc cs h5
  have hcell : v.cells.toList = [v] := by
   cases v <;> first | rfl | exact absurd rfl (hne _)
  rw [hcell] at h4
  obtain ⟨v', ws, e, hd, hr⟩ := h4.inv
  injection e with e1 e2
  subst e1
  exact ⟨x, hd, rfl⟩
 cases n with
 | zero => exact h5.elim
 | succ n =>
 cases hu : P.underlying t with
 | none => rw [hu] at hk; cases hk
 | some k =>
  rw [hu] at hk
  cases k <;> simp only [Bool.and_eq_true] at hk <;> first | (cases hk; done) | skip
  ·obtain ⟨b, rfl⟩ := okWide_bool hu hv
   obtain ⟨m, hm, rfl⟩ := one (fun xs e => by cases e) fun cs hc => by simp only [Typed, hu] at hc; obtain ⟨b, rfl⟩ := hc; exact ⟨_, rfl⟩
   exact ⟨β', M', m, h1, h2, h3, hm, n + 1, [m], h5, by simp only [hu]⟩
  ·obtain ⟨b, rfl⟩ := okWide_int hu hv
   obtain ⟨m, hm, rfl⟩ := one (fun xs e => by cases e) fun cs hc => by simp only [Typed, hu] at hc; obtain ⟨b, rfl, _⟩ := hc; exact ⟨_, rfl⟩
   exact ⟨β', M', m, h1, h2, h3, hm, n + 1, [m], h5, by simp only [hu]⟩
  ·obtain ⟨b, rfl⟩ := okWide_string hu hv
   obtain ⟨m, hm, rfl⟩ := one (fun xs e => by cases e) fun cs hc => by simp only [Typed, hu] at hc; obtain ⟨b, rfl, _⟩ := hc; exact ⟨_, rfl⟩
   exact ⟨β', M', m, h1, h2, h3, hm, n + 1, [m], h5, by simp only [hu]⟩
  ·obtain ⟨a, l, c, rfl⟩ := okWide_slice hu hv
   obtain ⟨m, hm, rfl⟩ := one (fun xs e => by cases e) fun cs hc => by simp only [Typed, hu] at hc; obtain ⟨v, es, rfl, _⟩ := hc; exact ⟨_, rfl⟩
   exact ⟨β', M', m, h1, h2, h3, hm, n + 1, [m], h5, by simp only [hu]⟩
  ·unfold Value.okWide at hv
   rw [hu] at hv
   obtain ⟨xs, rfl, _⟩ := hv
   exact ⟨β', M', .ag cs, h1, h2, h3, DenL.agg h4, n + 1, cs, h5, by simp only [hu]⟩
  ·obtain ⟨xs, rfl, _⟩ := okWide_struct hu hv
   exact ⟨β', M', .ag cs, h1, h2, h3, DenL.agg h4, n + 1, cs, h5, by simp only [hu]⟩
theorem open_args {S : List TypeId} (hS : Closed P S) {r : Reach} {base : Nat} : ∀ (ts : List TypeId) (vs : List Value) (ds : List (DataW H)) (ps : List MemPlace), (∀ t ∈ ts, t ∈ S) → DataW.TrodAll enc P w 0 (fun _ => true) true ts vs ds ps → (∀ (j : Nat) t v, ts[j]? = some t → vs[j]? = some v → Value.okWide P w r base t v) →
  ∀ β M, Opened P w β M → ∃ β' M' ms, Opened P w β' M' ∧ β.le β' ∧ Ext M M' ∧ DenL β' ms vs ∧ ArgsTyped P M' ts ms
 | [], [], [], ps, hin, h, hv, β, M, hO => ⟨β, M, [], hO, .refl β, .refl M, .nil β, rfl⟩
 | t :: ts, v :: vs, d :: ds, ps, hin, h, hv, β, M, hO => by
  obtain ⟨p, q, h1, h2, _⟩ := h
  obtain ⟨β1, M1, m, a1, a2, a3, a4, a5⟩ := open_arg hS (hin t List.mem_cons_self) h1 (hv 0 t v rfl rfl) β M hO
  obtain ⟨β2, M2, ms, b1, b2, b3, b4, b5⟩ := open_args hS ts vs ds q (fun t ht => hin t (List.mem_cons_of_mem _ ht)) h2 (fun j t v h h' => hv (j + 1) t v (by simpa using h) (by simpa using h')) β1 M1 a1
  exact ⟨β2, M2, m :: ms, b1, a2.trans b2, a3.trans b3, .cons (a4.mono b2) b4, m, ms, rfl, a5.ext b3, b5⟩
theorem law_in (hm : P.follows .mixedOrders = true) {fns : Nat → Option IFn} (hfns : ∀ g fn, fns g = some fn → FitsF P g fn) {S : List TypeId} (hS : Closed P S) {r : Reach} {base g : Nat} {ts : List TypeId} {vs : List Value} {ds : List (DataW H)} {ps : List MemPlace} (hin : ∀ t ∈ ts, t ∈ S)
  (h : DataW.TrodAll enc P w 0 (fun _ => true) true ts vs ds ps) (hv : ∀ (j : Nat) t v, ts[j]? = some t → vs[j]? = some v → Value.okWide P w r base t v) {β0 : BM} {M0 : MH} (hO : Opened P w β0 M0)
  (law : ∀ M ms, Ext M0 M → M.lo ≤ M.n → ArgsTyped P M ts ms → Cp fns g ms M fun m _ => m = .b true) :
  Calls P g vs.toArray w fun e w' => e = .returned (.bool true) ∧ Kept w w' := by
 obtain ⟨β, M, ms, h1, h2, h3, h4, h5⟩ := open_args hS ts vs ds ps hin h hv β0 M0 hO
 obtain ⟨m, M', h6, rfl⟩ := law M ms h3 h1.lo h5
 obtain ⟨n, h7⟩ := callA_ex h6
 refine (calls_run_at hm hfns n g ms vs (.b true) β M M' w h1.glob h1.inv h1.ro h7 h4).mono ?_
 rintro e w' ⟨v, β', rfl, hd, hk⟩
 cases hd
 exact ⟨rfl, hk⟩
theorem callF_inv {fns : Nat → Option IFn} {n g : Nat} {fn : IFn} {args : List MV} {M M' : MH} {m : MV} (hg : fns g = some fn) (h : callF fns n g args M = some (m, M')) : args.length ≤ fn.sz ∧ Wp fns fn.body (argsF args 0 .lf) M (retQ fn fun m' M3 => m' = m ∧ M3 = M') := by
 unfold callF at h
 rw [hg] at h
 simp only at h
 cases hb : Nat.ble args.length fn.sz with
 | false => rw [hb] at h; cases h
 | true =>
  rw [hb] at h
  simp only [cond_true] at h
  refine ⟨Nat.le_of_ble_eq_true hb, ?_⟩
  cases h1 : run fns n fn.body (argsF args 0 .lf) M with
  | none => rw [h1] at h; cases h
  | some x =>
   obtain ⟨ex, f, M1⟩ := x
   rw [h1] at h
   refine ⟨n, ex, f, M1, h1, ?_⟩
   cases ex with
   | exit i => cases h
   | norm =>
    simp only at h
    cases h2 : resL f M1 fn.res with
    | none => rw [h2] at h; cases h
    | some l =>
     rw [h2] at h
     injection h with h; injection h with h3 h4
     exact ⟨l, h2, h3, h4⟩
   | ret =>
    simp only at h
    cases h2 : resL f M1 fn.res with
    | none => rw [h2] at h; cases h
    | some l =>
     rw [h2] at h
     injection h with h; injection h with h3 h4
     exact ⟨l, h2, h3, h4⟩
theorem Step.of_kept {β : BM} {M : MH} {w w' : World} (h : Inv β M w) (k : Kept w w') : Step β β M M w w' := by
 obtain ⟨k1, k2, k3, k4, k5⟩ := k
 refine ⟨⟨h.fresh, fun id B e => (h.old id B e).imp (fun x => Nat.lt_of_lt_of_le x k4) (fun x => x), fun id o ho => h.keep (.refl β) (fun b hb => k5 b hb) ho, h.inj⟩, .refl β, k4, k1, k2, k3, fun b hb _ => k5 b hb, fun b hb => .inl hb, Nat.le_refl _, rfl, fun _ _ => rfl, fun _ _ h => h, fun _ _ => rfl, fun _ _ h _ => h⟩
theorem own_cell0 {β : BM} {M : MH} {w : World} (hi : Inv β M w) {id i sz : Nat} {c : T MV} (ho : M.get id = some (.cs false sz c)) {x : MV} (hx : cget c i = some x) : ∃ B v, β id = some B ∧ w.cell? ⟨B.blk, B.off + i, none⟩ = some v ∧ Den β x v := by
 obtain ⟨B, hB, hO⟩ := hi.obj id _ ho
 obtain ⟨arr, t, fr, h1, h2, h3, h4⟩ := hO
 obtain ⟨v, hv, hd⟩ := h4 i x hx
 exact ⟨B, v, hB, by simp [World.cell?, h1, hv], hd⟩
def Ftab (tab : List Int) : IFn := ⟨0, [.tmp (.k1 .d0)], .seq (.reg [⟨some (.k1 .d1), none, .ldN tab.length (.c (.p 0 0))⟩, ⟨some (.k1 .d2), none, .pu2 (.eqA tab.length false) (.t (.k1 .d1)) (.c (.ag (tab.map (MV.i .u8))))⟩, ⟨some (.k1 .d0), none, .mov (.c (.b true))⟩]) (.cond (.t (.k1 .d2)) .ret .bad)⟩
theorem eqAg_true : ∀ {a b : List MV}, eqAg a b = some true → a = b
 | [], [], _ => rfl
 | [], _ :: _, h => by cases h
 | x :: a, [], h => by cases x <;> cases h
 | x :: a, y :: b, h => by
  cases x <;> (try (cases h; done))
  cases y <;> (try (cases h; done))
  rename_i k n k' n'
  have h' : (bif k == k' then match eqAg a b with
   | some t => some (bif n == n' then t else false)
   | none => none
   else none) = some true := h
  cases hk : (k == k') with
  | false => rw [hk] at h'; cases h'
  | true =>
   rw [hk] at h'
   have hk : k = k' := by simpa using hk
   simp only [cond_true] at h'
   cases hq : eqAg a b with
   | none => rw [hq] at h'; cases h'
   | some t =>
    rw [hq] at h'
    injection h' with h'
    cases hn : (n == n') with
    | false => rw [hn] at h'; cases h'
    | true =>
     rw [hn] at h'
     have h' : t = true := h'
     subst h'
     have hn : n = n' := by simpa using hn
     rw [eqAg_true hq, hk, hn]
theorem Wp_bad {fns : Nat → Option IFn} {f : Fr} {M : MH} {Q : Post} (h : Wp fns .bad f M Q) : False := by
 obtain ⟨n, ex, f', M', h1, _⟩ := h
 cases n with
 | zero => rw [run_zero] at h1; cases h1
 | succ n => rw [run_succ] at h1; cases h1
theorem sem_tab {tab : List Int} {g : Nat} {fn : Func} {c : Code} {q : Nat} (hg0 : gtab 0 = some (0, q)) (h1 : P.funcs[g]? = some fn) (h2 : (fn.name == "runtime.NumGoroutine") = false) (h3 : fn.body = some c) (h : ∀ w : World, (∀ i, i < tab.length → w.cell? ⟨0, i, none⟩ = some (.int .u8 (tab.getD i 0))) → Calls P g #[] w fun e w' => e = .returned (.bool true) ∧ Kept w w') : SemF P g (Ftab tab) := by
 intro fns n hg _ args M M' m hc
 refine ⟨⟨fn, c, h1, h2, h3⟩, fun β w vs hgl hi hd => ?_⟩
 obtain ⟨ha, hW⟩ := callF_inv hg hc
 have ha : args = [] := List.length_eq_zero_iff.1 (Nat.le_zero.1 ha)
 subst ha
 cases hd.inv0
 have hW : Wp fns (.seq (.reg [⟨some (.k1 .d1), none, .ldN tab.length (.c (.p 0 0))⟩, ⟨some (.k1 .d2), none, .pu2 (.eqA tab.length false) (.t (.k1 .d1)) (.c (.ag (tab.map (MV.i .u8))))⟩, ⟨some (.k1 .d0), none, .mov (.c (.b true))⟩]) (.cond (.t (.k1 .d2)) .ret .bad)) (argsF [] 0 .lf) M (retQ (Ftab tab) fun m' M3 => m' = m ∧ M3 = M') := hW
 simp only [Wp_seq_reg, Wl_op_iff, ev_ldN, ldN_w, ev_c] at hW
 obtain ⟨⟨l, M1⟩, e1, hW⟩ := hW
 cases ho : M.get 0 with
 | none => rw [ho] at e1; cases e1
 | some o =>
  rw [ho] at e1
  cases o with
  | mp es ck => cases e1
  | cs r s t =>
   cases hn : getN t tab.length 0 with
   | none => simp only [ldNW, hn] at e1; cases e1
   | some cells =>
    simp only [ldNW, hn, Option.map_some, o1_some, Option.some.injEq, Prod.mk.injEq] at e1
    obtain ⟨rfl, rfl⟩ := e1
    simp only [Wl_op_iff, ev_pu2, setD_some, ev_set, if_true, ev_c] at hW
    obtain ⟨⟨x, M2⟩, e2, hW⟩ := hW
    have hcl := (getN_some hn).1
    rw [puM_eqA, hcl, beq_self_eq_true, cond_true] at e2
    cases hq : eqAg cells (tab.map (MV.i .u8)) with
    | none => rw [hq] at e2; cases e2
    | some t2 =>
     rw [hq] at e2
     simp only [cond_false, o1_some, Option.some.injEq, Prod.mk.injEq] at e2
     obtain ⟨rfl, rfl⟩ := e2
     simp only [Wl_op_iff, Wl_nil_iff, bindP_some, ev_mov, ev_c, setD_some, Wp_cond_iff, ev_set, Ky.k1.injEq, reduceCtorEq, if_true, if_false] at hW
     cases t2 with
     | false => rw [condP_f] at hW; exact (Wp_bad hW).elim
     | true =>
      rw [condP_t] at hW
      simp only [Wp_ret_iff, retQ_ret, show (Ftab tab).res = [.tmp (.k1 .d0)] from rfl, resL_1, res_set, if_true, bindP_some] at hW
      obtain ⟨rfl, rfl⟩ := hW
      have hcells := eqAg_true hq
      subst hcells
      refine (h w fun i hlt => ?_).mono ?_
      ·have hx : cget t (0 + i) = some (.i .u8 tab[i]) := (getN_some hn).2 i _ (by simp [hlt])
       have hβ : β 0 = some ⟨0, 0, q⟩ := hgl 0 0 q hg0
       have : ∃ v, w.cell? ⟨0, 0 + (0 + i), none⟩ = some v ∧ Den β (.i .u8 tab[i]) v := by
        cases r with
        | true =>
         obtain ⟨B, e, hk⟩ := hi.obj 0 _ ho
         rw [hβ] at e
         injection e with e
         subst e
         exact hk _ _ hx
        | false =>
         obtain ⟨B, v, e, hk, hd⟩ := own_cell0 hi ho hx
         rw [hβ] at e
         injection e with e
         subst e
         exact ⟨v, hk, hd⟩
       obtain ⟨v, g1, g2⟩ := this
       cases g2
       rw [Nat.zero_add, Nat.zero_add] at g1
       rw [g1, List.getD_eq_getElem?_getD, List.getElem?_eq_getElem hlt]
       rfl
      ·rintro e w' ⟨rfl, hk⟩
       exact ⟨_, β, rfl, .b true, Step.of_kept hi hk⟩
noncomputable def Mtab (tab : List Int) : MH := ⟨T.set (path 0) (some (.cs true 1 (ofL (tab.map (MV.i .u8)) 0))) .lf, 1, 0⟩
def Btab (q : Nat) : BM := fun id => if id = 0 then some ⟨0, 0, q⟩ else none
theorem Mtab_get (tab : List Int) (id : Nat) : (Mtab tab).get id = if id = 0 then some (.cs true 1 (ofL (tab.map (MV.i .u8)) 0)) else none := by
 unfold Mtab MH.get
 simp only
 rw [T.get_set, T.get_lf]
 by_cases h : id = 0
 ·subst h; rw [if_pos rfl, if_pos rfl]
 ·rw [if_neg h, if_neg fun e => h (path_inj e).symm]
theorem opened_tab {tab : List Int} {q : Nat} (hg : ∀ g id cap, gtab g = some (id, cap) → g = 0 ∧ id = 0 ∧ cap = q) (hn : 0 < tab.length) (h : ∀ i, i < tab.length → w.cell? ⟨0, i, none⟩ = some (.int .u8 (tab.getD i 0))) : Opened P w (Btab q) (Mtab tab) := by
 refine ⟨⟨fun id hid => ?_, fun id B hB => ?_, fun id o ho => ?_, fun id id' o o' B B' ho _ hr => ?_⟩, fun g id cap e => ?_, fun id o ho => ?_, Nat.zero_le _, .inl (Nat.lt_of_le_of_lt (Nat.zero_le _) (World.block_lt_of_cell? w _ (h 0 hn)))⟩
 ·have : (1 : Nat) ≤ id := hid
  unfold Btab; rw [if_neg (by omega)]
 ·unfold Btab at hB
  split at hB
  ·injection hB with hB
   subst hB
   exact .inl (World.block_lt_of_cell? w _ (h 0 hn))
  ·cases hB
 ·rw [Mtab_get] at ho
  split at ho
  ·rename_i e
   subst e
   injection ho with ho
   subst ho
   refine ⟨⟨0, 0, q⟩, rfl, fun i x hx => ?_⟩
   rw [cget_ofL, if_pos (Nat.zero_le _), Nat.sub_zero, List.getElem?_map, Option.map_eq_some_iff] at hx
   obtain ⟨z, hz, rfl⟩ := hx
   have hi : i < tab.length := (List.getElem?_eq_some_iff.1 hz).1
   refine ⟨_, (by rw [Nat.zero_add]; exact h i hi), ?_⟩
   rw [List.getD_eq_getElem?_getD, hz]
   exact .i _ _
  ·cases ho
 ·rw [Mtab_get] at ho
  split at ho
  ·injection ho with ho
   subst ho
   cases hr
  ·cases ho
 ·obtain ⟨rfl, rfl, rfl⟩ := hg g id cap e
  rfl
 ·rw [Mtab_get] at ho
  split at ho
  ·injection ho with ho
   subst ho
   rfl
  ·cases ho
theorem eqAg_self (k : IntKind) : ∀ l : List Int, eqAg (l.map (MV.i k)) (l.map (MV.i k)) = some true
 | [] => rfl
 | z :: l => by
  rw [List.map_cons, eqAg_i, eqAg_self k l, beq_self_eq_true]
  rfl
theorem Cp_tab {fns : Nat → Option IFn} {g : Nat} {tab : List Int} {M : MH} (hg : fns g = some (Ftab tab)) (hx : Ext (Mtab tab) M) : Cp fns g [] M fun m M' => m = .b true ∧ M' = M := by
 have h0 : M.get 0 = some (.cs true 1 (ofL (tab.map (MV.i .u8)) 0)) := by rw [hx.old 0 (by show (0 : Nat) < 1; decide), Mtab_get, if_pos rfl]
 refine Cp_call hg (Nat.le_refl _) ?_
 show Wp fns (.seq (.reg [⟨some (.k1 .d1), none, .ldN tab.length (.c (.p 0 0))⟩, ⟨some (.k1 .d2), none, .pu2 (.eqA tab.length false) (.t (.k1 .d1)) (.c (.ag (tab.map (MV.i .u8))))⟩, ⟨some (.k1 .d0), none, .mov (.c (.b true))⟩]) (.cond (.t (.k1 .d2)) .ret .bad)) _ M _
 have hn : getN (ofL (tab.map (MV.i .u8)) 0) tab.length 0 = some (tab.map (MV.i .u8)) := by
  have := (at_ofL (tab.map (MV.i .u8))).getN
  rwa [List.length_map] at this
 simp only [Wp_seq_reg, Wl_op_iff, Wl_nil_iff, ev_ldN, ldN_w, ev_c, h0, ldNW_cs, hn, map_ag, o1_some, bindP_some, ev_pu2, setD_some, ev_set, if_true, puM_eqA, List.length_map, beq_self_eq_true, cond_true, cond_false, eqAg_self, ev_mov, Wp_cond_iff, Ky.k1.injEq, reduceCtorEq, if_false, condP_t, Wp_ret_iff, retQ_ret, show (Ftab tab).res = [.tmp (.k1 .d0)] from rfl, resL_1, res_set]
 exact ⟨rfl, trivial⟩
end Go.Proofs.YtpdcahaggacacaaDoor.Ev
namespace Go.Proofs.YtpdcahaggacacaaDoor
open Go Go.RowKit Kit Ev
def tabZ : List Int := [0, 1, 56, 2, 57, 49, 28, 3, 61, 58, 42, 50, 38, 29, 17, 4, 62, 47, 59, 36, 45, 43, 51, 22, 53, 39, 33, 30, 24, 18, 12, 5, 63, 55, 48, 27, 60, 41, 37, 16, 46, 35, 44, 21, 52, 32, 23, 11, 54, 26, 40, 15, 34, 20, 31, 10, 25, 14, 19, 9, 13, 8, 7, 6]
def Tab (w : World) : Prop := ∀ i, i < tabZ.length → w.cell? ⟨0, i, none⟩ = some (.int .u8 (tabZ.getD i 0))
end Go.Proofs.YtpdcahaggacacaaDoor
set_option linter.unusedSimpArgs false
set_option linter.unusedVariables false
namespace Go.Proofs.YtpdcahaggacacaaDoor.Ev
open Go
theorem At.set {c : T MV} {off : Nat} {l : List MV} (h : At c off l) (j : Nat) (x : MV) (hj : j < l.length) : At (setN [x] (off + j) c) off (l.set j x) := fun i y hi => by
 rw [cget_setN]
 rw [List.getElem?_set] at hi
 by_cases e : j = i
 ·subst e
  rw [if_pos rfl, if_pos hj] at hi
  rw [if_pos ⟨Nat.le_refl _, by simp⟩, Nat.sub_self]
  exact hi
 ·rw [if_neg e] at hi
  rw [if_neg (by simp only [List.length_singleton]; omega)]
  exact h i y hi
theorem At.set' {c : T MV} {off k : Nat} {l : List MV} (h : At c off l) (j : Nat) (x : MV) (hj : j < l.length) (hk : k = off + j) : At (setN [x] k c) off (l.set j x) := by subst hk; exact h.set j x hj
theorem flat_set {sz : Nat} : ∀ {es : List (List MV)} {i o : Nat} {e : List MV} {x : MV}, Sized sz es → es[i]? = some e → o < sz → es.flatten.set (i * sz + o) x = (es.set i (e.set o x)).flatten
 | [], i, o, e, x, hs, he, ho => by simp at he
 | a :: es, 0, o, e, x, hs, he, ho => by
  simp only [List.getElem?_cons_zero, Option.some.injEq] at he
  subst he
  have hl : a.length = sz := hs a List.mem_cons_self
  rw [List.flatten_cons, List.set_cons_zero, List.flatten_cons, Nat.zero_mul, Nat.zero_add, List.set_append_left _ _ (by omega)]
 | a :: es, i + 1, o, e, x, hs, he, ho => by
  have hl : a.length = sz := hs a List.mem_cons_self
  rw [List.flatten_cons, List.set_cons_succ, List.flatten_cons, List.set_append_right _ _ (by rw [hl, Nat.succ_mul]; omega), hl, Nat.succ_mul, show i * sz + sz + o - sz = i * sz + o from by omega]
  rw [flat_set (fun y hy => hs y (List.mem_cons_of_mem _ hy)) (by simpa using he) ho]
theorem Sized.set {sz : Nat} {es : List (List MV)} (h : Sized sz es) (i : Nat) {e : List MV} (he : e.length = sz) : Sized sz (es.set i e) := fun x hx => by
 rcases List.mem_or_eq_of_mem_set hx with h1 | h1
 ·exact h x h1
 ·rw [h1]; exact he
theorem At.elem_set {c : T MV} {sz : Nat} {es : List (List MV)} (hs : Sized sz es) (h : At c 0 es.flatten) {i o : Nat} {e : List MV} {x : MV} (he : es[i]? = some e) (ho : o < sz) {k : Nat} (hk : k = i * sz + o) : At (setN [x] k c) 0 (es.set i (e.set o x)).flatten := by
 rw [← flat_set hs he ho]
 have hi := (List.getElem?_eq_some_iff.1 he).1
 refine h.set' _ x ?_ (by rw [hk, Nat.zero_add])
 rw [hs.flat]
 have : (i + 1) * sz ≤ es.length * sz := Nat.mul_le_mul_right sz hi
 rw [Nat.succ_mul] at this
 omega
theorem has_at {c : T MV} {off : Nat} {l : List MV} (h : At c off l) {k n : Nat} (hk : off ≤ k) (hn : k + n ≤ off + l.length) : hasB c n k = true := hasB_of fun j hj => by
 rw [show k + j = off + (k - off + j) from by omega, h (k - off + j) _ (List.getElem?_eq_getElem (by omega))]
 rfl
theorem OwnRow.keep {lo : Nat} {M M' : MH} {sz : Nat} {v : MV} {es : List (List MV)} (h : OwnRow lo M sz v es) (hn : M.n ≤ M'.n) (k : ∀ a b n d, v = .sl a b n d → M'.get a = M.get a) : OwnRow lo M' sz v es := by
 obtain ⟨hs, h | ⟨id, c, h1, h2, h3, h4, h5⟩⟩ := h
 ·exact ⟨hs, .inl h⟩
 ·exact ⟨hs, .inr ⟨id, c, h1, (k _ _ _ _ h1).trans h2, h3, Nat.lt_of_lt_of_le h4 hn, h5⟩⟩
end Go.Proofs.YtpdcahaggacacaaDoor.Ev
set_option linter.unusedSimpArgs false
set_option linter.unusedVariables false
namespace Go.Proofs.YtpdcahaggacacaaDoor.Ev
open Go
def ints (l : List Int) : List (List MV) := l.map fun z => [.i .i64 z]
theorem ints_len (l : List Int) : (ints l).length = l.length := by unfold ints; rw [List.length_map]
theorem ints_at {l : List Int} {i : Nat} {z : Int} (h : l[i]? = some z) : (ints l)[i]? = some [.i .i64 z] := by unfold ints; rw [List.getElem?_map, h]; rfl
def IntRow (M : MH) (v : MV) (l : List Int) : Prop := RowAt M 1 v (ints l)
theorem IntRow.ext {M M' : MH} {v : MV} {l : List Int} (h : IntRow M v l) (k : Ext M M') : IntRow M' v l := RowAt.ext h k
theorem IntRow.sl {M : MH} {v : MV} {l : List Int} (h : IntRow M v l) : isSl v = true ∧ slen v = l.length := by
 obtain ⟨a, b⟩ := RowAt.sl h
 exact ⟨a, b.trans (ints_len l)⟩
theorem IntRow.read {M : MH} {v : MV} {l : List Int} (h : IntRow M v l) {i : Nat} {z : Int} (hz : l[i]? = some z) : ∃ ro s c, M.get (sid v) = some (.cs ro s c) ∧ sid v < M.n ∧ cget c (soff v + i * 1) = some (.i .i64 z) := by
 obtain ⟨ro, s, c, h1, h2, h3⟩ := RowAt.read h (ints_at hz)
 exact ⟨ro, s, c, h1, h2, h3 0 _ rfl⟩
structure Gr where
 names : Int
 kinds : Int
 start : Int
 rules : List (Int × List Int × Int)
 forbid : List (Int × Int × Int)
 rc : List Int
 kc : List Int
def RuleAt (M : MH) (e : List MV) (r : Int × List Int × Int) : Prop := ∃ v, e = [.i .i64 r.1, v, .i .i64 r.2.2] ∧ IntRow M v r.2.1
theorem RuleAt.ext {M M' : MH} {e : List MV} {r : Int × List Int × Int} (h : RuleAt M e r) (k : Ext M M') : RuleAt M' e r := let ⟨v, h1, h2⟩ := h; ⟨v, h1, h2.ext k⟩
def trip (f : Int × Int × Int) : List MV := [.i .i64 f.1, .i .i64 f.2.1, .i .i64 f.2.2]
structure RulesAt (M : MH) (v : MV) (es : List (List MV)) (l : List (Int × List Int × Int)) : Prop where
 row : RowAt M 3 v es
 len : es.length = l.length
 at_ : ∀ (i : Nat) e r, es[i]? = some e → l[i]? = some r → RuleAt M e r
theorem RulesAt.ext {M M' : MH} {v : MV} {es : List (List MV)} {l : List (Int × List Int × Int)} (h : RulesAt M v es l) (k : Ext M M') : RulesAt M' v es l := ⟨h.row.ext k, h.len, fun i e r h1 h2 => (h.at_ i e r h1 h2).ext k⟩
theorem RulesAt.get {M : MH} {v : MV} {es : List (List MV)} {l : List (Int × List Int × Int)} (h : RulesAt M v es l) {i : Nat} {r : Int × List Int × Int} (hr : l[i]? = some r) : ∃ uu, es[i]? = some [.i .i64 r.1, uu, .i .i64 r.2.2] ∧ IntRow M uu r.2.1 := by
 have hi := (List.getElem?_eq_some_iff.1 hr).1
 have hi' : i < es.length := by rw [h.len]; exact hi
 have he : es[i]? = some es[i] := List.getElem?_eq_getElem hi'
 obtain ⟨uu, h1, h2⟩ := h.at_ i _ r he hr
 exact ⟨uu, by rw [he, h1], h2⟩
def Wf64 (z : Int) : Prop := -9223372036854775808 ≤ z ∧ z ≤ 9223372036854775807
structure GrWf (g : Gr) : Prop where
 names : Wf64 g.names
 kinds : Wf64 g.kinds
 start : Wf64 g.start
 rules : ∀ r ∈ g.rules, Wf64 r.1 ∧ (∀ z ∈ r.2.1, Wf64 z) ∧ Wf64 r.2.2 ∧ r.2.1.length ≤ 9223372036854775807
 forbid : ∀ f ∈ g.forbid, Wf64 f.1 ∧ Wf64 f.2.1 ∧ Wf64 f.2.2
 rc : ∀ z ∈ g.rc, Wf64 z
 kc : ∀ z ∈ g.kc, Wf64 z
 lens : g.rules.length ≤ 9223372036854775807 ∧ g.forbid.length ≤ 9223372036854775807 ∧ g.rc.length ≤ 9223372036854775807 ∧ g.kc.length ≤ 9223372036854775807
def TbAt (M : MH) : Prop := M.get 0 = some (.cs true 1 (ofL (tabZ.map (MV.i .u8)) 0)) ∧ 0 < M.n
theorem TbAt.ext {M M' : MH} (h : TbAt M) (k : Ext M M') : TbAt M' := ⟨(k.old _ h.2).trans h.1, Nat.lt_of_lt_of_le h.2 k.n⟩
theorem TbAt.of {M : MH} (h : Ext (Mtab tabZ) M) : TbAt M := ⟨by rw [h.old 0 (by show (0 : Nat) < 1; decide), Mtab_get, if_pos rfl], Nat.lt_of_lt_of_le (by show (0 : Nat) < 1; decide) h.n⟩
structure GrAt (M : MH) (vr vf vc vk : MV) (es : List (List MV)) (g : Gr) : Prop where
 rules : RulesAt M vr es g.rules
 forbid : RowAt M 3 vf (g.forbid.map trip)
 rc : IntRow M vc g.rc
 kc : IntRow M vk g.kc
 wf : GrWf g
 tb : TbAt M
theorem GrAt.ext {M M' : MH} {vr vf vc vk : MV} {es : List (List MV)} {g : Gr} (h : GrAt M vr vf vc vk es g) (k : Ext M M') : GrAt M' vr vf vc vk es g := ⟨h.rules.ext k, h.forbid.ext k, h.rc.ext k, h.kc.ext k, h.wf, h.tb.ext k⟩
def gcs (g : Gr) (vr vf vc vk : MV) : List MV := [.i .i64 g.names, .i .i64 g.kinds, .i .i64 g.start, vr, vf, vc, vk]
def symB (g : Gr) (s : Int) : Bool := if s < 0 then decide (-1 - s < g.kinds) else decide (s < g.names)
def clsB (l : List Int) : Bool := l.all fun z => decide (0 ≤ z) && decide (z ≤ 100)
def okR (g : Gr) (r : Int × List Int × Int) : Bool := (decide (0 ≤ r.1) && decide (r.1 < g.names)) && r.2.1.all (symB g)
def ruleE (g : Gr) (r : Int × List Int × Int) : Option Int :=
 if okR g r = false then some 6 else if (8 : Int) < (r.2.1.length : Int) then some 3 else if r.2.2 < -1000 ∨ 1000 < r.2.2 then some 1 else none
def findE {α : Type} (f : α → Option Int) : List α → Nat → Option (Nat × Int)
 | [], _ => none
 | r :: l, i => match f r with
  | some e => some (i, e)
  | none => findE f l (i + 1)
def badF (g : Gr) (f : Int × Int × Int) : Bool :=
 if f.1 < 0 ∨ (g.rules.length : Int) ≤ f.1 ∨ f.2.2 < 0 ∨ (g.rules.length : Int) ≤ f.2.2 then true
 else match g.rules[f.1.toNat]?, g.rules[f.2.2.toNat]? with
  | some a, some b => if f.2.1 < 0 ∨ (a.2.1.length : Int) ≤ f.2.1 then true else match a.2.1[f.2.1.toNat]? with
   | some s => decide (s ≠ b.1)
   | none => true
  | _, _ => true
def headE (g : Gr) : Option Int :=
 if g.names < 1 ∨ 40 < g.names ∨ g.kinds < 0 ∨ 40 < g.kinds ∨ (60 : Int) < (g.rules.length : Int) ∨ (200 : Int) < (g.forbid.length : Int) then some 3
 else if g.start < 0 ∨ g.names ≤ g.start then some 6
 else if (g.rules.length : Int) < (g.rc.length : Int) ∨ g.kinds < (g.kc.length : Int) ∨ clsB g.rc = false ∨ clsB g.kc = false then some 1
 else none
def formP (g : Gr) : Int × Int := match headE g with
 | some e => (-1, e)
 | none => match findE (ruleE g) g.rules 0 with
  | some (i, e) => (i, e)
  | none => if g.forbid.any (badF g) = true then (-1, 6) else (-1, 0)
theorem findE_drop {α : Type} {f : α → Option Int} {l : List α} {i : Nat} {r : α} (h : l[i]? = some r) : findE f (l.drop i) i = match f r with
  | some e => some (i, e)
  | none => findE f (l.drop (i + 1)) (i + 1) := by
 have hi := (List.getElem?_eq_some_iff.1 h).1
 rw [List.drop_eq_getElem_cons hi, (List.getElem?_eq_some_iff.1 h).2]
 rfl
end Go.Proofs.YtpdcahaggacacaaDoor.Ev
set_option linter.unusedSimpArgs false
set_option linter.unusedVariables false
namespace Go.Proofs.YtpdcahaggacacaaDoor.Ev
open Go
variable {M : MH} {f : Fr} {c : CallM}
noncomputable def mksV (M : MH) (sz bytes : Nat) (zs : List MV) (x y : MV) : Option (MV × MH) := match x, y with
 | .i _ (.ofNat l), .i _ (.ofNat c) => bif Nat.ble l c && Nat.ble (bytes * c) 281474976710656 && Nat.ble c 9223372036854775807 && Nat.ble M.lo M.n then some (.sl M.n 0 l 0, M.push (.cs false sz (ofL (zrow zs c) 0))) else none
 | _, _ => none
theorem ev_mks (sz bytes : Nat) (zs : List MV) (x y : X) : Iop.ev c f M (.mks sz bytes zs x y) = mksV M sz bytes zs (x.ev f) (y.ev f) := rfl
theorem mks_ok {sz bytes : Nat} {zs : List MV} {k k' : IntKind} {n : Nat} (h1 : bytes * n ≤ 281474976710656) (h2 : n ≤ 9223372036854775807) (h3 : M.lo ≤ M.n) : mksV M sz bytes zs (.i k (n : Int)) (.i k' (n : Int)) = some (.sl M.n 0 n 0, M.push (.cs false sz (ofL (zrow zs n) 0))) := by
 show (bif Nat.ble n n && Nat.ble (bytes * n) 281474976710656 && Nat.ble n 9223372036854775807 && Nat.ble M.lo M.n then some (MV.sl M.n 0 n 0, M.push (.cs false sz (ofL (zrow zs n) 0))) else none) = _
 rw [ble_t' (Nat.le_refl n), ble_t' h1, ble_t' h2, ble_t' h3]
 rfl
theorem zrow_rep (x : MV) : ∀ n, zrow [x] n = List.replicate n x
 | 0 => rfl
 | n + 1 => by rw [zrow_succ, zrow_rep x n]; rfl
def BoolsAt (M : MH) (id : Nat) (l : List Bool) : Prop := ∃ t, M.get id = some (.cs false 1 t) ∧ At t 0 (l.map MV.b)
theorem BoolsAt.new (n : Nat) : BoolsAt (M.push (.cs false 1 (ofL (zrow [.b false] n) 0))) M.n (List.replicate n false) := ⟨_, push_new _, by rw [List.map_replicate, ← zrow_rep]; exact at_ofL _⟩
theorem BoolsAt.same {M' : MH} {id : Nat} {l : List Bool} (h : BoolsAt M id l) (e : M'.get id = M.get id) : BoolsAt M' id l := let ⟨t, h1, h2⟩ := h; ⟨t, e.trans h1, h2⟩
theorem BoolsAt.read {id : Nat} {l : List Bool} (h : BoolsAt M id l) : ∃ t, M.get id = some (.cs false 1 t) ∧ (∀ i b, l[i]? = some b → cget t (i * 1) = some (.b b)) ∧ (∀ i, i < l.length → hasB t 1 (i * 1) = true) ∧ ∀ i x, i < l.length → At (setN [.b x] (i * 1) t) 0 ((l.set i x).map MV.b) := by
 obtain ⟨t, h1, h2⟩ := h
 refine ⟨t, h1, fun i b hb => ?_, fun i hi => has_at h2 (Nat.zero_le _) (by rw [List.length_map]; omega), fun i x hi => ?_⟩
 ·rw [Nat.mul_one]
  have := h2 i _ (by rw [List.getElem?_map, hb]; rfl)
  rwa [Nat.zero_add] at this
 ·rw [List.map_set]
  exact h2.set' i _ (by rw [List.length_map]; exact hi) (by omega)
theorem ix_slc {s id off n d : Nat} {k : IntKind} {i : Nat} (hi : i < n) : ixV s (.sl id off n d) (.i k (i : Int)) = some (.p id (off + i * s)) := ix_sl (v := .sl id off n d) rfl hi
theorem len_slc (id off n d : Nat) : lenV (.sl id off n d) = some (.i .i64 (n : Int)) := rfl
theorem sid_sl (a b n d : Nat) : sid (.sl a b n d) = a := rfl
theorem soff_sl (a b n d : Nat) : soff (.sl a b n d) = b := rfl
theorem flat_bools : ∀ l : List Bool, (l.map fun b => [MV.b b]).flatten = l.map MV.b
 | [] => rfl
 | b :: l => by rw [List.map_cons, List.flatten_cons, flat_bools l]; rfl
theorem BoolsAt.row {id : Nat} {l : List Bool} (h : BoolsAt M id l) (hid : id < M.n) : RowAt M 1 (.sl id 0 l.length 0) (l.map fun b => [.b b]) := by
 obtain ⟨t, h1, h2⟩ := h
 refine ⟨fun e he => ?_, .inr ⟨id, 0, 0, false, 1, t, by rw [List.length_map], h1, hid, ?_⟩⟩
 ·obtain ⟨b, _, rfl⟩ := List.mem_map.1 he; rfl
 ·rw [flat_bools]; exact h2
def falses (l : List Bool) : Nat := l.count false
theorem falses_set {l : List Bool} {i : Nat} (h : l[i]? = some false) : falses (l.set i true) < falses l := by
 unfold falses
 induction l generalizing i with
 | nil => simp at h
 | cons b l ih =>
  cases i with
  | zero =>
   simp only [List.getElem?_cons_zero, Option.some.injEq] at h
   subst h
   simp
  | succ i =>
   simp only [List.getElem?_cons_succ] at h
   have := ih h
   rw [List.set_cons_succ, List.count_cons, List.count_cons]
   omega
end Go.Proofs.YtpdcahaggacacaaDoor.Ev
set_option linter.unusedSimpArgs false
set_option linter.unusedVariables false
namespace Go.Proofs.YtpdcahaggacacaaDoor.Ev
open Go
theorem findE_none {α : Type} {f : α → Option Int} : ∀ {l : List α} {i : Nat}, findE f l i = none → ∀ r ∈ l, f r = none
 | [], i, h, r, hr => by cases hr
 | a :: l, i, h, r, hr => by
  unfold findE at h
  cases ha : f a with
  | some e => rw [ha] at h; cases h
  | none =>
   rw [ha] at h
   rcases List.mem_cons.1 hr with rfl | hr
   ·exact ha
   ·exact findE_none h r hr
structure GrOk (g : Gr) : Prop where
 n1 : 1 ≤ g.names
 n2 : g.names ≤ 40
 k1 : 0 ≤ g.kinds
 k2 : g.kinds ≤ 40
 rl : g.rules.length ≤ 60
 s1 : 0 ≤ g.start
 s2 : g.start < g.names
 left : ∀ r ∈ g.rules, 0 ≤ r.1 ∧ r.1 < g.names
 sym : ∀ r ∈ g.rules, ∀ s ∈ r.2.1, symB g s = true
 len : ∀ r ∈ g.rules, r.2.1.length ≤ 8
theorem findE_pos {g : Gr} : ∀ {l : List (Int × List Int × Int)} {i : Nat} {x : Nat × Int}, findE (ruleE g) l i = some x → x.2 ≠ 0
 | [], i, x, h => by cases h
 | a :: l, i, x, h => by
  unfold findE at h
  cases ha : ruleE g a with
  | some e =>
   rw [ha] at h
   injection h with h
   subst h
   unfold ruleE at ha
   intro e0
   simp only at e0
   subst e0
   split at ha
   ·cases ha
   ·split at ha
    ·cases ha
    ·split at ha
     ·cases ha
     ·cases ha
  | none => rw [ha] at h; exact findE_pos h
theorem form_ok {g : Gr} (h : (formP g).2 = 0) : GrOk g := by
 unfold formP at h
 cases hh : headE g with
 | some e =>
  rw [hh] at h
  simp only at h
  subst h
  unfold headE at hh
  split at hh
  ·cases hh
  ·split at hh
   ·cases hh
   ·split at hh <;> cases hh
 | none =>
  rw [hh] at h
  simp only at h
  cases hf : findE (ruleE g) g.rules 0 with
  | some x =>
   rw [hf] at h
   exact absurd h (findE_pos hf)
  | none =>
   have hall := findE_none hf
   unfold headE at hh
   split at hh
   ·cases hh
   rename_i c1
   split at hh
   ·cases hh
   rename_i c2
   have hr : ∀ r ∈ g.rules, okR g r = true ∧ r.2.1.length ≤ 8 := fun r hr => by
    have := hall r hr
    unfold ruleE at this
    split at this
    ·cases this
    rename_i d1
    split at this
    ·cases this
    rename_i d2
    exact ⟨by simpa using d1, by omega⟩
   refine ⟨by omega, by omega, by omega, by omega, by omega, by omega, by omega, fun r h => ?_, fun r h s hs => ?_, fun r h => (hr r h).2⟩
   ·have := (hr r h).1
    unfold okR at this
    simp only [Bool.and_eq_true, decide_eq_true_eq] at this
    exact this.1
   ·have := (hr r h).1
    unfold okR at this
    simp only [Bool.and_eq_true] at this
    exact List.all_eq_true.1 this.2 s hs
theorem symB_lt {g : Gr} {s : Int} (h : symB g s = true) (h0 : 0 ≤ s) : s < g.names := by
 unfold symB at h
 rw [if_neg (by omega)] at h
 simpa using h
theorem symB_neg {g : Gr} {s : Int} (h : symB g s = true) (h0 : s < 0) : -1 - s < g.kinds := by
 unfold symB at h
 rw [if_pos h0] at h
 simpa using h
inductive Nul (g : Gr) : Nat → Prop
 | mk (r : Int × List Int × Int) (hr : r ∈ g.rules) (h0 : ∀ s ∈ r.2.1, 0 ≤ s) (h : ∀ s ∈ r.2.1, Nul g s.toNat) : Nul g r.1.toNat
def oneN (l : List Bool) (s : Int) : Bool := decide (0 ≤ s) && l.getD s.toNat false
def allN (l : List Bool) (r : List Int) : Bool := r.all (oneN l)
def NulSound (g : Gr) (l : List Bool) : Prop := ∀ a, l[a]? = some true → Nul g a
def NulClosed (l : List Bool) (rs : List (Int × List Int × Int)) : Prop := ∀ r ∈ rs, allN l r.2.1 = true → l[r.1.toNat]? = some true
def NulVec (g : Gr) (l : List Bool) : Prop := l.length = g.names.toNat ∧ ∀ a, l[a]? = some true ↔ Nul g a
theorem nul_all {g : Gr} {l : List Bool} (h : NulClosed l g.rules) {a : Nat} (ha : Nul g a) : l[a]? = some true := by
 induction ha with
 | mk r hr h0 _ ih =>
  refine h r hr (List.all_eq_true.2 fun s hs => ?_)
  unfold oneN
  rw [List.getD_eq_getElem?_getD, ih s hs]
  simpa using h0 s hs
theorem nul_vec {g : Gr} {l : List Bool} (hl : l.length = g.names.toNat) (hs : NulSound g l) (hc : NulClosed l g.rules) : NulVec g l := ⟨hl, fun a => ⟨hs a, nul_all hc⟩⟩
theorem NulSound.set {g : Gr} {l : List Bool} (h : NulSound g l) {r : Int × List Int × Int} (hr : r ∈ g.rules) (ha : allN l r.2.1 = true) : NulSound g (l.set r.1.toNat true) := fun a e => by
 rw [List.getElem?_set] at e
 split at e
 ·rename_i e1
  subst e1
  have hall := List.all_eq_true.1 ha
  unfold oneN at hall
  refine .mk r hr (fun s hs => ?_) fun s hs => ?_
  ·have := hall s hs
   simp only [Bool.and_eq_true, decide_eq_true_eq] at this
   exact this.1
  ·have := hall s hs
   simp only [Bool.and_eq_true, decide_eq_true_eq] at this
   refine h _ ?_
   have h2 := this.2
   rw [List.getD_eq_getElem?_getD] at h2
   cases hx : l[s.toNat]? with
   | none => rw [hx] at h2; cases h2
   | some b => rw [hx] at h2; simp only [Option.getD_some] at h2; rw [h2]
 ·exact h a e
theorem nul_ext {g : Gr} {a b : List Bool} (ha : NulVec g a) (hb : NulVec g b) : a = b := by
 refine List.ext_getElem (ha.1.trans hb.1.symm) fun i h1 h2 => ?_
 have e1 := ha.2 i
 have e2 := hb.2 i
 rw [List.getElem?_eq_getElem h1] at e1
 rw [List.getElem?_eq_getElem h2] at e2
 have e := e1.trans e2.symm
 cases hx : a[i] <;> cases hy : b[i] <;> simp_all
end Go.Proofs.YtpdcahaggacacaaDoor.Ev
set_option linter.unusedSimpArgs false
set_option linter.unusedVariables false
namespace Go.Proofs.YtpdcahaggacacaaDoor.Ev
open Go
def rightN (g : Gr) (q : Nat) : Option (List Int) := if q = 0 then some [g.start] else (g.rules[q - 1]?).map fun r => r.2.1
def behN (g : Gr) (n : Nat) : Option Int := (rightN g (n / 9)).bind fun l => l[n % 9]?
def IsN (g : Gr) (n : Nat) : Prop := ∃ l, rightN g (n / 9) = some l ∧ n % 9 ≤ l.length
theorem right_len {g : Gr} (h : GrOk g) {q : Nat} {l : List Int} (e : rightN g q = some l) : l.length ≤ 8 ∧ q ≤ g.rules.length := by
 unfold rightN at e
 split at e
 ·injection e with e; subst e; exact ⟨by simp, by omega⟩
 ·cases hr : g.rules[q - 1]? with
  | none => rw [hr] at e; cases e
  | some r =>
   rw [hr] at e
   injection e with e
   subst e
   have := (List.getElem?_eq_some_iff.1 hr).1
   exact ⟨h.len r (List.mem_of_getElem? hr), by omega⟩
theorem IsN.lt {g : Gr} (h : GrOk g) (h60 : g.rules.length ≤ 60) {n : Nat} (k : IsN g n) : n < 549 := by
 obtain ⟨l, e, hl⟩ := k
 have := (right_len h e).2
 omega
theorem IsN.of_beh {g : Gr} {n : Nat} {s : Int} (e : behN g n = some s) : ∃ l, rightN g (n / 9) = some l ∧ n % 9 < l.length := by
 unfold behN at e
 cases hl : rightN g (n / 9) with
 | none => rw [hl] at e; cases e
 | some l =>
  rw [hl] at e
  exact ⟨l, rfl, (List.getElem?_eq_some_iff.1 e).1⟩
theorem next_item {g : Gr} (h : GrOk g) {n : Nat} {s : Int} (e : behN g n = some s) : (n + 1) / 9 = n / 9 ∧ (n + 1) % 9 = n % 9 + 1 ∧ IsN g (n + 1) := by
 obtain ⟨l, h1, h2⟩ := IsN.of_beh e
 have := (right_len h h1).1
 have e1 : (n + 1) / 9 = n / 9 := by omega
 have e2 : (n + 1) % 9 = n % 9 + 1 := by omega
 exact ⟨e1, e2, l, by rw [e1]; exact h1, by omega⟩
inductive InC (g : Gr) (S : Nat → Prop) : Nat → Prop where
 | base {n : Nat} (h : S n) : InC g S n
 | step {n i : Nat} {s : Int} {r : Int × List Int × Int} (h : InC g S n) (e : behN g n = some s) (k : g.rules[i]? = some r) (l : r.1 = s) : InC g S ((i + 1) * 9)
theorem begin_is {g : Gr} {i : Nat} {r : Int × List Int × Int} (k : g.rules[i]? = some r) : IsN g ((i + 1) * 9) := by
 refine ⟨r.2.1, ?_, by omega⟩
 unfold rightN
 rw [if_neg (by omega), show (i + 1) * 9 / 9 - 1 = i from by omega, k]
 rfl
theorem InC.is {g : Gr} {S : Nat → Prop} (hS : ∀ n, S n → IsN g n) {n : Nat} (h : InC g S n) : IsN g n := by
 cases h with
 | base h => exact hS _ h
 | step h e k l => exact begin_is k
def Ris (l : List Nat) : Prop := l.Pairwise (· < ·)
theorem ris_ext : ∀ {a b : List Nat}, Ris a → Ris b → (∀ n, n ∈ a ↔ n ∈ b) → a = b
 | [], [], _, _, _ => rfl
 | [], y :: b, _, _, h => by have := (h y).2 List.mem_cons_self; simp at this
 | x :: a, [], _, _, h => by have := (h x).1 List.mem_cons_self; simp at this
 | x :: a, y :: b, ha, hb, h => by
  unfold Ris at ha hb
  rw [List.pairwise_cons] at ha hb
  have hx := (h x).1 List.mem_cons_self
  have hy := (h y).2 List.mem_cons_self
  have e : x = y := by
   rcases List.mem_cons.1 hx with e | e
   ·exact e
   ·rcases List.mem_cons.1 hy with e' | e'
    ·exact e'.symm
    ·have := hb.1 x e; have := ha.1 y e'; omega
  subst e
  rw [ris_ext ha.2 hb.2 fun n => ?_]
  have hn := h n
  simp only [List.mem_cons] at hn
  constructor
  ·intro hm
   have := ha.1 n hm
   rcases hn.1 (.inr hm) with e | e
   ·omega
   ·exact e
  ·intro hm
   have := hb.1 n hm
   rcases hn.2 (.inr hm) with e | e
   ·omega
   ·exact e
theorem ris_filter {p : Nat → Bool} {l : List Nat} (h : Ris l) : Ris (l.filter p) := List.Pairwise.filter p h
theorem ris_range (n : Nat) : Ris (List.range n) := List.pairwise_lt_range
theorem ris_len {l : List Nat} {n : Nat} (h : Ris l) (hl : ∀ x ∈ l, x < n) : l.length ≤ n := by
 have : l = (List.range n).filter fun x => decide (x ∈ l) := ris_ext h (ris_filter (ris_range n)) fun x => by
  rw [List.mem_filter, List.mem_range, decide_eq_true_iff]
  exact ⟨fun e => ⟨hl x e, e⟩, fun e => e.2⟩
 rw [this]
 have := List.length_filter_le (fun x => decide (x ∈ l)) (List.range n)
 rwa [List.length_range] at this
def bitsOf (N n : Nat) : List Nat := (List.range n).filter fun i => N.testBit i
theorem mem_bits {N n i : Nat} : i ∈ bitsOf N n ↔ i < n ∧ N.testBit i = true := by
 unfold bitsOf
 rw [List.mem_filter, List.mem_range]
theorem ris_bits (N n : Nat) : Ris (bitsOf N n) := ris_filter (ris_range n)
def bsOf (l : List Nat) : Nat := l.foldl (fun w n => w ||| 2 ^ n) 0
theorem bs_fold (l : List Nat) : ∀ (w i : Nat), (l.foldl (fun w n => w ||| 2 ^ n) w).testBit i = (w.testBit i || decide (i ∈ l)) := by
 induction l with
 | nil => intro w i; simp
 | cons x l ih =>
  intro w i
  rw [List.foldl_cons, ih, Nat.testBit_or, Nat.testBit_two_pow, Bool.or_assoc]
  congr 1
  rw [Bool.eq_iff_iff]
  simp only [Bool.or_eq_true, decide_eq_true_eq, List.mem_cons]
  exact ⟨fun h => h.elim (fun e => .inl e.symm) .inr, fun h => h.elim (fun e => .inl e.symm) .inr⟩
theorem bs_bit (l : List Nat) (i : Nat) : (bsOf l).testBit i = decide (i ∈ l) := by
 unfold bsOf
 rw [bs_fold, Nat.zero_testBit, Bool.false_or]
theorem bits_bs {l : List Nat} {k : Nat} (hr : Ris l) (h : ∀ i ∈ l, i < k) : bitsOf (bsOf l) k = l := ris_ext (ris_bits _ _) hr fun n => by
 rw [mem_bits, bs_bit, decide_eq_true_iff]
 exact ⟨fun e => e.2, fun e => ⟨h n e, e⟩⟩
structure ClsN (g : Gr) (S : Nat → Prop) (W : Nat) : Prop where
 lt : ∀ i, W.testBit i = true → i < 549
 bit : ∀ n, W.testBit n = true ↔ InC g S n
theorem ClsN.ext {g : Gr} {S : Nat → Prop} {W W' : Nat} (h : ClsN g S W) (h' : ClsN g S W') : W = W' := Nat.eq_of_testBit_eq fun i => by
 rw [Bool.eq_iff_iff, h.bit, h'.bit]
theorem ClsN.of_list {g : Gr} (hg : GrOk g) (h60 : g.rules.length ≤ 60) {S : Nat → Prop} (hS : ∀ n, S n → IsN g n) {l : List Nat} (h : ∀ n, n ∈ l ↔ InC g S n) : ClsN g S (bsOf l) := ⟨fun i hi => ((h i).1 (by rw [bs_bit, decide_eq_true_iff] at hi; exact hi)).is hS |>.lt hg h60, fun n => by rw [bs_bit, decide_eq_true_iff, h]⟩
noncomputable def clsN (g : Gr) (S : Nat → Prop) : Nat := by
 classical
 exact bsOf ((List.range 549).filter fun n => decide (InC g S n))
theorem clsN_is {g : Gr} (hg : GrOk g) (h60 : g.rules.length ≤ 60) {S : Nat → Prop} (hS : ∀ n, S n → IsN g n) : ClsN g S (clsN g S) := by
 classical
 refine .of_list hg h60 hS fun n => ?_
 rw [List.mem_filter, List.mem_range, decide_eq_true_iff]
 exact ⟨fun e => e.2, fun e => ⟨(e.is hS).lt hg h60, e⟩⟩
def nextL (g : Gr) (c : List Nat) (s : Int) : List Nat := (c.filter fun n => decide (behN g n = some s)).map (· + 1)
def nextN (g : Gr) (c : List Nat) (s : Int) : Nat := bsOf (nextL g c s)
theorem mem_next {g : Gr} {c : List Nat} {s : Int} {i : Nat} : i ∈ nextL g c s ↔ ∃ n ∈ c, behN g n = some s ∧ i = n + 1 := by
 unfold nextL
 simp only [List.mem_map, List.mem_filter, decide_eq_true_eq]
 exact ⟨fun ⟨n, ⟨h1, h2⟩, h3⟩ => ⟨n, h1, h2, h3.symm⟩, fun ⟨n, h1, h2, h3⟩ => ⟨n, ⟨h1, h2⟩, h3.symm⟩⟩
theorem ris_next {g : Gr} {c : List Nat} {s : Int} (h : Ris c) : Ris (nextL g c s) := by
 unfold nextL Ris
 rw [List.pairwise_map]
 exact (ris_filter h).imp fun h => by omega
theorem next_is {g : Gr} (hg : GrOk g) {c : List Nat} {s : Int} {i : Nat} (h : i ∈ nextL g c s) : IsN g i := by
 obtain ⟨n, _, e, rfl⟩ := mem_next.1 h
 exact (next_item hg e).2.2
structure Acc where
 syms : List Int
 to : List Nat
 ks : List Nat
def stepS (g : Gr) (c : List Nat) (a : Acc) (s : Int) : Acc := if nextN g c s = 0 then a else ⟨a.syms ++ [s], a.to ++ [a.ks.idxOf (nextN g c s)], if nextN g c s ∈ a.ks then a.ks else a.ks ++ [nextN g c s]⟩
def symsA (g : Gr) : List Int := (List.range (g.kinds.toNat + g.names.toNat)).map fun i : Nat => (i : Int) - g.kinds
def leadP (g : Gr) (c ks : List Nat) : Acc := (symsA g).foldl (stepS g c) ⟨[], [], ks⟩
theorem steps_filter (g : Gr) (c : List Nat) : ∀ (l : List Int) (a : Acc), (l.filter fun s => decide (nextN g c s ≠ 0)).foldl (stepS g c) a = l.foldl (stepS g c) a
 | [], a => rfl
 | s :: l, a => by
  by_cases h : nextN g c s = 0
  ·rw [List.filter_cons, if_neg (by simp [h]), List.foldl_cons, steps_filter g c l]
   congr 1
   unfold stepS
   rw [if_pos h]
  ·rw [List.filter_cons, if_pos (by simp [h]), List.foldl_cons, List.foldl_cons, steps_filter g c l]
theorem step_pre (g : Gr) (c : List Nat) (a : Acc) (s : Int) : a.ks <+: (stepS g c a s).ks := by
 unfold stepS
 split
 ·exact List.prefix_refl _
 ·show a.ks <+: (if _ then _ else _)
  split
  ·exact List.prefix_refl _
  ·exact List.prefix_append _ _
theorem steps_pre (g : Gr) (c : List Nat) : ∀ (l : List Int) (a : Acc), a.ks <+: (l.foldl (stepS g c) a).ks
 | [], a => List.prefix_refl _
 | s :: l, a => (step_pre g c a s).trans (steps_pre g c l _)
abbrev StR := List Int × List Nat
noncomputable def stN (g : Gr) : Nat → List StR × List Nat
 | 0 => ([], [1])
 | n + 1 => match (stN g n).2[n]? with
  | none => stN g n
  | some k =>
   let a := leadP g (bitsOf (clsN g fun i => k.testBit i = true) 576) (stN g n).2
   ((stN g n).1 ++ [(a.syms, a.to)], a.ks)
theorem stN_succ {g : Gr} {n k : Nat} (h : (stN g n).2[n]? = some k) : stN g (n + 1) = ((stN g n).1 ++ [((leadP g (bitsOf (clsN g fun i => k.testBit i = true) 576) (stN g n).2).syms, (leadP g (bitsOf (clsN g fun i => k.testBit i = true) 576) (stN g n).2).to)], (leadP g (bitsOf (clsN g fun i => k.testBit i = true) 576) (stN g n).2).ks) := by
 rw [stN, h]
theorem stN_stop {g : Gr} {n : Nat} (h : (stN g n).2[n]? = none) : stN g (n + 1) = stN g n := by rw [stN, h]
theorem stN_pre (g : Gr) (n : Nat) : (stN g n).2 <+: (stN g (n + 1)).2 := by
 cases h : (stN g n).2[n]? with
 | none => rw [stN_stop h]; exact List.prefix_refl _
 | some k => rw [stN_succ h]; exact steps_pre g _ _ ⟨[], [], (stN g n).2⟩
theorem stN_mono (g : Gr) {n m : Nat} (h : n ≤ m) : (stN g n).2 <+: (stN g m).2 := by
 induction m with
 | zero => rw [Nat.le_zero.1 h]; exact List.prefix_refl _
 | succ m ih =>
  rcases Nat.lt_or_ge n (m + 1) with h' | h'
  ·exact (ih (by omega)).trans (stN_pre g m)
  ·rw [show n = m + 1 from by omega]; exact List.prefix_refl _
theorem stN_stays {g : Gr} {n : Nat} (h : (stN g n).2.length ≤ n) : ∀ d, stN g (n + d) = stN g n
 | 0 => rfl
 | d + 1 => by
  have ih := stN_stays h d
  rw [← Nat.add_assoc, stN_stop, ih]
  rw [ih]
  exact List.getElem?_eq_none (by omega)
theorem stN_len (g : Gr) : ∀ n, n ≤ (stN g n).2.length → (stN g n).1.length = n
 | 0, _ => rfl
 | n + 1, h => by
  cases hk : (stN g n).2[n]? with
  | none =>
   have := List.getElem?_eq_none_iff.1 hk
   rw [stN_stop hk] at h
   omega
  | some k =>
   have := (List.getElem?_eq_some_iff.1 hk).1
   rw [stN_succ hk, List.length_append, stN_len g n (by omega)]
   rfl
inductive StRes (g : Gr) : Option (List StR × List Nat) → Prop where
 | long {n : Nat} (h : 2000 < (stN g n).2.length) : StRes g none
 | all {n : Nat} (h : (stN g n).2.length = n) (k : n ≤ 2000) : StRes g (some (stN g n))
theorem StRes.ext {g : Gr} {a b : Option (List StR × List Nat)} (ha : StRes g a) (hb : StRes g b) : a = b := by
 have le : ∀ {n m : Nat}, (stN g n).2.length = n → (stN g m).2.length ≤ n := fun {n m} h => by
  rcases Nat.le_total m n with hm | hm
  ·have := (stN_mono g hm).length_le; omega
  ·rw [show m = n + (m - n) from by omega, stN_stays (by omega)]; omega
 cases ha with
 | @long n h =>
  cases hb with
  | long _ => rfl
  | @all m h' k =>
   have := le (m := n) h'
   omega
 | @all n h k =>
  cases hb with
  | @long m h' =>
   have := le (m := m) h
   omega
  | @all m h' k' =>
   have a1 := le (m := m) h
   have a2 := le (m := n) h'
   rw [show n = m from by omega]
end Go.Proofs.YtpdcahaggacacaaDoor.Ev
set_option linter.unusedSimpArgs false
set_option linter.unusedVariables false
namespace Go.Proofs.YtpdcahaggacacaaDoor.Ev
open Go
set_option maxRecDepth 100000
theorem wrap_u64 {n : Nat} (h : n < 18446744073709551616) : wrapF .u64 (n : Int) = (n : Int) := by
 rw [wrapF_eq]
 simp only [IntKind.wrap, IntKind.bits, IntKind.signed]
 simp
 omega
theorem fdiv_nat (a b : Nat) : (a : Int).fdiv (b : Int) = ((a / b : Nat) : Int) := by
 rw [Int.fdiv_eq_ediv_of_nonneg _ (by omega)]
 rfl
theorem shl_u64 (s : Nat) (h : s < 64) : binV .shl (.i .u64 1) (.i .i64 (s : Int)) = some (.i .u64 ((2 ^ s : Nat) : Int)) := by
 show (bif decide ((s : Int) < 0) then none else some (MV.i .u64 (wrapF .u64 (1 * ((2 ^ (min (s : Int).toNat 64) : Nat) : Int))))) = _
 rw [decide_eq_false (by omega), cond_false, show min (s : Int).toNat 64 = s from by omega, Int.one_mul, wrap_u64]
 exact Nat.lt_of_lt_of_le (Nat.pow_lt_pow_right (by omega) h) (by decide)
theorem and_lt {a b n : Nat} (h : b < n) : a &&& b < n := Nat.lt_of_le_of_lt Nat.and_le_right h
theorem bits_u64 {a b : Nat} (ha : a < 18446744073709551616) (hb : b < 18446744073709551616) : bitsF .and .u64 (a : Int) (b : Int) = ((a &&& b : Nat) : Int) ∧ bitsF .or .u64 (a : Int) (b : Int) = ((a ||| b : Nat) : Int) := by
 have e1 : (BitVec.ofInt IntKind.u64.bits (a : Int)).toNat = a := by
  rw [BitVec.ofInt_natCast, BitVec.toNat_ofNat]; exact Nat.mod_eq_of_lt ha
 have e2 : (BitVec.ofInt IntKind.u64.bits (b : Int)).toNat = b := by
  rw [BitVec.ofInt_natCast, BitVec.toNat_ofNat]; exact Nat.mod_eq_of_lt hb
 refine ⟨?_, ?_⟩
 ·show wrapF .u64 (((BitVec.ofInt IntKind.u64.bits (a : Int)) &&& (BitVec.ofInt IntKind.u64.bits (b : Int))).toNat : Int) = _
  rw [BitVec.toNat_and, e1, e2]
  exact wrap_u64 (and_lt hb)
 ·show wrapF .u64 (((BitVec.ofInt IntKind.u64.bits (a : Int)) ||| (BitVec.ofInt IntKind.u64.bits (b : Int))).toNat : Int) = _
  rw [BitVec.toNat_or, e1, e2]
  exact wrap_u64 (Nat.or_lt_two_pow (n := 64) ha hb)
theorem and_u64 {a b : Nat} (ha : a < 18446744073709551616) (hb : b < 18446744073709551616) : binV .and (.i .u64 (a : Int)) (.i .u64 (b : Int)) = some (.i .u64 ((a &&& b : Nat) : Int)) := by
 show (bif (IntKind.u64 == IntKind.u64) then some (MV.i .u64 (bitsF .and .u64 a b)) else none) = _
 rw [(bits_u64 ha hb).1]
 rfl
theorem or_u64 {a b : Nat} (ha : a < 18446744073709551616) (hb : b < 18446744073709551616) : binV .or (.i .u64 (a : Int)) (.i .u64 (b : Int)) = some (.i .u64 ((a ||| b : Nat) : Int)) := by
 show (bif (IntKind.u64 == IntKind.u64) then some (MV.i .u64 (bitsF .or .u64 a b)) else none) = _
 rw [(bits_u64 ha hb).2]
 rfl
structure Chg (S : Nat → Prop) (M M' : MH) : Prop where
 n : M.n ≤ M'.n
 lo : M'.lo = M.lo
 old : ∀ j, j < M.n → ¬ S j → M'.get j = M.get j
theorem Chg.refl (S : Nat → Prop) (M : MH) : Chg S M M := ⟨Nat.le_refl _, rfl, fun _ _ _ => rfl⟩
theorem Chg.trans {S : Nat → Prop} {a b c : MH} (h : Chg S a b) (k : Chg S b c) : Chg S a c := ⟨Nat.le_trans h.n k.n, k.lo.trans h.lo, fun j hj hs => (k.old j (Nat.lt_of_lt_of_le hj h.n) hs).trans (h.old j hj hs)⟩
theorem Chg.mono {S T : Nat → Prop} {a b : MH} (h : Chg S a b) (k : ∀ j, j < a.n → S j → T j) : Chg T a b := ⟨h.n, h.lo, fun j hj hs => h.old j hj fun hS => hs (k j hj hS)⟩
theorem Chg.of {S : Nat → Prop} {a b : MH} (h : Ext a b) : Chg S a b := ⟨h.n, h.lo, fun j hj _ => h.old j hj⟩
theorem Chg.set {S : Nat → Prop} {a b : MH} (h : Chg S a b) {id : Nat} (o : Option MO) (k : S id ∨ a.n ≤ id) : Chg S a (b.set id o) := ⟨h.n, h.lo, fun j hj hs => by
 rw [set_ne (by rcases k with k | k; exact fun e => hs (e ▸ k); omega)]; exact h.old j hj hs⟩
noncomputable def cNo (n off : Nat) : Option MO → Option MV
 | some (.cs _ _ c) => (getN c n off).map MV.ag
 | _ => none
noncomputable def cNV (M : MH) (n : Nat) : Option MV → Option MV
 | some (.p id off) => cNo n off (M.get id)
 | _ => none
theorem res_cN (f : Fr) (M : MH) (p : Ky) (n : Nat) : IRes.ev f M (.cN p n) = cNV M n (f.get p) := by
 unfold IRes.ev cNV
 simp only
 cases f.get p with
 | none => rfl
 | some v =>
  cases v <;> try rfl
  rename_i id off
  simp only
  unfold cNo
  cases M.get id with
  | none => rfl
  | some o =>
   cases o <;> try rfl
   simp only
   cases getN _ n off <;> rfl
theorem cNV_p (M : MH) (n id off : Nat) : cNV M n (some (.p id off)) = cNo n off (M.get id) := rfl
theorem cNo_cs (n off : Nat) (r : Bool) (s : Nat) (c : T MV) : cNo n off (some (.cs r s c)) = (getN c n off).map MV.ag := rfl
theorem get_set (p q : Ky) (m : MV) (f : Fr) : (T.set p (some m) f : Fr).get q = if p = q then some m else f.get q := T.get_set p (some m) f q

theorem neg_u64 {a : Nat} (h : 0 < a) (ha : a < 18446744073709551616) : unM .neg (.i .u64 (a : Int)) = some (.i .u64 ((18446744073709551616 - a : Nat) : Int)) := by
 show some (MV.i .u64 (wrapF .u64 (0 - (a : Int)))) = _
 rw [wrapF_eq]
 simp only [IntKind.wrap, IntKind.bits, IntKind.signed]
 simp
 omega
theorem shr_u64' (w : Nat) : binV .shr (.i .u64 (w : Int)) (.i .u64 58) = some (.i .u64 ((w / 2 ^ 58 : Nat) : Int)) := by
 show (bif decide ((58 : Int) < 0) then none else some (MV.i .u64 ((w : Int).fdiv ((2 ^ (min (58 : Int).toNat 64) : Nat) : Int)))) = _
 rw [show min (58 : Int).toNat 64 = 58 from by decide, fdiv_nat]
 rfl
theorem wrap_mul_u64 (a b : Nat) : wrapF .u64 ((a : Int) * (b : Int)) = ((a * b % 18446744073709551616 : Nat) : Int) := by
 rw [show (a : Int) * (b : Int) = ((a * b : Nat) : Int) from (Int.natCast_mul a b).symm, wrapF_eq]
 simp only [IntKind.wrap, IntKind.bits, IntKind.signed]
 simp
theorem wrap_sub_u64 {a b : Nat} (h : b ≤ a) (ha : a < 18446744073709551616) : wrapF .u64 ((a : Int) - (b : Int)) = ((a - b : Nat) : Int) := by
 rw [show (a : Int) - (b : Int) = ((a - b : Nat) : Int) from by omega, wrap_u64 (by omega)]
theorem low_form : ∀ {x : Nat}, 0 < x → ∃ j m, x = 2 ^ j * (2 * m + 1) := fun {x} => by
 induction x using Nat.strongRecOn with
 | _ x ih =>
  intro h
  by_cases e : x % 2 = 1
  ·exact ⟨0, x / 2, by omega⟩
  ·obtain ⟨j, m, e2⟩ := ih (x / 2) (by omega) (by omega)
   refine ⟨j + 1, m, ?_⟩
   rw [Nat.pow_succ, Nat.mul_comm (2 ^ j) 2, Nat.mul_assoc, ← e2]
   omega
theorem low_bit (j m i : Nat) : (2 ^ j * (2 * m + 1)).testBit i = if i < j then false else (2 * m + 1).testBit (i - j) := by
 have := Nat.testBit_two_pow_mul_add (2 * m + 1) (b := 0) (i := j) (Nat.two_pow_pos j) i
 rw [Nat.add_zero, Nat.zero_testBit] at this
 exact this
theorem low_pred (j m i : Nat) : (2 ^ j * (2 * m + 1) - 1).testBit i = if i < j then true else (2 * m).testBit (i - j) := by
 have hp := Nat.two_pow_pos j
 have := Nat.testBit_two_pow_mul_add (2 * m) (b := 2 ^ j - 1) (i := j) (by omega) i
 rw [show 2 ^ j * (2 * m) + (2 ^ j - 1) = 2 ^ j * (2 * m + 1) - 1 from by rw [Nat.mul_add, Nat.mul_one]; omega, Nat.testBit_two_pow_sub_one] at this
 rw [this]
 split
 ·rename_i h; exact decide_eq_true h
 ·rfl
theorem odd_bit (m i : Nat) : (2 * m + 1).testBit (i + 1) = (2 * m).testBit (i + 1) := by
 rw [Nat.testBit_succ, Nat.testBit_succ, show (2 * m + 1) / 2 = m from by omega, show 2 * m / 2 = m from by omega]
theorem even_zero (m : Nat) : (2 * m).testBit 0 = false := by simp
theorem odd_zero (m : Nat) : (2 * m + 1).testBit 0 = true := by simp
theorem and_neg {j m : Nat} (h : 2 ^ j * (2 * m + 1) < 2 ^ 64) : (2 ^ j * (2 * m + 1)) &&& (2 ^ 64 - 2 ^ j * (2 * m + 1)) = 2 ^ j := Nat.eq_of_testBit_eq fun i => by
 have hp := Nat.two_pow_pos j
 have hpos : 0 < 2 ^ j * (2 * m + 1) := Nat.mul_pos hp (by omega)
 have e : 2 ^ 64 - 2 ^ j * (2 * m + 1) = 2 ^ 64 - ((2 ^ j * (2 * m + 1) - 1) + 1) := by omega
 have hj : j < 64 := by
  refine (Nat.pow_lt_pow_iff_right (a := 2) (by omega)).1 (Nat.lt_of_le_of_lt ?_ h)
  exact Nat.le_mul_of_pos_right _ (by omega)
 rw [Nat.testBit_and, e, Nat.testBit_two_pow_sub_succ (by omega), Nat.testBit_two_pow, low_bit, low_pred]
 by_cases h1 : i < j
 ·rw [if_pos h1, if_pos h1, Bool.false_and, decide_eq_false (by omega)]
 ·rw [if_neg h1, if_neg h1]
  by_cases h2 : i = j
  ·subst h2
   rw [Nat.sub_self, odd_zero, even_zero, decide_eq_true hj, decide_eq_true rfl]
   rfl
  ·obtain ⟨d, hd⟩ : ∃ d, i - j = d + 1 := ⟨i - j - 1, by omega⟩
   rw [hd, odd_bit, decide_eq_false (show ¬ j = i from fun e' => h2 e'.symm)]
   cases (2 * m).testBit (d + 1) <;> simp
theorem and_pred (j m : Nat) : (2 ^ j * (2 * m + 1)) &&& (2 ^ j * (2 * m + 1) - 1) = 2 ^ j * (2 * m) := Nat.eq_of_testBit_eq fun i => by
 rw [Nat.testBit_and, low_bit, low_pred]
 have := Nat.testBit_two_pow_mul_add (2 * m) (b := 0) (i := j) (Nat.two_pow_pos j) i
 rw [Nat.add_zero, Nat.zero_testBit] at this
 rw [this]
 by_cases h1 : i < j
 ·rw [if_pos h1, if_pos h1, if_pos h1]; rfl
 ·rw [if_neg h1, if_neg h1, if_neg h1]
  by_cases h2 : i = j
  ·subst h2
   rw [Nat.sub_self, even_zero, Bool.and_false]
  ·obtain ⟨d, hd⟩ : ∃ d, i - j = d + 1 := ⟨i - j - 1, by omega⟩
   rw [hd, odd_bit, Bool.and_self]
def bitsU (x : Nat) : List Int := ((List.range 64).filter x.testBit).map Int.ofNat
theorem filter_low {p q : Nat → Bool} {j : Nat} (hp : ∀ i, p i = (decide (i = j) || q i)) (hq : ∀ i, q i = true → j < i) : ∀ n, j < n → (List.range n).filter p = j :: (List.range n).filter q
 | 0, h => by omega
 | n + 1, h => by
  rw [List.range_succ, List.filter_append, List.filter_append]
  have hqj : ∀ i, i ≤ j → q i = false := fun i hi => by
   cases e : q i with
   | false => rfl
   | true => have := hq i e; omega
  by_cases e : j = n
  ·subst e
   have h1 : (List.range j).filter p = [] := List.filter_eq_nil_iff.2 fun i hi => by
    have := List.mem_range.1 hi
    rw [hp, decide_eq_false (by omega), hqj i (by omega)]; simp
   have h2 : (List.range j).filter q = [] := List.filter_eq_nil_iff.2 fun i hi => by
    have := List.mem_range.1 hi
    rw [hqj i (by omega)]; simp
   rw [h1, h2]
   simp [hp, hqj j (Nat.le_refl _)]
  ·rw [filter_low hp hq n (by omega)]
   have : p n = q n := by rw [hp, decide_eq_false (by omega), Bool.false_or]
   simp [List.filter_cons, this]
theorem bitsU_low {j m : Nat} (hj : j < 64) : bitsU (2 ^ j * (2 * m + 1)) = (j : Int) :: bitsU (2 ^ j * (2 * m)) := by
 unfold bitsU
 have hb : ∀ i, (2 ^ j * (2 * m)).testBit i = if i < j then false else (2 * m).testBit (i - j) := fun i => by
  have := Nat.testBit_two_pow_mul_add (2 * m) (b := 0) (i := j) (Nat.two_pow_pos j) i
  rw [Nat.add_zero, Nat.zero_testBit] at this
  exact this
 rw [filter_low (q := (2 ^ j * (2 * m)).testBit) (j := j) (fun i => ?_) (fun i hi => ?_) 64 hj]
 ·rfl
 ·rw [low_bit, hb]
  by_cases h1 : i < j
  ·rw [if_pos h1, if_pos h1, decide_eq_false (by omega)]; rfl
  ·rw [if_neg h1, if_neg h1]
   by_cases h2 : i = j
   ·subst h2; rw [Nat.sub_self, odd_zero, decide_eq_true rfl]; rfl
   ·obtain ⟨d, hd⟩ : ∃ d, i - j = d + 1 := ⟨i - j - 1, by omega⟩
    rw [hd, odd_bit, decide_eq_false h2, Bool.false_or]
 ·rw [hb] at hi
  by_cases h1 : i < j
  ·rw [if_pos h1] at hi; cases hi
  ·rw [if_neg h1] at hi
   by_cases h2 : i = j
   ·subst h2; rw [Nat.sub_self, even_zero] at hi; cases hi
   ·omega
theorem bitsU_zero : bitsU 0 = [] := by
 unfold bitsU
 rw [List.filter_eq_nil_iff.2 fun i _ => by rw [Nat.zero_testBit]; simp]
 rfl
theorem tab_low : ∀ j : Nat, j < 64 → tabZ[(2 ^ j * 285870213051353865 % 18446744073709551616) / 2 ^ 58]? = some (j : Int) := by
 decide +kernel
end Go.Proofs.YtpdcahaggacacaaDoor.Ev
set_option linter.unusedSimpArgs false
set_option linter.unusedVariables false
namespace Go.Proofs.YtpdcahaggacacaaDoor.Ev
open Go
inductive Rch (g : Gr) : Nat → Prop
 | start : Rch g g.start.toNat
 | step (r : Int × List Int × Int) (hr : r ∈ g.rules) (h : Rch g r.1.toNat) (s : Int) (hs : s ∈ r.2.1) (h0 : 0 ≤ s) : Rch g s.toNat
def RchSound (g : Gr) (l : List Bool) : Prop := ∀ a, l[a]? = some true → Rch g a
def RchHas (l : List Bool) (r : List Int) : Prop := ∀ s ∈ r, 0 ≤ s → l[s.toNat]? = some true
def RchClosed (l : List Bool) (rs : List (Int × List Int × Int)) : Prop := ∀ r ∈ rs, l[r.1.toNat]? = some true → RchHas l r.2.1
def RchVec (g : Gr) (l : List Bool) : Prop := l.length = g.names.toNat ∧ ∀ a, l[a]? = some true ↔ Rch g a
theorem rch_all {g : Gr} {l : List Bool} (h0 : l[g.start.toNat]? = some true) (h : RchClosed l g.rules) {a : Nat} (ha : Rch g a) : l[a]? = some true := by
 induction ha with
 | start => exact h0
 | step r hr _ s hs h0 ih => exact h r hr ih s hs h0
theorem rch_vec {g : Gr} {l : List Bool} (hl : l.length = g.names.toNat) (hs : RchSound g l) (h0 : l[g.start.toNat]? = some true) (hc : RchClosed l g.rules) : RchVec g l := ⟨hl, fun a => ⟨hs a, rch_all h0 hc⟩⟩
theorem vec_ext {a b : List Bool} {P : Nat → Prop} (hl : a.length = b.length) (ha : ∀ i, a[i]? = some true ↔ P i) (hb : ∀ i, b[i]? = some true ↔ P i) : a = b := by
 refine List.ext_getElem hl fun i h1 h2 => ?_
 have e1 := ha i
 have e2 := hb i
 rw [List.getElem?_eq_getElem h1] at e1
 rw [List.getElem?_eq_getElem h2] at e2
 have e := e1.trans e2.symm
 cases hx : a[i] <;> cases hy : b[i] <;> simp_all
theorem set_true {l : List Bool} {i a : Nat} (h : l[a]? = some true) : (l.set i true)[a]? = some true := by
 rw [List.getElem?_set]
 split
 ·rename_i e
  subst e
  rw [if_pos (List.getElem?_eq_some_iff.1 h).1]
 ·exact h
theorem set_here {l : List Bool} {i : Nat} (h : i < l.length) : (l.set i true)[i]? = some true := by
 rw [List.getElem?_set, if_pos rfl, if_pos h]
theorem RchSound.set {g : Gr} {l : List Bool} (h : RchSound g l) {i : Nat} (hi : Rch g i) : RchSound g (l.set i true) := fun a e => by
 rw [List.getElem?_set] at e
 split at e
 ·rename_i e1; subst e1; exact hi
 ·exact h a e
end Go.Proofs.YtpdcahaggacacaaDoor.Ev
set_option linter.unusedSimpArgs false
set_option linter.unusedVariables false
namespace Go.Proofs.YtpdcahaggacacaaDoor.Ev
open Go
def bAt (l : List Bool) (i : Nat) : Bool := l.getD i false
theorem bAt_some {l : List Bool} {i : Nat} {b : Bool} (h : l[i]? = some b) : bAt l i = b := by unfold bAt; rw [List.getD_eq_getElem?_getD, h]; rfl
theorem bAt_at {l : List Bool} {i : Nat} (h : i < l.length) : l[i]? = some (bAt l i) := by
 unfold bAt
 rw [List.getD_eq_getElem?_getD, List.getElem?_eq_getElem h]
 rfl
theorem bAt_set {l : List Bool} {i j : Nat} {x : Bool} (h : i < l.length) : bAt (l.set i x) j = if i = j then x else bAt l j := by
 unfold bAt
 rw [List.getD_eq_getElem?_getD, List.getD_eq_getElem?_getD, List.getElem?_set]
 by_cases e : i = j
 ·subst e; simp [h]
 ·simp [e]
def BRow (M : MH) (v : MV) (l : List Bool) : Prop := RowAt M 1 v (l.map fun b => [.b b])
theorem BRow.ext {M M' : MH} {v : MV} {l : List Bool} (h : BRow M v l) (k : Ext M M') : BRow M' v l := RowAt.ext h k
theorem BRow.sl {M : MH} {v : MV} {l : List Bool} (h : BRow M v l) : isSl v = true ∧ slen v = l.length := by
 obtain ⟨a, b⟩ := RowAt.sl h
 exact ⟨a, by rw [b, List.length_map]⟩
theorem BRow.read {M : MH} {v : MV} {l : List Bool} (h : BRow M v l) {i : Nat} (hi : i < l.length) : ∃ ro s c, M.get (sid v) = some (.cs ro s c) ∧ sid v < M.n ∧ cget c (soff v + i * 1) = some (.b (bAt l i)) := by
 obtain ⟨ro, s, c, h1, h2, h3⟩ := RowAt.read h (i := i) (e := [.b (bAt l i)]) (by rw [List.getElem?_map, bAt_at hi]; rfl)
 exact ⟨ro, s, c, h1, h2, h3 0 _ rfl⟩
def begV (null : List Bool) (F : List (List Bool)) : List Int → Nat → Bool
 | [], t => false
 | s :: l, t => if s < 0 then decide (t = (-1 - s).toNat) else bAt (F.getD s.toNat []) t || (bAt null s.toNat && begV null F l t)
end Go.Proofs.YtpdcahaggacacaaDoor.Ev
set_option linter.unusedSimpArgs false
set_option linter.unusedVariables false
namespace Go.Proofs.YtpdcahaggacacaaDoor.Ev
open Go
noncomputable def idK {α : Type} (h : T α) (id : Nat) : Option α := h.get (path id)
noncomputable def mkT (l : List (Nat × IFn)) : T IFn := List.rec (motive := fun _ => T IFn) .lf (fun x _ ih => T.set (path x.1) (some x.2) ih) l
theorem mkT_get : ∀ (l : List (Nat × IFn)) (g : Nat) (fn : IFn), (mkT l).get (path g) = some fn → (g, fn) ∈ l
 | [], g, fn, h => by cases (T.get_lf (α := IFn) (path g)).symm.trans h
 | (n, F) :: l, g, fn, h => by
  have e : mkT ((n, F) :: l) = T.set (path n) (some F) (mkT l) := rfl
  rw [e, T.get_set] at h
  by_cases hp : path n = path g
  ·rw [if_pos hp] at h
   injection h with h
   rw [← h, path_inj hp]
   exact List.mem_cons_self
  ·rw [if_neg hp] at h
   exact List.mem_cons_of_mem _ (mkT_get l g fn h)
theorem fits_of {P : Program} {l : List (Nat × IFn)} {t : T IFn} (ht : t = mkT l) (h : ∀ x ∈ l, FitsF P x.1 x.2) : ∀ g fn, idK t g = some fn → FitsF P g fn := fun g fn e => by
 subst ht
 unfold idK at e
 exact h (g, fn) (mkT_get l g fn e)
def q0 : Ky := .k1 .d0
def q1 : Ky := .k1 .d1
def q2 : Ky := .k1 .d2
def q3 : Ky := .k1 .d3
def q4 : Ky := .k1 .d4
def q5 : Ky := .k1 .d5
def q6 : Ky := .k1 .d6
def q7 : Ky := .k1 .d7
def q8 : Ky := .k1 .d8
def q9 : Ky := .k1 .d9
def q10 : Ky := .k1 .d10
def q11 : Ky := .k1 .d11
def q12 : Ky := .k1 .d12
def q13 : Ky := .k1 .d13
def q14 : Ky := .k1 .d14
def q15 : Ky := .k1 .d15
def q16 : Ky := .k2 .d1 .d0
def q17 : Ky := .k2 .d1 .d1
def q18 : Ky := .k2 .d1 .d2
def q19 : Ky := .k2 .d1 .d3
def q20 : Ky := .k2 .d1 .d4
def q21 : Ky := .k2 .d1 .d5
def q22 : Ky := .k2 .d1 .d6
def q23 : Ky := .k2 .d1 .d7
def q24 : Ky := .k2 .d1 .d8
def q25 : Ky := .k2 .d1 .d9
def q26 : Ky := .k2 .d1 .d10
def q27 : Ky := .k2 .d1 .d11
def q28 : Ky := .k2 .d1 .d12
def q29 : Ky := .k2 .d1 .d13
def q30 : Ky := .k2 .d1 .d14
def q31 : Ky := .k2 .d1 .d15
def q32 : Ky := .k2 .d2 .d0
def q33 : Ky := .k2 .d2 .d1
def q34 : Ky := .k2 .d2 .d2
def q35 : Ky := .k2 .d2 .d3
def q36 : Ky := .k2 .d2 .d4
def q37 : Ky := .k2 .d2 .d5
def q38 : Ky := .k2 .d2 .d6
def q39 : Ky := .k2 .d2 .d7
def q40 : Ky := .k2 .d2 .d8
def q41 : Ky := .k2 .d2 .d9
def q42 : Ky := .k2 .d2 .d10
def q43 : Ky := .k2 .d2 .d11
def q44 : Ky := .k2 .d2 .d12
def q45 : Ky := .k2 .d2 .d13
def q46 : Ky := .k2 .d2 .d14
def q47 : Ky := .k2 .d2 .d15
def q48 : Ky := .k2 .d3 .d0
def q49 : Ky := .k2 .d3 .d1
def q50 : Ky := .k2 .d3 .d2
def q51 : Ky := .k2 .d3 .d3
def q52 : Ky := .k2 .d3 .d4
def q53 : Ky := .k2 .d3 .d5
def q54 : Ky := .k2 .d3 .d6
def q55 : Ky := .k2 .d3 .d7
def q56 : Ky := .k2 .d3 .d8
def q57 : Ky := .k2 .d3 .d9
def q58 : Ky := .k2 .d3 .d10
def q59 : Ky := .k2 .d3 .d11
def q60 : Ky := .k2 .d3 .d12
def q61 : Ky := .k2 .d3 .d13
def q62 : Ky := .k2 .d3 .d14
def q63 : Ky := .k2 .d3 .d15
def q64 : Ky := .k2 .d4 .d0
def q65 : Ky := .k2 .d4 .d1
def q66 : Ky := .k2 .d4 .d2
def q67 : Ky := .k2 .d4 .d3
def q68 : Ky := .k2 .d4 .d4
def q69 : Ky := .k2 .d4 .d5
def q70 : Ky := .k2 .d4 .d6
def q71 : Ky := .k2 .d4 .d7
def q72 : Ky := .k2 .d4 .d8
def q73 : Ky := .k2 .d4 .d9
def q74 : Ky := .k2 .d4 .d10
def q75 : Ky := .k2 .d4 .d11
def q76 : Ky := .k2 .d4 .d12
def q77 : Ky := .k2 .d4 .d13
def q78 : Ky := .k2 .d4 .d14
def q79 : Ky := .k2 .d4 .d15
def q80 : Ky := .k2 .d5 .d0
def q81 : Ky := .k2 .d5 .d1
def q82 : Ky := .k2 .d5 .d2
def q83 : Ky := .k2 .d5 .d3
def q84 : Ky := .k2 .d5 .d4
def q85 : Ky := .k2 .d5 .d5
def q86 : Ky := .k2 .d5 .d6
def q87 : Ky := .k2 .d5 .d7
def q88 : Ky := .k2 .d5 .d8
def q89 : Ky := .k2 .d5 .d9
def q90 : Ky := .k2 .d5 .d10
def q91 : Ky := .k2 .d5 .d11
def q92 : Ky := .k2 .d5 .d12
def q93 : Ky := .k2 .d5 .d13
def q94 : Ky := .k2 .d5 .d14
def q95 : Ky := .k2 .d5 .d15
def q96 : Ky := .k2 .d6 .d0
def q97 : Ky := .k2 .d6 .d1
def q98 : Ky := .k2 .d6 .d2
def q99 : Ky := .k2 .d6 .d3
def q100 : Ky := .k2 .d6 .d4
def q101 : Ky := .k2 .d6 .d5
def q102 : Ky := .k2 .d6 .d6
def q103 : Ky := .k2 .d6 .d7
def q104 : Ky := .k2 .d6 .d8
def q105 : Ky := .k2 .d6 .d9
def q106 : Ky := .k2 .d6 .d10
def q107 : Ky := .k2 .d6 .d11
def q108 : Ky := .k2 .d6 .d12
def q109 : Ky := .k2 .d6 .d13
def q110 : Ky := .k2 .d6 .d14
def q111 : Ky := .k2 .d6 .d15
def q112 : Ky := .k2 .d7 .d0
def q113 : Ky := .k2 .d7 .d1
def q114 : Ky := .k2 .d7 .d2
def q115 : Ky := .k2 .d7 .d3
def q116 : Ky := .k2 .d7 .d4
def q117 : Ky := .k2 .d7 .d5
def q118 : Ky := .k2 .d7 .d6
def q119 : Ky := .k2 .d7 .d7
def q120 : Ky := .k2 .d7 .d8
def q121 : Ky := .k2 .d7 .d9
def q122 : Ky := .k2 .d7 .d10
def q123 : Ky := .k2 .d7 .d11
def q124 : Ky := .k2 .d7 .d12
def q125 : Ky := .k2 .d7 .d13
def q126 : Ky := .k2 .d7 .d14
def q127 : Ky := .k2 .d7 .d15
def q128 : Ky := .k2 .d8 .d0
def q129 : Ky := .k2 .d8 .d1
def q130 : Ky := .k2 .d8 .d2
def q131 : Ky := .k2 .d8 .d3
def q132 : Ky := .k2 .d8 .d4
def q133 : Ky := .k2 .d8 .d5
def q134 : Ky := .k2 .d8 .d6
def q135 : Ky := .k2 .d8 .d7
def q136 : Ky := .k2 .d8 .d8
def q137 : Ky := .k2 .d8 .d9
def q138 : Ky := .k2 .d8 .d10
def q139 : Ky := .k2 .d8 .d11
def q140 : Ky := .k2 .d8 .d12
def q141 : Ky := .k2 .d8 .d13
def q142 : Ky := .k2 .d8 .d14
def q143 : Ky := .k2 .d8 .d15
def q144 : Ky := .k2 .d9 .d0
def q145 : Ky := .k2 .d9 .d1
def q146 : Ky := .k2 .d9 .d2
def q147 : Ky := .k2 .d9 .d3
def q148 : Ky := .k2 .d9 .d4
def q149 : Ky := .k2 .d9 .d5
def q150 : Ky := .k2 .d9 .d6
def q151 : Ky := .k2 .d9 .d7
def q152 : Ky := .k2 .d9 .d8
def q153 : Ky := .k2 .d9 .d9
def q154 : Ky := .k2 .d9 .d10
def q155 : Ky := .k2 .d9 .d11
def q156 : Ky := .k2 .d9 .d12
def q157 : Ky := .k2 .d9 .d13
def q158 : Ky := .k2 .d9 .d14
def q159 : Ky := .k2 .d9 .d15
def q160 : Ky := .k2 .d10 .d0
def q161 : Ky := .k2 .d10 .d1
def q162 : Ky := .k2 .d10 .d2
def q163 : Ky := .k2 .d10 .d3
def q164 : Ky := .k2 .d10 .d4
def q165 : Ky := .k2 .d10 .d5
def q166 : Ky := .k2 .d10 .d6
def q167 : Ky := .k2 .d10 .d7
def q168 : Ky := .k2 .d10 .d8
def q169 : Ky := .k2 .d10 .d9
def q170 : Ky := .k2 .d10 .d10
def q171 : Ky := .k2 .d10 .d11
def q172 : Ky := .k2 .d10 .d12
def q173 : Ky := .k2 .d10 .d13
def q174 : Ky := .k2 .d10 .d14
def q175 : Ky := .k2 .d10 .d15
def q176 : Ky := .k2 .d11 .d0
def q177 : Ky := .k2 .d11 .d1
def q178 : Ky := .k2 .d11 .d2
def q179 : Ky := .k2 .d11 .d3
def q180 : Ky := .k2 .d11 .d4
def q181 : Ky := .k2 .d11 .d5
def q182 : Ky := .k2 .d11 .d6
def q183 : Ky := .k2 .d11 .d7
def q184 : Ky := .k2 .d11 .d8
def q185 : Ky := .k2 .d11 .d9
def q186 : Ky := .k2 .d11 .d10
def q187 : Ky := .k2 .d11 .d11
def q188 : Ky := .k2 .d11 .d12
def q189 : Ky := .k2 .d11 .d13
def q190 : Ky := .k2 .d11 .d14
def q191 : Ky := .k2 .d11 .d15
def q192 : Ky := .k2 .d12 .d0
def q193 : Ky := .k2 .d12 .d1
def q194 : Ky := .k2 .d12 .d2
def q195 : Ky := .k2 .d12 .d3
def q196 : Ky := .k2 .d12 .d4
def q197 : Ky := .k2 .d12 .d5
def q198 : Ky := .k2 .d12 .d6
def q199 : Ky := .k2 .d12 .d7
def q200 : Ky := .k2 .d12 .d8
def q201 : Ky := .k2 .d12 .d9
def q202 : Ky := .k2 .d12 .d10
def q203 : Ky := .k2 .d12 .d11
def q204 : Ky := .k2 .d12 .d12
def q205 : Ky := .k2 .d12 .d13
def q206 : Ky := .k2 .d12 .d14
def q207 : Ky := .k2 .d12 .d15
def q208 : Ky := .k2 .d13 .d0
def q209 : Ky := .k2 .d13 .d1
def q210 : Ky := .k2 .d13 .d2
def q211 : Ky := .k2 .d13 .d3
def q212 : Ky := .k2 .d13 .d4
def q213 : Ky := .k2 .d13 .d5
def q214 : Ky := .k2 .d13 .d6
def q215 : Ky := .k2 .d13 .d7
def q216 : Ky := .k2 .d13 .d8
def q217 : Ky := .k2 .d13 .d9
def q218 : Ky := .k2 .d13 .d10
def q219 : Ky := .k2 .d13 .d11
def q220 : Ky := .k2 .d13 .d12
def q221 : Ky := .k2 .d13 .d13
def q222 : Ky := .k2 .d13 .d14
def q223 : Ky := .k2 .d13 .d15
def q224 : Ky := .k2 .d14 .d0
def q225 : Ky := .k2 .d14 .d1
def q226 : Ky := .k2 .d14 .d2
def q227 : Ky := .k2 .d14 .d3
def q228 : Ky := .k2 .d14 .d4
def q229 : Ky := .k2 .d14 .d5
end Go.Proofs.YtpdcahaggacacaaDoor.Ev
set_option maxRecDepth 100000
namespace Go.Proofs.YtpdcahaggacacaaDoor.K
open Go Ev
abbrev oO (d : Ky) (i : Iop) : IOper := ⟨some d, none, i⟩
abbrev oM (d s : Ky) : IOper := ⟨some d, none, .mov (.t s)⟩
abbrev oG (d c : Ky) (b : Bool) (i : Iop) : IOper := ⟨some d, some (c, b), i⟩
def K4_0 : IC := .seq (.reg [oO q24 (.ldN 7 (.t q1)), oO q25 (.call 11 [.t q24]), oM q23 q25, oO q26 (.ext (.t q23) 0), oO q27 (.ext (.t q23) 1), oM q4 q26, oM q5 q27]) (.seq (.reg [oO q29 (.ldN 7 (.t q1)), oO q30 (.call 12 [.t q29]), oM q28 q30, oO q31 (.ext (.t q28) 0), oO q32 (.ext (.t q28) 1), oM q6 q31, oM q7 q32]) (.seq (.reg [oM q33 q4, oM q34 q6, oO q35 (.call 13 [.t q33, .t q34]), oM q36 q35, oG q37 q36 true (.mov (.t q5)), oG q38 q36 true (.call 14 [.t q37]), oG q39 q36 true (.mov (.t q7)), oG q40 q36 true (.binI .eql (.t q38) (.t q39)), oO q41 (.pick (.t q36) (.t q40) (.c (.b false))), oM q2 q41]) .ret))
def B4 : IC := .seq (.reg [oO q1 (.box (.t q0)), oO q2 (.mov (.c (.b false)))]) (.seq (.reg [oO q8 (.call 6 []), oM q3 q8]) (.seq (.seq (.reg [oM q9 q3, oO q10 (.un .not (.t q9)), oM q11 q10, oG q12 q11 false (.ldN 7 (.t q1)), oG q13 q11 false (.call 7 [.t q12]), oG q14 q11 false (.un .not (.t q13)), oO q15 (.pick (.t q11) (.c (.b true)) (.t q14)), oM q16 q15, oG q17 q16 false (.fa 3 (.t q1)), oG q18 q16 false (.ld1 (.t q17)), oG q19 q16 false (.len (.t q18)), oG q20 q16 false (.binI .gtr (.t q19) (.c (.i .i64 16))), oO q21 (.pick (.t q16) (.c (.b true)) (.t q20))]) (.cond (.t q21) (.seq (.reg [oM q22 q3, oM q2 q22]) .ret) .skip)) K4_0))
def F4 : IFn := ⟨42, [.tmp q2], B4⟩
theorem R4 : F4.res = [.tmp q2] := rfl
theorem fits4 : FitsF Tryd.prog 4 F4 := cmpF_fits (pol := fun _ => false) Tryd.func4 (by kernel_rfl)
def B6 : IC := .seq (.reg [oO q0 (.mov (.c (.b false)))]) (.seq (.reg [oO q4 (.bsl 1 1 [.i .i64 0] [(0, 1, .c (.i .i64 (.negSucc 0)))]), oO q5 (.build [.i .i64 0, .nils, .i .i64 0] [(1, 1, .t q4)]), oO q6 (.bsl 3 1 [.i .i64 0, .nils, .i .i64 0] [(0, 3, .t q5)]), oO q7 (.build [.i .i64 0, .i .i64 0, .i .i64 0, .nils, .nils, .nils, .nils] [(0, 1, .c (.i .i64 1)), (1, 1, .c (.i .i64 1)), (3, 1, .t q6)]), oO q8 (.call 11 [.t q7]), oM q3 q8, oO q9 (.ext (.t q3) 0), oO q10 (.ext (.t q3) 1), oM q1 q9, oM q2 q10]) (.seq (.reg [oO q11 (.build [.i .i64 0, .i .i64 0, .i .i64 0, .nils, .nils, .nils, .nils] []), oO q12 (.call 9 [.t q11, .c .nils]), oO q13 (.len (.t q12)), oO q14 (.binI .eql (.t q13) (.c (.i .i64 0))), oM q15 q14, oG q16 q15 true (.mov (.t q2)), oG q17 q15 true (.call 14 [.t q16]), oG q18 q15 true (.binI .eql (.t q17) (.c (.i .i64 0))), oO q19 (.pick (.t q15) (.t q18) (.c (.b false))), oM q20 q19, oG q21 q20 true (.mov (.t q1)), oG q22 q20 true (.len (.t q21)), oG q23 q20 true (.binI .eql (.t q22) (.c (.i .i64 3))), oO q24 (.pick (.t q20) (.t q23) (.c (.b false))), oM q25 q24, oG q26 q25 true (.mov (.t q1)), oG q27 q25 true (.ixS 3 (.t q26) (.c (.i .i64 0))), oG q28 q25 true (.fa 1 (.t q27)), oG q29 q25 true (.ld1 (.t q28)), oG q30 q25 true (.len (.t q29)), oG q31 q25 true (.binI .eql (.t q30) (.c (.i .i64 2))), oO q32 (.pick (.t q25) (.t q31) (.c (.b false))), oM q0 q32]) .ret))
def F6 : IFn := ⟨33, [.tmp q0], B6⟩
theorem fits6 : FitsF Tryd.prog 6 F6 := cmpF_fits (pol := fun _ => false) Tryd.func6 (by kernel_rfl)
def B7 : IC := .seq (.reg [oO q1 (.box (.t q0)), oO q2 (.mov (.c (.b false)))]) (.seq (.reg [oO q3 (.fa 3 (.t q1)), oO q4 (.ld1 (.t q3)), oO q5 (.len (.t q4)), oO q6 (.binI .leq (.t q5) (.c (.i .i64 70))), oM q7 q6, oG q8 q7 true (.fa 4 (.t q1)), oG q9 q7 true (.ld1 (.t q8)), oG q10 q7 true (.len (.t q9)), oG q11 q7 true (.binI .leq (.t q10) (.c (.i .i64 250))), oO q12 (.pick (.t q7) (.t q11) (.c (.b false))), oM q13 q12, oG q14 q13 true (.fa 5 (.t q1)), oG q15 q13 true (.ld1 (.t q14)), oG q16 q13 true (.len (.t q15)), oG q17 q13 true (.binI .leq (.t q16) (.c (.i .i64 100))), oO q18 (.pick (.t q13) (.t q17) (.c (.b false))), oM q19 q18, oG q20 q19 true (.fa 6 (.t q1)), oG q21 q19 true (.ld1 (.t q20)), oG q22 q19 true (.len (.t q21)), oG q23 q19 true (.binI .leq (.t q22) (.c (.i .i64 100))), oO q24 (.pick (.t q19) (.t q23) (.c (.b false))), oM q2 q24]) .ret)
def F7 : IFn := ⟨25, [.tmp q2], B7⟩
theorem R7 : F7.res = [.tmp q2] := rfl
theorem fits7 : FitsF Tryd.prog 7 F7 := cmpF_fits (pol := fun _ => false) Tryd.func7 (by kernel_rfl)
def K8_0 : IC := .cond (.t q25) (.seq (.reg [oO q4 (.mov (.c (.b false)))]) .ret) .skip
def K8_1 : IC := .reg [oM q15 q5, oO q16 (.binI .add (.t q15) (.c (.i .i64 1))), oM q5 q16]
def K8_2 : IC := .seq (.block 1 (.seq (.dreg 0 [(oM q17 q0, .pu), (oM q18 q5, .pu), (oO q19 (.ixS 2 (.t q17) (.t q18)), .pu), (oO q20 (.ldN 2 (.t q19)), .rd 0), (oM q21 q1, .pu), (oM q22 q5, .pu), (oO q23 (.ixS 2 (.t q21) (.t q22)), .pu), (oO q24 (.ldN 2 (.t q23)), .rd 0)] [oO q25 (.pu2 (.eqA 2 true) (.t q20) (.t q24))] []) K8_0)) K8_1
def L8_3 : IC := .seq (.seq (.reg [oM q11 q5, oM q12 q0, oO q13 (.len (.t q12)), oO q14 (.binI .lss (.t q11) (.t q13))]) (.cond (.t q14) .skip (.exit 0))) K8_2
def K8_4 : IC := .seq (.reg [oO q4 (.mov (.c (.b true)))]) .ret
def K8_5 : IC := .seq (.seq (.reg [oO q5 (.mov (.c (.i .i64 0)))]) (.block 0 (.loop L8_3))) K8_4
def B8 : IC := .seq (.reg [oO q4 (.mov (.c (.b false)))]) (.seq (.seq (.reg [oM q6 q0, oO q7 (.len (.t q6)), oM q8 q1, oO q9 (.len (.t q8)), oO q10 (.binI .neq (.t q7) (.t q9))]) (.cond (.t q10) (.seq (.reg [oO q4 (.mov (.c (.b false)))]) .ret) .skip)) K8_5)
def F8 : IFn := ⟨26, [.tmp q4], B8⟩
theorem R8 : F8.res = [.tmp q4] := rfl
theorem fits8 : FitsF Tryd.prog 8 F8 := cmpF_fits (pol := fun _ => false) Tryd.func8 (by kernel_rfl)
def K9_0 : IC := .reg [oO q22 (.binI .add (.t q13) (.c (.i .i64 1))), oM q13 q22]
def K9_1 : IC := .seq (.block 1 (.seq (.reg [oO q15 (.ixS 2 (.t q11) (.t q13)), oO q16 (.ldN 2 (.t q15)), oO q7 (.new [.i .i64 0, .i .i64 0]), ⟨none, none, .st 2 (.t q7) (.t q16)⟩]) (.seq (.reg [oO q17 (.ldN 7 (.t q2)), oO q18 (.ldN 2 (.t q7)), oO q19 (.call 16 [.t q17, .t q18])]) (.cond (.t q19) (.reg [oO q20 (.ldN 2 (.t q7)), oO q21 (.call 17 [.t q5, .t q20])]) .skip)))) K9_0
def L9_2 : IC := .seq (.reg [oO q14 (.binI .lss (.t q13) (.t q12))]) (.seq (.cond (.t q14) .skip (.exit 0)) K9_1)
def K9_3 : IC := .seq (.reg [oO q23 (.ldN 7 (.t q2)), oO q24 (.ldN 9 (.t q5)), oO q25 (.call 18 [.t q23, .t q24]), oO q26 (.call 19 [.t q25]), oM q4 q26]) .ret
def K9_4 : IC := .seq (.reg [oO q5 (.new [.i .u64 0, .i .u64 0, .i .u64 0, .i .u64 0, .i .u64 0, .i .u64 0, .i .u64 0, .i .u64 0, .i .u64 0])]) (.seq (.seq (.reg [oM q11 q1, oO q12 (.len (.t q11)), oO q13 (.mov (.c (.i .i64 0)))]) (.block 0 (.loop L9_2))) K9_3)
def B9 : IC := .seq (.reg [oO q2 (.box (.t q0)), oO q4 (.mov (.c .nils))]) (.seq (.seq (.reg [oO q8 (.ldN 7 (.t q2)), oO q9 (.call 15 [.t q8]), oO q10 (.un .not (.t q9))]) (.cond (.t q10) (.seq (.reg [oO q4 (.mov (.c .nils))]) .ret) .skip)) K9_4)
def F9 : IFn := ⟨27, [.tmp q4], B9⟩
theorem R9 : F9.res = [.tmp q4] := rfl
theorem fits9 : FitsF Tryd.prog 9 F9 := cmpF_fits (pol := fun _ => false) Tryd.func9 (by kernel_rfl)
def K10_0 : IC := .cond (.t q27) (.reg [oM q28 q6, oM q29 q1, oM q30 q7, oO q31 (.ixS 2 (.t q29) (.t q30)), oO q32 (.ldN 2 (.t q31)), oO q33 (.bsl 2 1 [.i .i64 0, .i .i64 0] [(0, 2, .t q32)]), oO q34 (.app 2 16 (.t q28) (.t q33)), oM q6 q34]) .skip
def K10_1 : IC := .reg [oM q20 q7, oO q21 (.binI .add (.t q20) (.c (.i .i64 1))), oM q7 q21]
def K10_2 : IC := .seq (.block 1 (.seq (.dreg 0 [(oO q22 (.ldN 7 (.t q2)), .rd 0), (oM q23 q1, .pu), (oM q24 q7, .pu), (oO q25 (.ixS 2 (.t q23) (.t q24)), .pu), (oO q26 (.ldN 2 (.t q25)), .rd 0)] [oO q27 (.call 21 [.t q22, .t q26])] []) K10_0)) K10_1
def L10_3 : IC := .seq (.seq (.reg [oM q16 q7, oM q17 q1, oO q18 (.len (.t q17)), oO q19 (.binI .lss (.t q16) (.t q18))]) (.cond (.t q19) .skip (.exit 0))) K10_2
def K10_4 : IC := .reg [oM q71 q12, oO q72 (.binI .add (.t q71) (.c (.i .i64 1))), oM q12 q72]
def K10_5 : IC := .seq (.block 5 (.seq (.reg [oO q73 (.fa 3 (.t q2)), oO q74 (.ld1 (.t q73)), oM q75 q12, oO q76 (.ixS 3 (.t q74) (.t q75)), oO q77 (.fa 0 (.t q76)), oO q78 (.ld1 (.t q77)), oM q79 q10, oO q80 (.binI .eql (.t q78) (.t q79))]) (.cond (.t q80) (.reg [oM q81 q6, oM q82 q12, oO q83 (.build [.i .i64 0, .i .i64 0] [(0, 1, .t q82)]), oO q84 (.bsl 2 1 [.i .i64 0, .i .i64 0] [(0, 2, .t q83)]), oO q85 (.app 2 16 (.t q81) (.t q84)), oM q6 q85]) .skip))) K10_4
def L10_6 : IC := .seq (.seq (.reg [oM q66 q12, oO q67 (.fa 3 (.t q2)), oO q68 (.ld1 (.t q67)), oO q69 (.len (.t q68)), oO q70 (.binI .lss (.t q66) (.t q69))]) (.cond (.t q70) .skip (.exit 4))) K10_5
def K10_7 : IC := .seq (.reg [oO q12 (.mov (.c (.i .i64 0)))]) (.block 4 (.loop L10_6))
def K10_8 : IC := .block 3 (.seq (.reg [oM q38 q6, oO q39 (.ixS 2 (.t q38) (.c (.i .i64 0))), oO q40 (.ldN 2 (.t q39)), oO q8 (.new [.i .i64 0, .i .i64 0]), ⟨none, none, .st 2 (.t q8) (.t q40)⟩]) (.seq (.reg [oM q41 q6, oO q42 (.cut 2 (.t q41) (some (.c (.i .i64 1))) none), oM q6 q42]) (.seq (.reg [oM q43 q5, oO q44 (.len (.t q43)), oM q9 q44]) (.seq (.reg [oM q45 q5, oO q46 (.ldN 2 (.t q8)), oO q47 (.call 22 [.t q45, .t q46]), oM q5 q47]) (.seq (.reg [oO q49 (.ldN 7 (.t q2)), oO q50 (.ldN 2 (.t q8)), oO q51 (.call 23 [.t q49, .t q50]), oM q48 q51, oO q52 (.ext (.t q48) 0), oO q53 (.ext (.t q48) 1), oM q10 q52, oM q11 q53]) (.seq (.seq (.reg [oM q54 q5, oO q55 (.len (.t q54)), oM q56 q9, oO q57 (.binI .eql (.t q55) (.t q56)), oM q58 q57, oG q59 q58 false (.mov (.t q11)), oG q60 q58 false (.un .not (.t q59)), oO q61 (.pick (.t q58) (.c (.b true)) (.t q60)), oM q62 q61, oG q63 q62 false (.mov (.t q10)), oG q64 q62 false (.binI .lss (.t q63) (.c (.i .i64 0))), oO q65 (.pick (.t q62) (.c (.b true)) (.t q64))]) (.cond (.t q65) (.exit 3) .skip)) K10_7))))))
def L10_9 : IC := .seq (.seq (.reg [oM q35 q6, oO q36 (.len (.t q35)), oO q37 (.binI .gtr (.t q36) (.c (.i .i64 0)))]) (.cond (.t q37) .skip (.exit 2))) K10_8
def K10_10 : IC := .seq (.reg [oM q86 q5, oM q4 q86]) .ret
def K10_11 : IC := .seq (.reg [oO q5 (.mov (.c .nils)), oO q6 (.mov (.c .nils))]) (.seq (.seq (.reg [oO q7 (.mov (.c (.i .i64 0)))]) (.block 0 (.loop L10_3))) (.seq (.block 2 (.loop L10_9)) K10_10))
def B10 : IC := .seq (.reg [oO q2 (.box (.t q0)), oO q4 (.mov (.c .nils))]) (.seq (.seq (.reg [oO q13 (.ldN 7 (.t q2)), oO q14 (.call 20 [.t q13]), oO q15 (.un .not (.t q14))]) (.cond (.t q15) (.seq (.reg [oO q4 (.mov (.c .nils))]) .ret) .skip)) K10_11)
def F10 : IFn := ⟨87, [.tmp q4], B10⟩
theorem R10 : F10.res = [.tmp q4] := rfl
theorem fits10 : FitsF Tryd.prog 10 F10 := cmpF_fits (pol := fun _ => false) Tryd.func10 (by kernel_rfl)
def K11_0 : IC := .reg [oM q29 q8, oO q30 (.binI .add (.t q29) (.c (.i .i64 1))), oM q8 q30]
def K11_1 : IC := .seq (.block 1 (.seq (.reg [oM q31 q8, oO q32 (.call 26 [.t q7, .t q31])]) (.seq (.reg [oO q33 (.fa 7 (.t q7)), oO q34 (.ld1 (.t q33)), oO q35 (.len (.t q34)), oO q36 (.binI .gtr (.t q35) (.c (.i .i64 2000)))]) (.cond (.t q36) (.seq (.reg [oO q2 (.mov (.c .nils)), oO q3 (.mov (.c (.i .i64 3)))]) .ret) .skip)))) K11_0
def L11_2 : IC := .seq (.seq (.reg [oM q24 q8, oO q25 (.fa 7 (.t q7)), oO q26 (.ld1 (.t q25)), oO q27 (.len (.t q26)), oO q28 (.binI .lss (.t q24) (.t q27))]) (.cond (.t q28) .skip (.exit 0))) K11_1
def K11_3 : IC := .seq (.reg [oO q37 (.fa 8 (.t q7)), oO q38 (.ld1 (.t q37)), oM q2 q38, oO q3 (.mov (.c (.i .i64 0)))]) .ret
def K11_4 : IC := .seq (.reg [oO q6 (.new [.i .u64 0, .i .u64 0, .i .u64 0, .i .u64 0, .i .u64 0, .i .u64 0, .i .u64 0, .i .u64 0, .i .u64 0])]) (.seq (.reg [oO q17 (.build [.i .i64 0, .i .i64 0] [(0, 1, .c (.i .i64 (.negSucc 0)))]), oO q18 (.call 17 [.t q6, .t q17])]) (.seq (.reg [oO q19 (.ldN 7 (.t q1)), oO q20 (.mkm), oO q21 (.build [.i .i64 0, .i .i64 0, .i .i64 0, .nils, .nils, .nils, .nils, .nils, .nils, .nilm] [(0, 7, .t q19), (9, 1, .t q20)]), oO q7 (.new [.i .i64 0, .i .i64 0, .i .i64 0, .nils, .nils, .nils, .nils, .nils, .nils, .nilm]), ⟨none, none, .st 10 (.t q7) (.t q21)⟩]) (.seq (.reg [oO q22 (.ldN 9 (.t q6)), oO q23 (.call 25 [.t q7, .t q22])]) (.seq (.seq (.reg [oO q8 (.mov (.c (.i .i64 0)))]) (.block 0 (.loop L11_2))) K11_3))))
def B11 : IC := .seq (.reg [oO q1 (.box (.t q0)), oO q2 (.mov (.c .nils)), oO q3 (.mov (.c (.i .i64 0)))]) (.seq (.seq (.reg [oO q10 (.ldN 7 (.t q1)), oO q11 (.call 24 [.t q10]), oM q9 q11, oO q12 (.ext (.t q9) 0), oO q13 (.ext (.t q9) 1), oM q4 q12, oM q5 q13]) (.seq (.reg [oM q14 q5, oO q15 (.binI .neq (.t q14) (.c (.i .i64 0)))]) (.cond (.t q15) (.seq (.reg [oM q16 q5, oO q2 (.mov (.c .nils)), oM q3 q16]) .ret) .skip))) K11_4)
def F11 : IFn := ⟨39, [.tmp q2, .tmp q3], B11⟩
theorem R11 : F11.res = [.tmp q2, .tmp q3] := rfl
theorem fits11 : FitsF Tryd.prog 11 F11 := cmpF_fits (pol := fun _ => false) Tryd.func11 (by kernel_rfl)
def K12_0 : IC := .seq (.reg [oM q66 q14, oM q67 q66, oG q68 q67 true (.mov (.t q13)), oG q69 q67 true (.mov (.t q9)), oG q70 q67 true (.mov (.t q10)), oG q71 q67 true (.ixS 1 (.t q69) (.t q70)), oG q72 q67 true (.ld1 (.t q71)), oG q73 q67 true (.binI .eql (.t q68) (.t q72)), oO q74 (.pick (.t q67) (.t q73) (.c (.b false)))]) (.cond (.t q74) (.dreg 0 [(oM q75 q11, .pu), (oM q76 q8, .pu), (oM q77 q12, .pu), (oO q78 (.ixS 2 (.t q76) (.t q77)), .pu), (oO q79 (.fa 0 (.t q78)), .pu), (oO q80 (.ld1 (.t q79)), .rd 0), (oM q81 q8, .pu), (oM q82 q12, .pu), (oO q83 (.ixS 2 (.t q81) (.t q82)), .pu), (oO q84 (.fa 1 (.t q83)), .pu), (oO q85 (.ld1 (.t q84)), .rd 0), (oO q86 (.binI .add (.t q85) (.c (.i .i64 1))), .pu), (oO q87 (.build [.i .i64 0, .i .i64 0] [(0, 1, .t q80), (1, 1, .t q86)]), .pu)] [oO q88 (.call 22 [.t q75, .t q87]), oM q11 q88] []) .skip)
def K12_1 : IC := .reg [oM q55 q12, oO q56 (.binI .add (.t q55) (.c (.i .i64 1))), oM q12 q56]
def K12_2 : IC := .seq (.block 5 (.seq (.dreg 0 [(oO q58 (.ldN 7 (.t q1)), .rd 0), (oM q59 q8, .pu), (oM q60 q12, .pu), (oO q61 (.ixS 2 (.t q59) (.t q60)), .pu), (oO q62 (.ldN 2 (.t q61)), .rd 0), (oO q63 (.call 23 [.t q58, .t q62]), .md), (oM q57 q63, .pu), (oO q64 (.ext (.t q57) 0), .pu), (oO q65 (.ext (.t q57) 1), .pu), (oM q13 q64, .pu)] [oM q14 q65] []) K12_0)) K12_1
def L12_3 : IC := .seq (.seq (.reg [oM q51 q12, oM q52 q8, oO q53 (.len (.t q52)), oO q54 (.binI .lss (.t q51) (.t q53))]) (.cond (.t q54) .skip (.exit 4))) K12_2
def K12_4 : IC := .reg [oM q97 q16, oO q98 (.binI .add (.t q97) (.c (.i .i64 1))), oM q16 q98]
def K12_5 : IC := .seq (.block 7 (.seq (.reg [oM q99 q6, oM q100 q16, oO q101 (.ixS 3 (.t q99) (.t q100)), oO q102 (.fa 0 (.t q101)), oO q103 (.ld1 (.t q102)), oM q104 q11, oO q105 (.call 8 [.t q103, .t q104])]) (.cond (.t q105) (.reg [oM q106 q16, oM q15 q106]) .skip))) K12_4
def L12_6 : IC := .seq (.seq (.reg [oM q89 q16, oM q90 q6, oO q91 (.len (.t q90)), oO q92 (.binI .lss (.t q89) (.t q91)), oM q93 q92, oG q94 q93 true (.mov (.t q15)), oG q95 q93 true (.binI .lss (.t q94) (.c (.i .i64 0))), oO q96 (.pick (.t q93) (.t q95) (.c (.b false)))]) (.cond (.t q96) .skip (.exit 6))) K12_5
def K12_7 : IC := .seq (.reg [oM q112 q6, oO q113 (.len (.t q112)), oM q15 q113]) (.reg [oM q114 q6, oM q115 q11, oO q116 (.build [.nils, .nils, .nils] [(0, 1, .t q115)]), oO q117 (.bsl 3 1 [.nils, .nils, .nils] [(0, 3, .t q116)]), oO q118 (.app 3 72 (.t q114) (.t q117)), oM q6 q118])
def K12_8 : IC := .reg [oM q134 q6, oM q135 q7, oM q136 q6, oM q137 q7, oO q138 (.ixS 3 (.t q136) (.t q137)), oO q139 (.fa 2 (.t q138)), oO q140 (.ld1 (.t q139)), oM q141 q15, oO q142 (.bsl 1 1 [.i .i64 0] [(0, 1, .t q141)]), oO q143 (.app 1 8 (.t q140) (.t q142)), oO q144 (.ixS 3 (.t q134) (.t q135)), oO q145 (.fa 2 (.t q144)), ⟨none, none, .st 1 (.t q145) (.t q143)⟩]
def K12_9 : IC := .seq (.dreg 0 [(oM q119 q6, .pu), (oM q120 q7, .pu), (oM q121 q6, .pu), (oM q122 q7, .pu), (oO q123 (.ixS 3 (.t q121) (.t q122)), .pu), (oO q124 (.fa 1 (.t q123)), .pu), (oO q125 (.ld1 (.t q124)), .rd 0), (oM q126 q9, .pu), (oM q127 q10, .pu), (oO q128 (.ixS 1 (.t q126) (.t q127)), .pu), (oO q129 (.ld1 (.t q128)), .rd 0), (oO q130 (.bsl 1 1 [.i .i64 0] [(0, 1, .t q129)]), .ad), (oO q131 (.app 1 8 (.t q125) (.t q130)), .md)] [oO q132 (.ixS 3 (.t q119) (.t q120)), oO q133 (.fa 1 (.t q132)), ⟨none, none, .st 1 (.t q133) (.t q131)⟩] []) K12_8
def K12_10 : IC := .seq (.seq (.reg [oM q107 q15, oO q108 (.binI .lss (.t q107) (.c (.i .i64 0)))]) (.cond (.t q108) (.seq (.seq (.reg [oM q109 q6, oO q110 (.len (.t q109)), oO q111 (.binI .geq (.t q110) (.c (.i .i64 2000)))]) (.cond (.t q111) (.seq (.reg [oO q2 (.mov (.c .nils)), oO q3 (.mov (.c (.i .i64 3)))]) .ret) .skip)) K12_7) .skip)) K12_9
def K12_11 : IC := .seq (.reg [oO q15 (.mov (.c (.i .i64 (.negSucc 0))))]) (.seq (.seq (.reg [oO q16 (.mov (.c (.i .i64 0)))]) (.block 6 (.loop L12_6))) K12_10)
def K12_12 : IC := .reg [oM q49 q10, oO q50 (.binI .add (.t q49) (.c (.i .i64 1))), oM q10 q50]
def K12_13 : IC := .seq (.block 3 (.seq (.reg [oO q11 (.mov (.c .nils))]) (.seq (.seq (.reg [oO q12 (.mov (.c (.i .i64 0)))]) (.block 4 (.loop L12_3))) K12_11))) K12_12
def L12_14 : IC := .seq (.seq (.reg [oM q45 q10, oM q46 q9, oO q47 (.len (.t q46)), oO q48 (.binI .lss (.t q45) (.t q47))]) (.cond (.t q48) .skip (.exit 2))) K12_13
def K12_15 : IC := .seq (.reg [oO q42 (.ldN 7 (.t q1)), oM q43 q8, oO q44 (.call 28 [.t q42, .t q43]), oM q9 q44]) (.seq (.reg [oO q10 (.mov (.c (.i .i64 0)))]) (.block 2 (.loop L12_14)))
def K12_16 : IC := .reg [oM q33 q7, oO q34 (.binI .add (.t q33) (.c (.i .i64 1))), oM q7 q34]
def K12_17 : IC := .seq (.block 1 (.seq (.dreg 0 [(oO q35 (.ldN 7 (.t q1)), .rd 0), (oM q36 q6, .pu), (oM q37 q7, .pu), (oO q38 (.ixS 3 (.t q36) (.t q37)), .pu), (oO q39 (.fa 0 (.t q38)), .pu), (oO q40 (.ld1 (.t q39)), .rd 0)] [oO q41 (.call 10 [.t q35, .t q40]), oM q8 q41] []) K12_15)) K12_16
def L12_18 : IC := .seq (.seq (.reg [oM q29 q7, oM q30 q6, oO q31 (.len (.t q30)), oO q32 (.binI .lss (.t q29) (.t q31))]) (.cond (.t q32) .skip (.exit 0))) K12_17
def K12_19 : IC := .seq (.reg [oM q146 q6, oM q2 q146, oO q3 (.mov (.c (.i .i64 0)))]) .ret
def K12_20 : IC := .seq (.reg [oO q25 (.build [.i .i64 0, .i .i64 0] [(0, 1, .c (.i .i64 (.negSucc 0)))]), oO q26 (.bsl 2 1 [.i .i64 0, .i .i64 0] [(0, 2, .t q25)]), oO q27 (.build [.nils, .nils, .nils] [(0, 1, .t q26)]), oO q28 (.bsl 3 1 [.nils, .nils, .nils] [(0, 3, .t q27)]), oM q6 q28]) (.seq (.seq (.reg [oO q7 (.mov (.c (.i .i64 0)))]) (.block 0 (.loop L12_18))) K12_19)
def B12 : IC := .seq (.reg [oO q1 (.box (.t q0)), oO q2 (.mov (.c .nils)), oO q3 (.mov (.c (.i .i64 0)))]) (.seq (.reg [oO q18 (.ldN 7 (.t q1)), oO q19 (.call 27 [.t q18]), oM q17 q19, oO q20 (.ext (.t q17) 0), oO q21 (.ext (.t q17) 1), oM q4 q20, oM q5 q21]) (.seq (.seq (.reg [oM q22 q5, oO q23 (.binI .neq (.t q22) (.c (.i .i64 0)))]) (.cond (.t q23) (.seq (.reg [oM q24 q5, oO q2 (.mov (.c .nils)), oM q3 q24]) .ret) .skip)) K12_20))
def F12 : IFn := ⟨147, [.tmp q2, .tmp q3], B12⟩
theorem R12 : F12.res = [.tmp q2, .tmp q3] := rfl
theorem fits12 : FitsF Tryd.prog 12 F12 := cmpF_fits (pol := fun _ => false) Tryd.func12 (by kernel_rfl)
def K13_0 : IC := .cond (.t q56) (.seq (.reg [oO q4 (.mov (.c (.b false)))]) .ret) .skip
def K13_1 : IC := .reg [oM q15 q5, oO q16 (.binI .add (.t q15) (.c (.i .i64 1))), oM q5 q16]
def K13_2 : IC := .seq (.block 1 (.seq (.dreg 0 [(oM q17 q0, .pu), (oM q18 q5, .pu), (oO q19 (.ixS 3 (.t q17) (.t q18)), .pu), (oO q20 (.fa 0 (.t q19)), .pu), (oO q21 (.ld1 (.t q20)), .rd 0), (oM q22 q1, .pu), (oM q23 q5, .pu), (oO q24 (.ixS 3 (.t q22) (.t q23)), .pu), (oO q25 (.fa 0 (.t q24)), .pu), (oO q26 (.ld1 (.t q25)), .rd 0), (oO q27 (.call 8 [.t q21, .t q26]), .md), (oO q28 (.un .not (.t q27)), .pu), (oM q29 q28, .pu), (oG q30 q29 false (.mov (.t q0)), .pu), (oG q31 q29 false (.mov (.t q5)), .pu), (oG q32 q29 false (.ixS 3 (.t q30) (.t q31)), .pu), (oG q33 q29 false (.fa 1 (.t q32)), .pu), (oG q34 q29 false (.ld1 (.t q33)), .rd 0), (oG q35 q29 false (.mov (.t q1)), .pu), (oG q36 q29 false (.mov (.t q5)), .pu), (oG q37 q29 false (.ixS 3 (.t q35) (.t q36)), .pu), (oG q38 q29 false (.fa 1 (.t q37)), .pu), (oG q39 q29 false (.ld1 (.t q38)), .rd 0), (oG q40 q29 false (.call 29 [.t q34, .t q39]), .md), (oG q41 q29 false (.un .not (.t q40)), .pu), (oO q42 (.pick (.t q29) (.c (.b true)) (.t q41)), .pu), (oM q43 q42, .pu), (oG q44 q43 false (.mov (.t q0)), .pu), (oG q45 q43 false (.mov (.t q5)), .pu), (oG q46 q43 false (.ixS 3 (.t q44) (.t q45)), .pu), (oG q47 q43 false (.fa 2 (.t q46)), .pu), (oG q48 q43 false (.ld1 (.t q47)), .rd 0), (oG q49 q43 false (.mov (.t q1)), .pu), (oG q50 q43 false (.mov (.t q5)), .pu), (oG q51 q43 false (.ixS 3 (.t q49) (.t q50)), .pu), (oG q52 q43 false (.fa 2 (.t q51)), .pu), (oG q53 q43 false (.ld1 (.t q52)), .rd 0)] [oG q54 q43 false (.call 29 [.t q48, .t q53]), oG q55 q43 false (.un .not (.t q54)), oO q56 (.pick (.t q43) (.c (.b true)) (.t q55))] []) K13_0)) K13_1
def L13_3 : IC := .seq (.seq (.reg [oM q11 q5, oM q12 q0, oO q13 (.len (.t q12)), oO q14 (.binI .lss (.t q11) (.t q13))]) (.cond (.t q14) .skip (.exit 0))) K13_2
def K13_4 : IC := .seq (.reg [oO q4 (.mov (.c (.b true)))]) .ret
def K13_5 : IC := .seq (.seq (.reg [oO q5 (.mov (.c (.i .i64 0)))]) (.block 0 (.loop L13_3))) K13_4
def B13 : IC := .seq (.reg [oO q4 (.mov (.c (.b false)))]) (.seq (.seq (.reg [oM q6 q0, oO q7 (.len (.t q6)), oM q8 q1, oO q9 (.len (.t q8)), oO q10 (.binI .neq (.t q7) (.t q9))]) (.cond (.t q10) (.seq (.reg [oO q4 (.mov (.c (.b false)))]) .ret) .skip)) K13_5)
def F13 : IFn := ⟨57, [.tmp q4], B13⟩
theorem R13 : F13.res = [.tmp q4] := rfl
theorem fits13 : FitsF Tryd.prog 13 F13 := cmpF_fits (pol := fun _ => false) Tryd.func13 (by kernel_rfl)
def B14 : IC := .seq (.reg [oO q2 (.mov (.c (.i .i64 0)))]) (.seq (.reg [oM q3 q0, oM q2 q3]) .ret)
def F14 : IFn := ⟨4, [.tmp q2], B14⟩
theorem R14 : F14.res = [.tmp q2] := rfl
theorem fits14 : FitsF Tryd.prog 14 F14 := cmpF_fits (pol := fun _ => false) Tryd.func14 (by kernel_rfl)
def B15 : IC := .seq (.reg [oO q1 (.box (.t q0)), oO q2 (.mov (.c (.b false)))]) (.seq (.reg [oO q6 (.ldN 7 (.t q1)), oO q7 (.call 30 [.t q6]), oM q5 q7, oO q8 (.ext (.t q5) 0), oO q9 (.ext (.t q5) 1), oM q3 q8, oM q4 q9]) (.seq (.reg [oM q10 q4, oO q11 (.binI .eql (.t q10) (.c (.i .i64 0))), oM q2 q11]) .ret))
def F15 : IFn := ⟨12, [.tmp q2], B15⟩
theorem R15 : F15.res = [.tmp q2] := rfl
theorem fits15 : FitsF Tryd.prog 15 F15 := cmpF_fits (pol := fun _ => false) Tryd.func15 (by kernel_rfl)
def B16 : IC := .seq (.reg [oO q2 (.box (.t q0)), oO q3 (.box (.t q1)), oO q4 (.mov (.c (.b false)))]) (.seq (.dreg 0 [(oO q5 (.fa 0 (.t q3)), .pu), (oO q6 (.ld1 (.t q5)), .rd 0), (oO q7 (.binI .geq (.t q6) (.c (.i .i64 (.negSucc 0)))), .pu), (oM q8 q7, .pu), (oG q9 q8 true (.fa 0 (.t q3)), .pu), (oG q10 q8 true (.ld1 (.t q9)), .rd 0), (oG q11 q8 true (.fa 3 (.t q2)), .pu), (oG q12 q8 true (.ld1 (.t q11)), .rd 0), (oG q13 q8 true (.len (.t q12)), .pu), (oG q14 q8 true (.binI .lss (.t q10) (.t q13)), .pu), (oO q15 (.pick (.t q8) (.t q14) (.c (.b false))), .pu), (oM q16 q15, .pu), (oG q17 q16 true (.fa 1 (.t q3)), .pu), (oG q18 q16 true (.ld1 (.t q17)), .rd 0), (oG q19 q16 true (.binI .geq (.t q18) (.c (.i .i64 0))), .pu), (oO q20 (.pick (.t q16) (.t q19) (.c (.b false))), .pu), (oM q21 q20, .pu), (oG q22 q21 true (.fa 1 (.t q3)), .pu), (oG q23 q21 true (.ld1 (.t q22)), .rd 0), (oG q24 q21 true (.ldN 7 (.t q2)), .rd 0), (oG q25 q21 true (.fa 0 (.t q3)), .pu), (oG q26 q21 true (.ld1 (.t q25)), .rd 0), (oG q27 q21 true (.call 31 [.t q24, .t q26]), .ad), (oG q28 q21 true (.len (.t q27)), .pu)] [oG q29 q21 true (.binI .leq (.t q23) (.t q28)), oO q30 (.pick (.t q21) (.t q29) (.c (.b false))), oM q4 q30] []) .ret)
def F16 : IFn := ⟨31, [.tmp q4], B16⟩
theorem R16 : F16.res = [.tmp q4] := rfl
theorem fits16 : FitsF Tryd.prog 16 F16 := cmpF_fits (pol := fun _ => false) Tryd.func16 (by kernel_rfl)
def B17 : IC := .seq (.reg [oO q3 (.box (.t q1))]) (.seq (.reg [oO q5 (.fa 0 (.t q3)), oO q6 (.ld1 (.t q5)), oO q7 (.binI .sub (.t q6) (.c (.i .i64 (.negSucc 0)))), oO q8 (.binI .mul (.t q7) (.c (.i .i64 9))), oO q9 (.fa 1 (.t q3)), oO q10 (.ld1 (.t q9)), oO q11 (.binI .add (.t q8) (.t q10)), oM q4 q11]) (.dreg 0 [(oM q12 q0, .pu), (oM q13 q4, .pu), (oO q14 (.binI .quo (.t q13) (.c (.i .i64 64))), .pu), (oO q15 (.nck (.t q12)), .pu), (oO q16 (.ixA 9 1 (.t q15) (.t q14)), .pu), (oO q17 (.ld1 (.t q16)), .rd 0), (oM q18 q4, .pu), (oO q19 (.binI .rem (.t q18) (.c (.i .i64 64))), .pu), (oO q20 (.binI .shl (.c (.i .u64 1)) (.t q19)), .pu), (oO q21 (.binI .or (.t q17) (.t q20)), .pu), (oO q22 (.nck (.t q12)), .pu)] [oO q23 (.ixA 9 1 (.t q22) (.t q14)), ⟨none, none, .st 1 (.t q23) (.t q21)⟩] []))
def F17 : IFn := ⟨24, [], B17⟩
theorem R17 : F17.res = [] := rfl
theorem fits17 : FitsF Tryd.prog 17 F17 := cmpF_fits (pol := fun _ => false) Tryd.func17 (by kernel_rfl)
def K18_0 : IC := .reg [oO q68 (.binI .add (.t q51) (.c (.i .i64 1))), oM q51 q68]
def K18_1 : IC := .seq (.block 3 (.seq (.reg [oM q53 q51, oO q54 (.ixS 3 (.t q49) (.t q51)), oO q55 (.ldN 3 (.t q54)), oO q11 (.new [.i .i64 0, .nils, .i .i64 0]), oM q10 q53, ⟨none, none, .st 3 (.t q11) (.t q55)⟩]) (.seq (.reg [oO q56 (.fa 0 (.t q11)), oO q57 (.ld1 (.t q56)), oM q58 q8, oO q59 (.binI .eql (.t q57) (.t q58))]) (.cond (.t q59) (.seq (.reg [oM q60 q10, oO q61 (.build [.i .i64 0, .i .i64 0] [(0, 1, .t q60)]), oO q12 (.new [.i .i64 0, .i .i64 0]), ⟨none, none, .st 2 (.t q12) (.t q61)⟩]) (.seq (.reg [oO q62 (.ldN 2 (.t q12)), oO q63 (.call 17 [.t q3, .t q62])]) (.reg [oM q64 q6, oO q65 (.ldN 2 (.t q12)), oO q66 (.bsl 2 1 [.i .i64 0, .i .i64 0] [(0, 2, .t q65)]), oO q67 (.app 2 16 (.t q64) (.t q66)), oM q6 q67]))) .skip)))) K18_0
def L18_2 : IC := .seq (.reg [oO q52 (.binI .lss (.t q51) (.t q50))]) (.seq (.cond (.t q52) .skip (.exit 2)) K18_1)
def K18_3 : IC := .seq (.reg [oM q46 q8, oO q47 (.ixA 40 1 (.t q5) (.t q46)), ⟨none, none, .st 1 (.t q47) (.c (.b true))⟩]) (.seq (.reg [oO q48 (.fa 3 (.t q2)), oO q49 (.ld1 (.t q48)), oO q50 (.len (.t q49)), oO q51 (.mov (.c (.i .i64 0)))]) (.block 2 (.loop L18_2)))
def K18_4 : IC := .block 1 (.seq (.reg [oM q18 q6, oM q19 q6, oO q20 (.len (.t q19)), oO q21 (.binI .sub (.t q20) (.c (.i .i64 1))), oO q22 (.ixS 2 (.t q18) (.t q21)), oO q23 (.ldN 2 (.t q22)), oO q7 (.new [.i .i64 0, .i .i64 0]), ⟨none, none, .st 2 (.t q7) (.t q23)⟩]) (.seq (.reg [oM q24 q6, oM q25 q6, oO q26 (.len (.t q25)), oO q27 (.binI .sub (.t q26) (.c (.i .i64 1))), oO q28 (.cut 2 (.t q24) none (some (.t q27))), oM q6 q28]) (.seq (.reg [oO q30 (.ldN 7 (.t q2)), oO q31 (.ldN 2 (.t q7)), oO q32 (.call 32 [.t q30, .t q31]), oM q29 q32, oO q33 (.ext (.t q29) 0), oO q34 (.ext (.t q29) 1), oM q8 q33, oM q9 q34]) (.seq (.seq (.reg [oM q35 q9, oO q36 (.un .not (.t q35)), oM q37 q36, oG q38 q37 false (.mov (.t q8)), oG q39 q37 false (.binI .lss (.t q38) (.c (.i .i64 0))), oO q40 (.pick (.t q37) (.c (.b true)) (.t q39)), oM q41 q40, oG q42 q41 false (.mov (.t q8)), oG q43 q41 false (.ixA 40 1 (.t q5) (.t q42)), oG q44 q41 false (.ld1 (.t q43)), oO q45 (.pick (.t q41) (.c (.b true)) (.t q44))]) (.cond (.t q45) (.exit 1) .skip)) K18_3))))
def L18_5 : IC := .seq (.seq (.reg [oM q15 q6, oO q16 (.len (.t q15)), oO q17 (.binI .gtr (.t q16) (.c (.i .i64 0)))]) (.cond (.t q17) .skip (.exit 0))) K18_4
def K18_6 : IC := .seq (.reg [oO q69 (.ldN 9 (.t q3)), ⟨none, none, .st 9 (.t q4) (.t q69)⟩]) .ret
def B18 : IC := .seq (.reg [oO q2 (.box (.t q0)), oO q3 (.box (.t q1)), oO q4 (.new [.i .u64 0, .i .u64 0, .i .u64 0, .i .u64 0, .i .u64 0, .i .u64 0, .i .u64 0, .i .u64 0, .i .u64 0])]) (.seq (.reg [oO q5 (.new [.b false, .b false, .b false, .b false, .b false, .b false, .b false, .b false, .b false, .b false, .b false, .b false, .b false, .b false, .b false, .b false, .b false, .b false, .b false, .b false, .b false, .b false, .b false, .b false, .b false, .b false, .b false, .b false, .b false, .b false, .b false, .b false, .b false, .b false, .b false, .b false, .b false, .b false, .b false, .b false])]) (.seq (.seq (.reg [oO q13 (.ldN 9 (.t q3)), oO q14 (.call 19 [.t q13]), oM q6 q14]) (.block 0 (.loop L18_5))) K18_6))
def F18 : IFn := ⟨70, [.cN q4 9], B18⟩
theorem R18 : F18.res = [.cN q4 9] := rfl
theorem fits18 : FitsF Tryd.prog 18 F18 := cmpF_fits (pol := fun _ => false) Tryd.func18 (by kernel_rfl)
def K19_0 : IC := .reg [oM q14 q5, oM q15 q5, oO q16 (.binI .sub (.t q15) (.c (.i .u64 1))), oO q17 (.binI .and (.t q14) (.t q16)), oM q5 q17]
def K19_1 : IC := .seq (.block 3 (.seq (.reg [oM q18 q4, oO q19 (.binI .mul (.t q18) (.c (.i .i64 64))), oM q20 q5, oO q21 (.call 33 [.t q20]), oO q22 (.binI .add (.t q19) (.t q21)), oM q6 q22]) (.reg [oM q23 q3, oM q24 q6, oO q25 (.binI .quo (.t q24) (.c (.i .i64 9))), oO q26 (.binI .add (.t q25) (.c (.i .i64 (.negSucc 0)))), oM q27 q6, oO q28 (.binI .rem (.t q27) (.c (.i .i64 9))), oO q29 (.build [.i .i64 0, .i .i64 0] [(0, 1, .t q26), (1, 1, .t q28)]), oO q30 (.bsl 2 1 [.i .i64 0, .i .i64 0] [(0, 2, .t q29)]), oO q31 (.app 2 16 (.t q23) (.t q30)), oM q3 q31]))) K19_0
def L19_2 : IC := .seq (.seq (.reg [oM q12 q5, oO q13 (.binI .neq (.t q12) (.c (.i .u64 0)))]) (.cond (.t q13) .skip (.exit 2))) K19_1
def K19_3 : IC := .reg [oO q32 (.binI .add (.t q8) (.c (.i .i64 1))), oM q8 q32]
def K19_4 : IC := .seq (.block 1 (.seq (.reg [oM q10 q8, oO q11 (.pu2 (.ixL 9) (.t q7) (.t q8)), oM q4 q10, oM q5 q11]) (.block 2 (.loop L19_2)))) K19_3
def L19_5 : IC := .seq (.reg [oO q9 (.binI .lss (.t q8) (.c (.i .i64 9)))]) (.seq (.cond (.t q9) .skip (.exit 0)) K19_4)
def K19_6 : IC := .seq (.reg [oM q33 q3, oM q2 q33]) .ret
def B19 : IC := .seq (.reg [oO q1 (.box (.t q0)), oO q2 (.mov (.c .nils))]) (.seq (.reg [oO q3 (.mov (.c .nils))]) (.seq (.seq (.reg [oO q7 (.ldN 9 (.t q1)), oO q8 (.mov (.c (.i .i64 0)))]) (.block 0 (.loop L19_5))) K19_6))
def F19 : IFn := ⟨34, [.tmp q2], B19⟩
theorem R19 : F19.res = [.tmp q2] := rfl
theorem fits19 : FitsF Tryd.prog 19 F19 := cmpF_fits (pol := fun _ => false) Tryd.func19 (by kernel_rfl)
def B20 : IC := .seq (.reg [oO q1 (.box (.t q0)), oO q2 (.mov (.c (.b false)))]) (.seq (.reg [oO q6 (.ldN 7 (.t q1)), oO q7 (.call 34 [.t q6]), oM q5 q7, oO q8 (.ext (.t q5) 0), oO q9 (.ext (.t q5) 1), oM q3 q8, oM q4 q9]) (.seq (.reg [oM q10 q4, oO q11 (.binI .eql (.t q10) (.c (.i .i64 0))), oM q2 q11]) .ret))
def F20 : IFn := ⟨12, [.tmp q2], B20⟩
theorem R20 : F20.res = [.tmp q2] := rfl
theorem fits20 : FitsF Tryd.prog 20 F20 := cmpF_fits (pol := fun _ => false) Tryd.func20 (by kernel_rfl)
def K21_0 : IC := .seq (.dreg 0 [(oO q16 (.fa 0 (.t q3)), .pu), (oO q17 (.ld1 (.t q16)), .rd 0), (oO q18 (.binI .geq (.t q17) (.c (.i .i64 0))), .pu), (oM q19 q18, .pu), (oG q20 q19 true (.fa 0 (.t q3)), .pu), (oG q21 q19 true (.ld1 (.t q20)), .rd 0), (oG q22 q19 true (.fa 3 (.t q2)), .pu), (oG q23 q19 true (.ld1 (.t q22)), .rd 0), (oG q24 q19 true (.len (.t q23)), .pu), (oG q25 q19 true (.binI .lss (.t q21) (.t q24)), .pu), (oO q26 (.pick (.t q19) (.t q25) (.c (.b false))), .pu), (oM q27 q26, .pu), (oG q28 q27 true (.fa 1 (.t q3)), .pu), (oG q29 q27 true (.ld1 (.t q28)), .rd 0), (oG q30 q27 true (.binI .geq (.t q29) (.c (.i .i64 0))), .pu), (oO q31 (.pick (.t q27) (.t q30) (.c (.b false))), .pu), (oM q32 q31, .pu), (oG q33 q32 true (.fa 1 (.t q3)), .pu), (oG q34 q32 true (.ld1 (.t q33)), .rd 0), (oG q35 q32 true (.fa 3 (.t q2)), .pu), (oG q36 q32 true (.ld1 (.t q35)), .rd 0), (oG q37 q32 true (.fa 0 (.t q3)), .pu), (oG q38 q32 true (.ld1 (.t q37)), .rd 0), (oG q39 q32 true (.ixS 3 (.t q36) (.t q38)), .pu), (oG q40 q32 true (.fa 1 (.t q39)), .pu), (oG q41 q32 true (.ld1 (.t q40)), .rd 0), (oG q42 q32 true (.len (.t q41)), .pu)] [oG q43 q32 true (.binI .leq (.t q34) (.t q42)), oO q44 (.pick (.t q32) (.t q43) (.c (.b false))), oM q4 q44] []) .ret
def B21 : IC := .seq (.reg [oO q2 (.box (.t q0)), oO q3 (.box (.t q1)), oO q4 (.mov (.c (.b false)))]) (.seq (.seq (.reg [oO q5 (.fa 0 (.t q3)), oO q6 (.ld1 (.t q5)), oO q7 (.binI .eql (.t q6) (.c (.i .i64 (.negSucc 0))))]) (.cond (.t q7) (.seq (.reg [oO q8 (.fa 1 (.t q3)), oO q9 (.ld1 (.t q8)), oO q10 (.binI .eql (.t q9) (.c (.i .i64 0))), oM q11 q10, oG q12 q11 false (.fa 1 (.t q3)), oG q13 q11 false (.ld1 (.t q12)), oG q14 q11 false (.binI .eql (.t q13) (.c (.i .i64 1))), oO q15 (.pick (.t q11) (.c (.b true)) (.t q14)), oM q4 q15]) .ret) .skip)) K21_0)
def F21 : IFn := ⟨45, [.tmp q4], B21⟩
theorem R21 : F21.res = [.tmp q4] := rfl
theorem fits21 : FitsF Tryd.prog 21 F21 := cmpF_fits (pol := fun _ => false) Tryd.func21 (by kernel_rfl)
def K22_0 : IC := .block 1 (.reg [oM q40 q5, oO q41 (.binI .add (.t q40) (.c (.i .i64 1))), oM q5 q41])
def L22_1 : IC := .seq (.seq (.dreg 0 [(oM q6 q5, .pu), (oM q7 q0, .pu), (oO q8 (.len (.t q7)), .pu), (oO q9 (.binI .lss (.t q6) (.t q8)), .pu), (oM q10 q9, .pu), (oG q11 q10 true (.mov (.t q0)), .pu), (oG q12 q10 true (.mov (.t q5)), .pu), (oG q13 q10 true (.ixS 2 (.t q11) (.t q12)), .pu), (oG q14 q10 true (.fa 0 (.t q13)), .pu), (oG q15 q10 true (.ld1 (.t q14)), .rd 0), (oG q16 q10 true (.fa 0 (.t q3)), .pu), (oG q17 q10 true (.ld1 (.t q16)), .rd 0), (oG q18 q10 true (.binI .lss (.t q15) (.t q17)), .pu), (oG q19 q10 true (.mov (.t q18)), .pu), (oG q20 q19 false (.mov (.t q0)), .pu), (oG q21 q19 false (.mov (.t q5)), .pu), (oG q22 q19 false (.ixS 2 (.t q20) (.t q21)), .pu), (oG q23 q19 false (.fa 0 (.t q22)), .pu), (oG q24 q19 false (.ld1 (.t q23)), .rd 0), (oG q25 q19 false (.fa 0 (.t q3)), .pu), (oG q26 q19 false (.ld1 (.t q25)), .rd 0), (oG q27 q19 false (.binI .eql (.t q24) (.t q26)), .pu), (oG q28 q19 false (.mov (.t q27)), .pu), (oG q29 q28 true (.mov (.t q0)), .pu), (oG q30 q28 true (.mov (.t q5)), .pu), (oG q31 q28 true (.ixS 2 (.t q29) (.t q30)), .pu), (oG q32 q28 true (.fa 1 (.t q31)), .pu), (oG q33 q28 true (.ld1 (.t q32)), .rd 0), (oG q34 q28 true (.fa 1 (.t q3)), .pu), (oG q35 q28 true (.ld1 (.t q34)), .rd 0)] [oG q36 q28 true (.binI .lss (.t q33) (.t q35)), oG q37 q19 false (.pick (.t q28) (.t q36) (.c (.b false))), oG q38 q10 true (.pick (.t q19) (.c (.b true)) (.t q37)), oO q39 (.pick (.t q10) (.t q38) (.c (.b false)))] []) (.cond (.t q39) .skip (.exit 0))) K22_0
def K22_2 : IC := .cond (.t q53) (.seq (.reg [oM q54 q0, oM q4 q54]) .ret) .skip
def K22_3 : IC := .seq (.dreg 1 [(oM q55 q0, .pu), (oM q56 q5, .pu), (oO q57 (.cut 2 (.t q55) none (some (.t q56))), .pu), (oO q58 (.app 2 16 (.c .nils) (.t q57)), .md), (oO q59 (.ldN 2 (.t q3)), .rd 1), (oO q60 (.bsl 2 1 [.i .i64 0, .i .i64 0] [(0, 2, .t q59)]), .fl 0), (oO q61 (.app 2 16 (.t q58) (.t q60)), .ma [0]), (oM q62 q0, .pu), (oM q63 q5, .pu), (oO q64 (.cut 2 (.t q62) (some (.t q63)) none), .pu)] [oO q65 (.app 2 16 (.t q61) (.t q64)), oM q4 q65] [(3, 4)]) .ret
def K22_4 : IC := .seq (.seq (.dreg 0 [(oM q42 q5, .pu), (oM q43 q0, .pu), (oO q44 (.len (.t q43)), .pu), (oO q45 (.binI .lss (.t q42) (.t q44)), .pu), (oM q46 q45, .pu), (oG q47 q46 true (.mov (.t q0)), .pu), (oG q48 q46 true (.mov (.t q5)), .pu), (oG q49 q46 true (.ixS 2 (.t q47) (.t q48)), .pu), (oG q50 q46 true (.ldN 2 (.t q49)), .rd 0), (oG q51 q46 true (.ldN 2 (.t q3)), .rd 0)] [oG q52 q46 true (.pu2 (.eqA 2 false) (.t q50) (.t q51)), oO q53 (.pick (.t q46) (.t q52) (.c (.b false)))] []) K22_2) K22_3
def B22 : IC := .seq (.reg [oO q3 (.box (.t q1)), oO q4 (.mov (.c .nils))]) (.seq (.reg [oO q5 (.mov (.c (.i .i64 0)))]) (.seq (.block 0 (.loop L22_1)) K22_4))
def F22 : IFn := ⟨66, [.tmp q4], B22⟩
theorem R22 : F22.res = [.tmp q4] := rfl
theorem fits22 : FitsF Tryd.prog 22 F22 := cmpF_fits (pol := fun _ => false) Tryd.func22 (by kernel_rfl)
def K23_0 : IC := .cond (.t q42) (.seq (.reg [oO q4 (.mov (.c (.i .i64 0))), oO q5 (.mov (.c (.b false)))]) .ret) .skip
def K23_1 : IC := .seq (.dreg 0 [(oO q43 (.fa 3 (.t q2)), .pu), (oO q44 (.ld1 (.t q43)), .rd 0), (oO q45 (.fa 0 (.t q3)), .pu), (oO q46 (.ld1 (.t q45)), .rd 0), (oO q47 (.ixS 3 (.t q44) (.t q46)), .pu), (oO q48 (.fa 1 (.t q47)), .pu), (oO q49 (.ld1 (.t q48)), .rd 0), (oO q50 (.fa 1 (.t q3)), .pu), (oO q51 (.ld1 (.t q50)), .rd 0)] [oO q52 (.ixS 1 (.t q49) (.t q51)), oO q53 (.ld1 (.t q52)), oM q4 q53, oO q5 (.mov (.c (.b true)))] []) .ret
def K23_2 : IC := .seq (.seq (.dreg 0 [(oO q14 (.fa 0 (.t q3)), .pu), (oO q15 (.ld1 (.t q14)), .rd 0), (oO q16 (.binI .lss (.t q15) (.c (.i .i64 0))), .pu), (oM q17 q16, .pu), (oG q18 q17 false (.fa 0 (.t q3)), .pu), (oG q19 q17 false (.ld1 (.t q18)), .rd 0), (oG q20 q17 false (.fa 3 (.t q2)), .pu), (oG q21 q17 false (.ld1 (.t q20)), .rd 0), (oG q22 q17 false (.len (.t q21)), .pu), (oG q23 q17 false (.binI .geq (.t q19) (.t q22)), .pu), (oO q24 (.pick (.t q17) (.c (.b true)) (.t q23)), .pu), (oM q25 q24, .pu), (oG q26 q25 false (.fa 1 (.t q3)), .pu), (oG q27 q25 false (.ld1 (.t q26)), .rd 0), (oG q28 q25 false (.binI .lss (.t q27) (.c (.i .i64 0))), .pu), (oO q29 (.pick (.t q25) (.c (.b true)) (.t q28)), .pu), (oM q30 q29, .pu), (oG q31 q30 false (.fa 1 (.t q3)), .pu), (oG q32 q30 false (.ld1 (.t q31)), .rd 0), (oG q33 q30 false (.fa 3 (.t q2)), .pu), (oG q34 q30 false (.ld1 (.t q33)), .rd 0), (oG q35 q30 false (.fa 0 (.t q3)), .pu), (oG q36 q30 false (.ld1 (.t q35)), .rd 0), (oG q37 q30 false (.ixS 3 (.t q34) (.t q36)), .pu), (oG q38 q30 false (.fa 1 (.t q37)), .pu), (oG q39 q30 false (.ld1 (.t q38)), .rd 0), (oG q40 q30 false (.len (.t q39)), .pu)] [oG q41 q30 false (.binI .geq (.t q32) (.t q40)), oO q42 (.pick (.t q30) (.c (.b true)) (.t q41))] []) K23_0) K23_1
def B23 : IC := .seq (.reg [oO q2 (.box (.t q0)), oO q3 (.box (.t q1)), oO q4 (.mov (.c (.i .i64 0))), oO q5 (.mov (.c (.b false)))]) (.seq (.seq (.reg [oO q6 (.fa 0 (.t q3)), oO q7 (.ld1 (.t q6)), oO q8 (.binI .eql (.t q7) (.c (.i .i64 (.negSucc 0))))]) (.cond (.t q8) (.seq (.dreg 0 [(oO q9 (.fa 2 (.t q2)), .pu), (oO q10 (.ld1 (.t q9)), .rd 0), (oO q11 (.fa 1 (.t q3)), .pu), (oO q12 (.ld1 (.t q11)), .rd 0), (oO q13 (.binI .eql (.t q12) (.c (.i .i64 0))), .pu), (oM q4 q10, .pu)] [oM q5 q13] []) .ret) .skip)) K23_2)
def F23 : IFn := ⟨54, [.tmp q4, .tmp q5], B23⟩
theorem R23 : F23.res = [.tmp q4, .tmp q5] := rfl
theorem fits23 : FitsF Tryd.prog 23 F23 := cmpF_fits (pol := fun _ => false) Tryd.func23 (by kernel_rfl)
def K24_0 : IC := .reg [oO q41 (.binI .add (.t q25) (.c (.i .i64 1))), oM q25 q41]
def K24_1 : IC := .seq (.block 1 (.seq (.reg [oM q27 q25, oM q8 q27]) (.seq (.reg [oM q28 q6, oM q29 q8, oO q30 (.ixS 1 (.t q28) (.t q29)), oO q31 (.ld1 (.t q30)), oO q32 (.un .not (.t q31)), oM q33 q32, oG q34 q33 false (.mov (.t q7)), oG q35 q33 false (.mov (.t q8)), oG q36 q33 false (.ixS 1 (.t q34) (.t q35)), oG q37 q33 false (.ld1 (.t q36)), oG q38 q33 false (.un .not (.t q37)), oO q39 (.pick (.t q33) (.c (.b true)) (.t q38))]) (.cond (.t q39) (.seq (.reg [oM q40 q8, oM q2 q40, oO q3 (.mov (.c (.i .i64 7)))]) .ret) .skip)))) K24_0
def L24_2 : IC := .seq (.reg [oO q26 (.binI .lss (.t q25) (.t q24))]) (.seq (.cond (.t q26) .skip (.exit 0)) K24_1)
def K24_3 : IC := .seq (.reg [oO q2 (.mov (.c (.i .i64 (.negSucc 0)))), oO q3 (.mov (.c (.i .i64 0)))]) .ret
def K24_4 : IC := .seq (.seq (.reg [oO q42 (.ldN 7 (.t q1)), oO q43 (.call 38 [.t q42]), oO q44 (.call 37 [.t q43, .c (.b true)]), oM q9 q44]) (.seq (.reg [oM q45 q9, oO q46 (.binI .geq (.t q45) (.c (.i .i64 0)))]) (.cond (.t q46) (.seq (.reg [oM q47 q9, oM q2 q47, oO q3 (.mov (.c (.i .i64 8)))]) .ret) .skip))) K24_3
def K24_5 : IC := .seq (.seq (.reg [oO q23 (.fa 0 (.t q1)), oO q24 (.ld1 (.t q23)), oO q25 (.mov (.c (.i .i64 0)))]) (.block 0 (.loop L24_2))) K24_4
def K24_6 : IC := .seq (.dreg 0 [(oO q19 (.ldN 7 (.t q1)), .rd 0), (oO q20 (.call 35 [.t q19]), .ad), (oO q21 (.ldN 7 (.t q1)), .rd 1)] [oO q22 (.call 36 [.t q21]), oM q6 q20, oM q7 q22] []) K24_5
def B24 : IC := .seq (.reg [oO q1 (.box (.t q0)), oO q2 (.mov (.c (.i .i64 0))), oO q3 (.mov (.c (.i .i64 0)))]) (.seq (.seq (.reg [oO q11 (.ldN 7 (.t q1)), oO q12 (.call 30 [.t q11]), oM q10 q12, oO q13 (.ext (.t q10) 0), oO q14 (.ext (.t q10) 1), oM q4 q13, oM q5 q14]) (.seq (.reg [oM q15 q5, oO q16 (.binI .neq (.t q15) (.c (.i .i64 0)))]) (.cond (.t q16) (.seq (.reg [oM q17 q4, oM q18 q5, oM q2 q17, oM q3 q18]) .ret) .skip))) K24_6)
def F24 : IFn := ⟨48, [.tmp q2, .tmp q3], B24⟩
theorem R24 : F24.res = [.tmp q2, .tmp q3] := rfl
theorem fits24 : FitsF Tryd.prog 24 F24 := cmpF_fits (pol := fun _ => false) Tryd.func24 (by kernel_rfl)
def K25_0 : IC := .dreg 0 [(oM q39 q0, .pu), (oM q40 q0, .pu), (oO q41 (.nck (.t q40)), .pu), (oO q42 (.fa 8 (.t q41)), .pu), (oO q43 (.ld1 (.t q42)), .rd 0), (oO q44 (.ldN 9 (.t q3)), .rd 0), (oO q45 (.call 19 [.t q44]), .ad), (oO q46 (.build [.nils, .nils, .nils] [(0, 1, .t q45)]), .pu), (oO q47 (.bsl 3 1 [.nils, .nils, .nils] [(0, 3, .t q46)]), .ad), (oO q48 (.app 3 72 (.t q43) (.t q47)), .md)] [oO q49 (.nck (.t q39)), oO q50 (.fa 8 (.t q49)), ⟨none, none, .st 1 (.t q50) (.t q48)⟩] []
def K25_1 : IC := .seq (.dreg 0 [(oM q29 q0, .pu), (oM q30 q0, .pu), (oO q31 (.nck (.t q30)), .pu), (oO q32 (.fa 7 (.t q31)), .pu), (oO q33 (.ld1 (.t q32)), .rd 0), (oO q34 (.ldN 9 (.t q3)), .rd 0), (oO q35 (.bsl 9 1 [.i .u64 0, .i .u64 0, .i .u64 0, .i .u64 0, .i .u64 0, .i .u64 0, .i .u64 0, .i .u64 0, .i .u64 0] [(0, 9, .t q34)]), .ad), (oO q36 (.app 9 72 (.t q33) (.t q35)), .md)] [oO q37 (.nck (.t q29)), oO q38 (.fa 7 (.t q37)), ⟨none, none, .st 1 (.t q38) (.t q36)⟩] []) K25_0
def K25_2 : IC := .seq (.reg [oM q51 q5, oM q4 q51]) .ret
def K25_3 : IC := .seq (.seq (.reg [oM q16 q6, oO q17 (.un .not (.t q16))]) (.cond (.t q17) (.seq (.reg [oM q18 q0, oO q19 (.nck (.t q18)), oO q20 (.fa 7 (.t q19)), oO q21 (.ld1 (.t q20)), oO q22 (.len (.t q21)), oM q5 q22]) (.seq (.dreg 0 [(oM q23 q0, .pu), (oO q24 (.nck (.t q23)), .pu), (oO q25 (.fa 9 (.t q24)), .pu), (oO q26 (.ld1 (.t q25)), .rd 0), (oO q27 (.ldN 9 (.t q3)), .rd 0), (oM q28 q5, .pu)] [⟨none, none, .wrm (.mupA 9) (.t q26) (.t q27) (.t q28)⟩] []) K25_1)) .skip)) K25_2
def B25 : IC := .seq (.reg [oO q3 (.box (.t q1)), oO q4 (.mov (.c (.i .i64 0)))]) (.seq (.dreg 0 [(oM q8 q0, .pu), (oO q9 (.nck (.t q8)), .pu), (oO q10 (.fa 9 (.t q9)), .pu), (oO q11 (.ld1 (.t q10)), .rd 0), (oO q12 (.ldN 9 (.t q3)), .rd 0), (oO q13 (.rdm (.lkpA 9 true (.i .i64 0)) (.t q11) (.t q12)), .rd 0), (oM q7 q13, .pu), (oO q14 (.ext (.t q7) 0), .pu), (oO q15 (.ext (.t q7) 1), .pu), (oM q5 q14, .pu)] [oM q6 q15] []) K25_3)
def F25 : IFn := ⟨52, [.tmp q4], B25⟩
theorem R25 : F25.res = [.tmp q4] := rfl
theorem fits25 : FitsF Tryd.prog 25 F25 := cmpF_fits (pol := fun _ => false) Tryd.func25 (by kernel_rfl)
def K26_0 : IC := .reg [oO q45 (.binI .add (.t q21) (.c (.i .i64 1))), oM q21 q45]
def K26_1 : IC := .seq (.block 1 (.seq (.reg [oM q23 q21, oO q24 (.ixS 9 (.t q19) (.t q21)), oO q25 (.ldN 9 (.t q24)), oO q7 (.new [.i .u64 0, .i .u64 0, .i .u64 0, .i .u64 0, .i .u64 0, .i .u64 0, .i .u64 0, .i .u64 0, .i .u64 0]), oM q6 q23, ⟨none, none, .st 9 (.t q7) (.t q25)⟩]) (.seq (.reg [oO q26 (.ldN 9 (.t q7)), oO q27 (.build [.i .u64 0, .i .u64 0, .i .u64 0, .i .u64 0, .i .u64 0, .i .u64 0, .i .u64 0, .i .u64 0, .i .u64 0] []), oO q28 (.pu2 (.eqA 9 true) (.t q26) (.t q27))]) (.cond (.t q28) (.seq (.reg [oM q29 q4, oM q30 q6, oM q31 q0, oO q32 (.nck (.t q31)), oO q33 (.fa 0 (.t q32)), oO q34 (.fa 1 (.t q33)), oO q35 (.ld1 (.t q34)), oO q36 (.binI .sub (.t q30) (.t q35)), oO q37 (.bsl 1 1 [.i .i64 0] [(0, 1, .t q36)]), oO q38 (.app 1 8 (.t q29) (.t q37)), oM q4 q38]) (.reg [oM q39 q5, oM q40 q0, oO q41 (.ldN 9 (.t q7)), oO q42 (.call 25 [.t q40, .t q41]), oO q43 (.bsl 1 1 [.i .i64 0] [(0, 1, .t q42)]), oO q44 (.app 1 8 (.t q39) (.t q43)), oM q5 q44])) .skip)))) K26_0
def L26_2 : IC := .seq (.reg [oO q22 (.binI .lss (.t q21) (.t q20))]) (.seq (.cond (.t q22) .skip (.exit 0)) K26_1)
def K26_3 : IC := .dreg 0 [(oM q46 q0, .pu), (oO q47 (.nck (.t q46)), .pu), (oO q48 (.fa 8 (.t q47)), .pu), (oO q49 (.ld1 (.t q48)), .rd 0), (oM q50 q1, .pu), (oM q51 q0, .pu), (oO q52 (.nck (.t q51)), .pu), (oO q53 (.fa 8 (.t q52)), .pu), (oO q54 (.ld1 (.t q53)), .rd 0), (oM q55 q1, .pu), (oM q56 q4, .pu), (oM q57 q5, .pu), (oO q58 (.ixS 3 (.t q49) (.t q50)), .pu), (oO q59 (.fa 1 (.t q58)), .pu), (⟨none, none, .st 1 (.t q59) (.t q56)⟩, .md)] [oO q60 (.ixS 3 (.t q54) (.t q55)), oO q61 (.fa 2 (.t q60)), ⟨none, none, .st 1 (.t q61) (.t q57)⟩] []
def B26 : IC := .seq (.reg [oO q4 (.mov (.c .nils)), oO q5 (.mov (.c .nils))]) (.seq (.seq (.dreg 0 [(oM q8 q0, .pu), (oO q9 (.nck (.t q8)), .pu), (oO q10 (.fa 0 (.t q9)), .pu), (oO q11 (.ldN 7 (.t q10)), .rd 0), (oM q12 q0, .pu), (oO q13 (.nck (.t q12)), .pu), (oO q14 (.fa 7 (.t q13)), .pu), (oO q15 (.ld1 (.t q14)), .rd 0), (oM q16 q1, .pu), (oO q17 (.ixS 9 (.t q15) (.t q16)), .pu), (oO q18 (.ldN 9 (.t q17)), .rd 0), (oO q19 (.call 39 [.t q11, .t q18]), .md), (oO q20 (.len (.t q19)), .pu), (oO q21 (.mov (.c (.i .i64 0))), .pu)] [] []) (.block 0 (.loop L26_2))) K26_3)
def F26 : IFn := ⟨62, [], B26⟩
theorem R26 : F26.res = [] := rfl
theorem fits26 : FitsF Tryd.prog 26 F26 := cmpF_fits (pol := fun _ => false) Tryd.func26 (by kernel_rfl)
def K27_0 : IC := .reg [oM q30 q9, oO q31 (.binI .add (.t q30) (.c (.i .i64 1))), oM q9 q31]
def K27_1 : IC := .seq (.block 1 (.seq (.reg [oM q32 q6, oM q33 q9, oO q34 (.ixS 1 (.t q32) (.t q33)), oO q35 (.ld1 (.t q34)), oO q36 (.un .not (.t q35)), oM q37 q36, oG q38 q37 false (.mov (.t q7)), oG q39 q37 false (.mov (.t q9)), oG q40 q37 false (.ixS 1 (.t q38) (.t q39)), oG q41 q37 false (.ld1 (.t q40)), oG q42 q37 false (.un .not (.t q41)), oO q43 (.pick (.t q37) (.c (.b true)) (.t q42))]) (.cond (.t q43) (.seq (.reg [oM q44 q9, oM q2 q44, oO q3 (.mov (.c (.i .i64 7)))]) .ret) .skip))) K27_0
def L27_2 : IC := .seq (.seq (.reg [oM q26 q9, oO q27 (.fa 0 (.t q1)), oO q28 (.ld1 (.t q27)), oO q29 (.binI .lss (.t q26) (.t q28))]) (.cond (.t q29) .skip (.exit 0))) K27_1
def K27_3 : IC := .reg [oM q49 q10, oO q50 (.binI .add (.t q49) (.c (.i .i64 1))), oM q10 q50]
def K27_4 : IC := .seq (.block 3 (.seq (.reg [oM q51 q8, oM q52 q10, oO q53 (.ixS 1 (.t q51) (.t q52)), oO q54 (.ld1 (.t q53))]) (.cond (.t q54) (.seq (.reg [oM q55 q10, oM q2 q55, oO q3 (.mov (.c (.i .i64 8)))]) .ret) .skip))) K27_3
def L27_5 : IC := .seq (.seq (.reg [oM q45 q10, oO q46 (.fa 0 (.t q1)), oO q47 (.ld1 (.t q46)), oO q48 (.binI .lss (.t q45) (.t q47))]) (.cond (.t q48) .skip (.exit 2))) K27_4
def K27_6 : IC := .seq (.reg [oO q2 (.mov (.c (.i .i64 (.negSucc 0)))), oO q3 (.mov (.c (.i .i64 0)))]) .ret
def K27_7 : IC := .seq (.seq (.reg [oO q10 (.mov (.c (.i .i64 0)))]) (.block 2 (.loop L27_5))) K27_6
def K27_8 : IC := .seq (.reg [oO q20 (.ldN 7 (.t q1)), oO q21 (.call 40 [.t q20]), oM q6 q21]) (.seq (.reg [oO q22 (.ldN 7 (.t q1)), oO q23 (.call 41 [.t q22]), oM q7 q23]) (.seq (.reg [oO q24 (.ldN 7 (.t q1)), oO q25 (.call 42 [.t q24]), oM q8 q25]) (.seq (.seq (.reg [oO q9 (.mov (.c (.i .i64 0)))]) (.block 0 (.loop L27_2))) K27_7)))
def B27 : IC := .seq (.reg [oO q1 (.box (.t q0)), oO q2 (.mov (.c (.i .i64 0))), oO q3 (.mov (.c (.i .i64 0)))]) (.seq (.reg [oO q12 (.ldN 7 (.t q1)), oO q13 (.call 34 [.t q12]), oM q11 q13, oO q14 (.ext (.t q11) 0), oO q15 (.ext (.t q11) 1), oM q4 q14, oM q5 q15]) (.seq (.seq (.reg [oM q16 q5, oO q17 (.binI .neq (.t q16) (.c (.i .i64 0)))]) (.cond (.t q17) (.seq (.reg [oM q18 q4, oM q19 q5, oM q2 q18, oM q3 q19]) .ret) .skip)) K27_8))
def F27 : IFn := ⟨56, [.tmp q2, .tmp q3], B27⟩
theorem R27 : F27.res = [.tmp q2, .tmp q3] := rfl
theorem fits27 : FitsF Tryd.prog 27 F27 := cmpF_fits (pol := fun _ => false) Tryd.func27 (by kernel_rfl)
def K28_0 : IC := .block 3 (.reg [oM q39 q9, oO q40 (.binI .add (.t q39) (.c (.i .i64 1))), oM q9 q40])
def L28_1 : IC := .seq (.seq (.reg [oM q27 q9, oM q28 q5, oO q29 (.len (.t q28)), oO q30 (.binI .lss (.t q27) (.t q29)), oM q31 q30, oG q32 q31 true (.mov (.t q5)), oG q33 q31 true (.mov (.t q9)), oG q34 q31 true (.ixS 1 (.t q32) (.t q33)), oG q35 q31 true (.ld1 (.t q34)), oG q36 q31 true (.mov (.t q7)), oG q37 q31 true (.binI .lss (.t q35) (.t q36)), oO q38 (.pick (.t q31) (.t q37) (.c (.b false)))]) (.cond (.t q38) .skip (.exit 2))) K28_0
def K28_2 : IC := .seq (.reg [oM q41 q9, oM q42 q5, oO q43 (.len (.t q42)), oO q44 (.binI .eql (.t q41) (.t q43)), oM q45 q44, oG q46 q45 false (.mov (.t q5)), oG q47 q45 false (.mov (.t q9)), oG q48 q45 false (.ixS 1 (.t q46) (.t q47)), oG q49 q45 false (.ld1 (.t q48)), oG q50 q45 false (.mov (.t q7)), oG q51 q45 false (.binI .neq (.t q49) (.t q50)), oO q52 (.pick (.t q45) (.c (.b true)) (.t q51))]) (.cond (.t q52) (.dreg 1 [(oM q53 q5, .pu), (oM q54 q9, .pu), (oO q55 (.cut 1 (.t q53) none (some (.t q54))), .pu), (oO q56 (.app 1 8 (.c .nils) (.t q55)), .md), (oM q57 q7, .pu), (oO q58 (.bsl 1 1 [.i .i64 0] [(0, 1, .t q57)]), .fl 0), (oO q59 (.app 1 8 (.t q56) (.t q58)), .ma [0]), (oM q60 q5, .pu), (oM q61 q9, .pu), (oO q62 (.cut 1 (.t q60) (some (.t q61)) none), .pu)] [oO q63 (.app 1 8 (.t q59) (.t q62)), oM q5 q63] []) .skip)
def K28_3 : IC := .seq (.reg [oO q9 (.mov (.c (.i .i64 0)))]) (.seq (.block 2 (.loop L28_1)) K28_2)
def K28_4 : IC := .seq (.seq (.reg [oM q25 q8, oO q26 (.un .not (.t q25))]) (.cond (.t q26) (.exit 1) .skip)) K28_3
def K28_5 : IC := .reg [oM q14 q6, oO q15 (.binI .add (.t q14) (.c (.i .i64 1))), oM q6 q15]
def K28_6 : IC := .seq (.block 1 (.seq (.dreg 0 [(oO q17 (.ldN 7 (.t q2)), .rd 0), (oM q18 q1, .pu), (oM q19 q6, .pu), (oO q20 (.ixS 2 (.t q18) (.t q19)), .pu), (oO q21 (.ldN 2 (.t q20)), .rd 0), (oO q22 (.call 23 [.t q17, .t q21]), .md), (oM q16 q22, .pu), (oO q23 (.ext (.t q16) 0), .pu), (oO q24 (.ext (.t q16) 1), .pu), (oM q7 q23, .pu)] [oM q8 q24] []) K28_4)) K28_5
def L28_7 : IC := .seq (.seq (.reg [oM q10 q6, oM q11 q1, oO q12 (.len (.t q11)), oO q13 (.binI .lss (.t q10) (.t q12))]) (.cond (.t q13) .skip (.exit 0))) K28_6
def K28_8 : IC := .seq (.reg [oM q64 q5, oM q4 q64]) .ret
def B28 : IC := .seq (.reg [oO q2 (.box (.t q0)), oO q4 (.mov (.c .nils))]) (.seq (.reg [oO q5 (.mov (.c .nils))]) (.seq (.seq (.reg [oO q6 (.mov (.c (.i .i64 0)))]) (.block 0 (.loop L28_7))) K28_8))
def F28 : IFn := ⟨65, [.tmp q4], B28⟩
theorem R28 : F28.res = [.tmp q4] := rfl
theorem fits28 : FitsF Tryd.prog 28 F28 := cmpF_fits (pol := fun _ => false) Tryd.func28 (by kernel_rfl)
def K29_0 : IC := .cond (.t q25) (.seq (.reg [oO q4 (.mov (.c (.b false)))]) .ret) .skip
def K29_1 : IC := .reg [oM q15 q5, oO q16 (.binI .add (.t q15) (.c (.i .i64 1))), oM q5 q16]
def K29_2 : IC := .seq (.block 1 (.seq (.dreg 0 [(oM q17 q0, .pu), (oM q18 q5, .pu), (oO q19 (.ixS 1 (.t q17) (.t q18)), .pu), (oO q20 (.ld1 (.t q19)), .rd 0), (oM q21 q1, .pu), (oM q22 q5, .pu), (oO q23 (.ixS 1 (.t q21) (.t q22)), .pu), (oO q24 (.ld1 (.t q23)), .rd 0)] [oO q25 (.binI .neq (.t q20) (.t q24))] []) K29_0)) K29_1
def L29_3 : IC := .seq (.seq (.reg [oM q11 q5, oM q12 q0, oO q13 (.len (.t q12)), oO q14 (.binI .lss (.t q11) (.t q13))]) (.cond (.t q14) .skip (.exit 0))) K29_2
def K29_4 : IC := .seq (.reg [oO q4 (.mov (.c (.b true)))]) .ret
def K29_5 : IC := .seq (.seq (.reg [oO q5 (.mov (.c (.i .i64 0)))]) (.block 0 (.loop L29_3))) K29_4
def B29 : IC := .seq (.reg [oO q4 (.mov (.c (.b false)))]) (.seq (.seq (.reg [oM q6 q0, oO q7 (.len (.t q6)), oM q8 q1, oO q9 (.len (.t q8)), oO q10 (.binI .neq (.t q7) (.t q9))]) (.cond (.t q10) (.seq (.reg [oO q4 (.mov (.c (.b false)))]) .ret) .skip)) K29_5)
def F29 : IFn := ⟨26, [.tmp q4], B29⟩
theorem R29 : F29.res = [.tmp q4] := rfl
theorem fits29 : FitsF Tryd.prog 29 F29 := cmpF_fits (pol := fun _ => false) Tryd.func29 (by kernel_rfl)
def K30_0 : IC := .reg [oO q30 (.binI .add (.t q18) (.c (.i .i64 1))), oM q18 q30]
def K30_1 : IC := .seq (.block 1 (.seq (.reg [oM q20 q18, oO q21 (.ixS 3 (.t q16) (.t q18)), oO q22 (.ldN 3 (.t q21)), oO q6 (.new [.i .i64 0, .nils, .i .i64 0]), oM q5 q20, ⟨none, none, .st 3 (.t q6) (.t q22)⟩]) (.seq (.reg [oO q23 (.ldN 7 (.t q1)), oO q24 (.ldN 3 (.t q6)), oO q25 (.call 44 [.t q23, .t q24]), oM q7 q25]) (.seq (.reg [oM q26 q7, oO q27 (.binI .neq (.t q26) (.c (.i .i64 0)))]) (.cond (.t q27) (.seq (.reg [oM q28 q5, oM q29 q7, oM q2 q28, oM q3 q29]) .ret) .skip))))) K30_0
def L30_2 : IC := .seq (.reg [oO q19 (.binI .lss (.t q18) (.t q17))]) (.seq (.cond (.t q19) .skip (.exit 0)) K30_1)
def K30_3 : IC := .reg [oO q42 (.binI .add (.t q34) (.c (.i .i64 1))), oM q34 q42]
def K30_4 : IC := .seq (.block 3 (.seq (.reg [oO q36 (.ixS 3 (.t q32) (.t q34)), oO q37 (.ldN 3 (.t q36)), oO q9 (.new [.i .i64 0, .i .i64 0, .i .i64 0]), ⟨none, none, .st 3 (.t q9) (.t q37)⟩]) (.seq (.reg [oO q38 (.ldN 7 (.t q1)), oO q39 (.ldN 3 (.t q9)), oO q40 (.call 45 [.t q38, .t q39]), oO q41 (.un .not (.t q40))]) (.cond (.t q41) (.seq (.reg [oO q2 (.mov (.c (.i .i64 (.negSucc 0)))), oO q3 (.mov (.c (.i .i64 6)))]) .ret) .skip)))) K30_3
def L30_5 : IC := .seq (.reg [oO q35 (.binI .lss (.t q34) (.t q33))]) (.seq (.cond (.t q35) .skip (.exit 2)) K30_4)
def K30_6 : IC := .seq (.reg [oO q2 (.mov (.c (.i .i64 (.negSucc 0)))), oO q3 (.mov (.c (.i .i64 0)))]) .ret
def K30_7 : IC := .seq (.seq (.reg [oO q31 (.fa 4 (.t q1)), oO q32 (.ld1 (.t q31)), oO q33 (.len (.t q32)), oO q34 (.mov (.c (.i .i64 0)))]) (.block 2 (.loop L30_5))) K30_6
def K30_8 : IC := .seq (.seq (.reg [oO q15 (.fa 3 (.t q1)), oO q16 (.ld1 (.t q15)), oO q17 (.len (.t q16)), oO q18 (.mov (.c (.i .i64 0)))]) (.block 0 (.loop L30_2))) K30_7
def B30 : IC := .seq (.reg [oO q1 (.box (.t q0)), oO q2 (.mov (.c (.i .i64 0))), oO q3 (.mov (.c (.i .i64 0)))]) (.seq (.seq (.reg [oO q10 (.ldN 7 (.t q1)), oO q11 (.call 43 [.t q10]), oM q4 q11]) (.seq (.reg [oM q12 q4, oO q13 (.binI .neq (.t q12) (.c (.i .i64 0)))]) (.cond (.t q13) (.seq (.reg [oM q14 q4, oO q2 (.mov (.c (.i .i64 (.negSucc 0)))), oM q3 q14]) .ret) .skip))) K30_8)
def F30 : IFn := ⟨43, [.tmp q2, .tmp q3], B30⟩
theorem R30 : F30.res = [.tmp q2, .tmp q3] := rfl
theorem fits30 : FitsF Tryd.prog 30 F30 := cmpF_fits (pol := fun _ => false) Tryd.func30 (by kernel_rfl)
def K31_0 : IC := .seq (.reg [oO q10 (.fa 3 (.t q2)), oO q11 (.ld1 (.t q10)), oM q12 q1, oO q13 (.ixS 3 (.t q11) (.t q12)), oO q14 (.fa 1 (.t q13)), oO q15 (.ld1 (.t q14)), oM q4 q15]) .ret
def B31 : IC := .seq (.reg [oO q2 (.box (.t q0)), oO q4 (.mov (.c .nils))]) (.seq (.seq (.reg [oM q5 q1, oO q6 (.binI .eql (.t q5) (.c (.i .i64 (.negSucc 0))))]) (.cond (.t q6) (.seq (.reg [oO q7 (.fa 2 (.t q2)), oO q8 (.ld1 (.t q7)), oO q9 (.bsl 1 1 [.i .i64 0] [(0, 1, .t q8)]), oM q4 q9]) .ret) .skip)) K31_0)
def F31 : IFn := ⟨16, [.tmp q4], B31⟩
theorem R31 : F31.res = [.tmp q4] := rfl
theorem fits31 : FitsF Tryd.prog 31 F31 := cmpF_fits (pol := fun _ => false) Tryd.func31 (by kernel_rfl)
def K32_0 : IC := .seq (.reg [oM q16 q6, oO q17 (.fa 1 (.t q3)), oO q18 (.ld1 (.t q17)), oO q19 (.ixS 1 (.t q16) (.t q18)), oO q20 (.ld1 (.t q19)), oM q4 q20, oO q5 (.mov (.c (.b true)))]) .ret
def B32 : IC := .seq (.reg [oO q2 (.box (.t q0)), oO q3 (.box (.t q1)), oO q4 (.mov (.c (.i .i64 0))), oO q5 (.mov (.c (.b false)))]) (.seq (.reg [oO q7 (.ldN 7 (.t q2)), oO q8 (.fa 0 (.t q3)), oO q9 (.ld1 (.t q8)), oO q10 (.call 31 [.t q7, .t q9]), oM q6 q10]) (.seq (.seq (.reg [oO q11 (.fa 1 (.t q3)), oO q12 (.ld1 (.t q11)), oM q13 q6, oO q14 (.len (.t q13)), oO q15 (.binI .eql (.t q12) (.t q14))]) (.cond (.t q15) (.seq (.reg [oO q4 (.mov (.c (.i .i64 0))), oO q5 (.mov (.c (.b false)))]) .ret) .skip)) K32_0))
def F32 : IFn := ⟨21, [.tmp q4, .tmp q5], B32⟩
theorem R32 : F32.res = [.tmp q4, .tmp q5] := rfl
theorem fits32 : FitsF Tryd.prog 32 F32 := cmpF_fits (pol := fun _ => false) Tryd.func32 (by kernel_rfl)
def K33_0 : IC := .seq (.reg [oM q5 q0, oM q6 q0, oO q7 (.un .neg (.t q6)), oO q8 (.binI .and (.t q5) (.t q7)), oO q9 (.binI .mul (.t q8) (.c (.i .u64 285870213051353865))), oO q10 (.binI .shr (.t q9) (.c (.i .u64 58))), oO q11 (.ixA 64 1 (.c (.p 0 0)) (.t q10)), oO q12 (.ld1 (.t q11)), oO q13 (.cvI .i64 (.t q12)), oM q2 q13]) .ret
def B33 : IC := .seq (.reg [oO q2 (.mov (.c (.i .i64 0)))]) (.seq (.seq (.reg [oM q3 q0, oO q4 (.binI .eql (.t q3) (.c (.i .u64 0)))]) (.cond (.t q4) (.seq (.reg [oO q2 (.mov (.c (.i .i64 64)))]) .ret) .skip)) K33_0)
def F33 : IFn := ⟨14, [.tmp q2], B33⟩
theorem R33 : F33.res = [.tmp q2] := rfl
theorem fits33 : FitsF Tryd.prog 33 F33 := cmpF_fits (pol := fun _ => false) Tryd.func33 (by kernel_rfl)
def K34_0 : IC := .reg [oM q107 q7, oO q108 (.binI .add (.t q107) (.c (.i .i64 1))), oM q7 q108]
def K34_1 : IC := .seq (.block 3 (.dreg 0 [(oO q109 (.ldN 7 (.t q1)), .rd 0), (oO q110 (.fa 1 (.t q5)), .pu), (oO q111 (.ld1 (.t q110)), .rd 0), (oM q112 q7, .pu), (oO q113 (.ixS 1 (.t q111) (.t q112)), .pu), (oO q114 (.ld1 (.t q113)), .rd 0)] [oO q115 (.call 47 [.t q109, .t q114]), oM q6 q115] [])) K34_0
def L34_2 : IC := .seq (.seq (.reg [oM q99 q7, oO q100 (.fa 1 (.t q5)), oO q101 (.ld1 (.t q100)), oO q102 (.len (.t q101)), oO q103 (.binI .lss (.t q99) (.t q102)), oM q104 q103, oG q105 q104 true (.mov (.t q6)), oO q106 (.pick (.t q104) (.t q105) (.c (.b false)))]) (.cond (.t q106) .skip (.exit 2))) K34_1
def K34_3 : IC := .block 4 (.seq (.reg [oM q117 q6, oO q118 (.un .not (.t q117)), oM q116 q118]) (.cond (.t q116) (.seq (.reg [oM q119 q4, oM q2 q119, oO q3 (.mov (.c (.i .i64 6)))]) .ret) (.seq (.reg [oO q121 (.fa 1 (.t q5)), oO q122 (.ld1 (.t q121)), oO q123 (.len (.t q122)), oO q124 (.binI .gtr (.t q123) (.c (.i .i64 8))), oM q120 q124]) (.cond (.t q120) (.seq (.reg [oM q125 q4, oM q2 q125, oO q3 (.mov (.c (.i .i64 3)))]) .ret) (.seq (.reg [oO q127 (.fa 2 (.t q5)), oO q128 (.ld1 (.t q127)), oO q129 (.binI .lss (.t q128) (.c (.i .i64 (.negSucc 999)))), oM q130 q129, oG q131 q130 false (.fa 2 (.t q5)), oG q132 q130 false (.ld1 (.t q131)), oG q133 q130 false (.binI .gtr (.t q132) (.c (.i .i64 1000))), oO q134 (.pick (.t q130) (.c (.b true)) (.t q133)), oM q126 q134]) (.cond (.t q126) (.seq (.reg [oM q135 q4, oM q2 q135, oO q3 (.mov (.c (.i .i64 1)))]) .ret) .skip))))))
def K34_4 : IC := .reg [oM q82 q4, oO q83 (.binI .add (.t q82) (.c (.i .i64 1))), oM q4 q83]
def K34_5 : IC := .seq (.block 1 (.seq (.reg [oO q84 (.fa 3 (.t q1)), oO q85 (.ld1 (.t q84)), oM q86 q4, oO q87 (.ixS 3 (.t q85) (.t q86)), oO q88 (.ldN 3 (.t q87)), oO q5 (.new [.i .i64 0, .nils, .i .i64 0]), ⟨none, none, .st 3 (.t q5) (.t q88)⟩]) (.seq (.reg [oO q89 (.fa 0 (.t q5)), oO q90 (.ld1 (.t q89)), oO q91 (.binI .geq (.t q90) (.c (.i .i64 0))), oM q92 q91, oG q93 q92 true (.fa 0 (.t q5)), oG q94 q92 true (.ld1 (.t q93)), oG q95 q92 true (.fa 0 (.t q1)), oG q96 q92 true (.ld1 (.t q95)), oG q97 q92 true (.binI .lss (.t q94) (.t q96)), oO q98 (.pick (.t q92) (.t q97) (.c (.b false))), oM q6 q98]) (.seq (.seq (.reg [oO q7 (.mov (.c (.i .i64 0)))]) (.block 2 (.loop L34_2))) K34_3)))) K34_4
def L34_6 : IC := .seq (.seq (.reg [oM q77 q4, oO q78 (.fa 3 (.t q1)), oO q79 (.ld1 (.t q78)), oO q80 (.len (.t q79)), oO q81 (.binI .lss (.t q77) (.t q80))]) (.cond (.t q81) .skip (.exit 0))) K34_5
def K34_7 : IC := .cond (.t q210) (.seq (.reg [oO q2 (.mov (.c (.i .i64 (.negSucc 0)))), oO q3 (.mov (.c (.i .i64 6)))]) .ret) .skip
def K34_8 : IC := .reg [oM q141 q8, oO q142 (.binI .add (.t q141) (.c (.i .i64 1))), oM q8 q142]
def K34_9 : IC := .seq (.block 6 (.seq (.reg [oO q143 (.fa 4 (.t q1)), oO q144 (.ld1 (.t q143)), oM q145 q8, oO q146 (.ixS 3 (.t q144) (.t q145)), oO q147 (.ldN 3 (.t q146)), oO q9 (.new [.i .i64 0, .i .i64 0, .i .i64 0]), ⟨none, none, .st 3 (.t q9) (.t q147)⟩]) (.seq (.dreg 0 [(oO q148 (.ixA 3 1 (.t q9) (.c (.i .i64 0))), .pu), (oO q149 (.ld1 (.t q148)), .rd 0), (oO q150 (.binI .lss (.t q149) (.c (.i .i64 0))), .pu), (oM q151 q150, .pu), (oG q152 q151 false (.ixA 3 1 (.t q9) (.c (.i .i64 0))), .pu), (oG q153 q151 false (.ld1 (.t q152)), .rd 0), (oG q154 q151 false (.fa 3 (.t q1)), .pu), (oG q155 q151 false (.ld1 (.t q154)), .rd 0), (oG q156 q151 false (.len (.t q155)), .pu), (oG q157 q151 false (.binI .geq (.t q153) (.t q156)), .pu), (oO q158 (.pick (.t q151) (.c (.b true)) (.t q157)), .pu), (oM q159 q158, .pu), (oG q160 q159 false (.ixA 3 1 (.t q9) (.c (.i .i64 2))), .pu), (oG q161 q159 false (.ld1 (.t q160)), .rd 0), (oG q162 q159 false (.binI .lss (.t q161) (.c (.i .i64 0))), .pu), (oO q163 (.pick (.t q159) (.c (.b true)) (.t q162)), .pu), (oM q164 q163, .pu), (oG q165 q164 false (.ixA 3 1 (.t q9) (.c (.i .i64 2))), .pu), (oG q166 q164 false (.ld1 (.t q165)), .rd 0), (oG q167 q164 false (.fa 3 (.t q1)), .pu), (oG q168 q164 false (.ld1 (.t q167)), .rd 0), (oG q169 q164 false (.len (.t q168)), .pu), (oG q170 q164 false (.binI .geq (.t q166) (.t q169)), .pu), (oO q171 (.pick (.t q164) (.c (.b true)) (.t q170)), .pu), (oM q172 q171, .pu), (oG q173 q172 false (.ixA 3 1 (.t q9) (.c (.i .i64 1))), .pu), (oG q174 q172 false (.ld1 (.t q173)), .rd 0), (oG q175 q172 false (.binI .lss (.t q174) (.c (.i .i64 0))), .pu), (oO q176 (.pick (.t q172) (.c (.b true)) (.t q175)), .pu), (oM q177 q176, .pu), (oG q178 q177 false (.ixA 3 1 (.t q9) (.c (.i .i64 1))), .pu), (oG q179 q177 false (.ld1 (.t q178)), .rd 0), (oG q180 q177 false (.fa 3 (.t q1)), .pu), (oG q181 q177 false (.ld1 (.t q180)), .rd 0), (oG q182 q177 false (.ixA 3 1 (.t q9) (.c (.i .i64 0))), .pu), (oG q183 q177 false (.ld1 (.t q182)), .rd 0), (oG q184 q177 false (.ixS 3 (.t q181) (.t q183)), .pu), (oG q185 q177 false (.fa 1 (.t q184)), .pu), (oG q186 q177 false (.ld1 (.t q185)), .rd 0), (oG q187 q177 false (.len (.t q186)), .pu), (oG q188 q177 false (.binI .geq (.t q179) (.t q187)), .pu), (oO q189 (.pick (.t q177) (.c (.b true)) (.t q188)), .pu), (oM q190 q189, .pu), (oG q191 q190 false (.fa 3 (.t q1)), .pu), (oG q192 q190 false (.ld1 (.t q191)), .rd 0), (oG q193 q190 false (.ixA 3 1 (.t q9) (.c (.i .i64 0))), .pu), (oG q194 q190 false (.ld1 (.t q193)), .rd 0), (oG q195 q190 false (.ixS 3 (.t q192) (.t q194)), .pu), (oG q196 q190 false (.fa 1 (.t q195)), .pu), (oG q197 q190 false (.ld1 (.t q196)), .rd 0), (oG q198 q190 false (.ixA 3 1 (.t q9) (.c (.i .i64 1))), .pu), (oG q199 q190 false (.ld1 (.t q198)), .rd 0), (oG q200 q190 false (.ixS 1 (.t q197) (.t q199)), .pu), (oG q201 q190 false (.ld1 (.t q200)), .rd 0), (oG q202 q190 false (.fa 3 (.t q1)), .pu), (oG q203 q190 false (.ld1 (.t q202)), .rd 0), (oG q204 q190 false (.ixA 3 1 (.t q9) (.c (.i .i64 2))), .pu), (oG q205 q190 false (.ld1 (.t q204)), .rd 0), (oG q206 q190 false (.ixS 3 (.t q203) (.t q205)), .pu), (oG q207 q190 false (.fa 0 (.t q206)), .pu), (oG q208 q190 false (.ld1 (.t q207)), .rd 0)] [oG q209 q190 false (.binI .neq (.t q201) (.t q208)), oO q210 (.pick (.t q190) (.c (.b true)) (.t q209))] []) K34_7))) K34_8
def L34_10 : IC := .seq (.seq (.reg [oM q136 q8, oO q137 (.fa 4 (.t q1)), oO q138 (.ld1 (.t q137)), oO q139 (.len (.t q138)), oO q140 (.binI .lss (.t q136) (.t q139))]) (.cond (.t q140) .skip (.exit 5))) K34_9
def K34_11 : IC := .seq (.reg [oO q2 (.mov (.c (.i .i64 (.negSucc 0)))), oO q3 (.mov (.c (.i .i64 0)))]) .ret
def K34_12 : IC := .seq (.seq (.reg [oO q8 (.mov (.c (.i .i64 0)))]) (.block 5 (.loop L34_10))) K34_11
def K34_13 : IC := .seq (.seq (.reg [oO q4 (.mov (.c (.i .i64 0)))]) (.block 0 (.loop L34_6))) K34_12
def K34_14 : IC := .seq (.seq (.reg [oO q50 (.fa 5 (.t q1)), oO q51 (.ld1 (.t q50)), oO q52 (.len (.t q51)), oO q53 (.fa 3 (.t q1)), oO q54 (.ld1 (.t q53)), oO q55 (.len (.t q54)), oO q56 (.binI .gtr (.t q52) (.t q55)), oM q57 q56, oG q58 q57 false (.fa 6 (.t q1)), oG q59 q57 false (.ld1 (.t q58)), oG q60 q57 false (.len (.t q59)), oG q61 q57 false (.fa 1 (.t q1)), oG q62 q57 false (.ld1 (.t q61)), oG q63 q57 false (.binI .gtr (.t q60) (.t q62)), oO q64 (.pick (.t q57) (.c (.b true)) (.t q63)), oM q65 q64, oG q66 q65 false (.fa 5 (.t q1)), oG q67 q65 false (.ld1 (.t q66)), oG q68 q65 false (.call 46 [.t q67]), oG q69 q65 false (.un .not (.t q68)), oO q70 (.pick (.t q65) (.c (.b true)) (.t q69)), oM q71 q70, oG q72 q71 false (.fa 6 (.t q1)), oG q73 q71 false (.ld1 (.t q72)), oG q74 q71 false (.call 46 [.t q73]), oG q75 q71 false (.un .not (.t q74)), oO q76 (.pick (.t q71) (.c (.b true)) (.t q75))]) (.cond (.t q76) (.seq (.reg [oO q2 (.mov (.c (.i .i64 (.negSucc 0)))), oO q3 (.mov (.c (.i .i64 1)))]) .ret) .skip)) K34_13
def K34_15 : IC := .seq (.seq (.reg [oO q40 (.fa 2 (.t q1)), oO q41 (.ld1 (.t q40)), oO q42 (.binI .lss (.t q41) (.c (.i .i64 0))), oM q43 q42, oG q44 q43 false (.fa 2 (.t q1)), oG q45 q43 false (.ld1 (.t q44)), oG q46 q43 false (.fa 0 (.t q1)), oG q47 q43 false (.ld1 (.t q46)), oG q48 q43 false (.binI .geq (.t q45) (.t q47)), oO q49 (.pick (.t q43) (.c (.b true)) (.t q48))]) (.cond (.t q49) (.seq (.reg [oO q2 (.mov (.c (.i .i64 (.negSucc 0)))), oO q3 (.mov (.c (.i .i64 6)))]) .ret) .skip)) K34_14
def B34 : IC := .seq (.reg [oO q1 (.box (.t q0)), oO q2 (.mov (.c (.i .i64 0))), oO q3 (.mov (.c (.i .i64 0)))]) (.seq (.seq (.reg [oO q10 (.fa 0 (.t q1)), oO q11 (.ld1 (.t q10)), oO q12 (.binI .lss (.t q11) (.c (.i .i64 1))), oM q13 q12, oG q14 q13 false (.fa 0 (.t q1)), oG q15 q13 false (.ld1 (.t q14)), oG q16 q13 false (.binI .gtr (.t q15) (.c (.i .i64 40))), oO q17 (.pick (.t q13) (.c (.b true)) (.t q16)), oM q18 q17, oG q19 q18 false (.fa 1 (.t q1)), oG q20 q18 false (.ld1 (.t q19)), oG q21 q18 false (.binI .lss (.t q20) (.c (.i .i64 0))), oO q22 (.pick (.t q18) (.c (.b true)) (.t q21)), oM q23 q22, oG q24 q23 false (.fa 1 (.t q1)), oG q25 q23 false (.ld1 (.t q24)), oG q26 q23 false (.binI .gtr (.t q25) (.c (.i .i64 40))), oO q27 (.pick (.t q23) (.c (.b true)) (.t q26)), oM q28 q27, oG q29 q28 false (.fa 3 (.t q1)), oG q30 q28 false (.ld1 (.t q29)), oG q31 q28 false (.len (.t q30)), oG q32 q28 false (.binI .gtr (.t q31) (.c (.i .i64 60))), oO q33 (.pick (.t q28) (.c (.b true)) (.t q32)), oM q34 q33, oG q35 q34 false (.fa 4 (.t q1)), oG q36 q34 false (.ld1 (.t q35)), oG q37 q34 false (.len (.t q36)), oG q38 q34 false (.binI .gtr (.t q37) (.c (.i .i64 200))), oO q39 (.pick (.t q34) (.c (.b true)) (.t q38))]) (.cond (.t q39) (.seq (.reg [oO q2 (.mov (.c (.i .i64 (.negSucc 0)))), oO q3 (.mov (.c (.i .i64 3)))]) .ret) .skip)) K34_15)
def F34 : IFn := ⟨211, [.tmp q2, .tmp q3], B34⟩
theorem R34 : F34.res = [.tmp q2, .tmp q3] := rfl
theorem fits34 : FitsF Tryd.prog 34 F34 := cmpF_fits (pol := fun _ => false) Tryd.func34 (by kernel_rfl)
def K35_0 : IC := .reg [oO q39 (.binI .add (.t q21) (.c (.i .i64 1))), oM q21 q39]
def K35_1 : IC := .seq (.block 3 (.seq (.reg [oO q23 (.ixS 3 (.t q19) (.t q21)), oO q24 (.ldN 3 (.t q23)), oO q6 (.new [.i .i64 0, .nils, .i .i64 0]), ⟨none, none, .st 3 (.t q6) (.t q24)⟩]) (.reg [oM q25 q3, oO q26 (.fa 0 (.t q6)), oO q27 (.ld1 (.t q26)), oO q28 (.ixS 1 (.t q25) (.t q27)), oO q29 (.ld1 (.t q28)), oM q30 q29, oG q31 q30 true (.mov (.t q3)), oG q32 q30 true (.fa 1 (.t q6)), oG q33 q30 true (.ld1 (.t q32)), oG q34 q30 true (.call 48 [.t q31, .t q33]), oO q35 (.pick (.t q30) (.t q34) (.c (.b false))), oM q36 q35, oG q37 q36 false (.mov (.t q4)), oO q38 (.pick (.t q36) (.c (.b true)) (.t q37)), oM q4 q38]))) K35_0
def L35_2 : IC := .seq (.reg [oO q22 (.binI .lss (.t q21) (.t q20))]) (.seq (.cond (.t q22) .skip (.exit 2)) K35_1)
def K35_3 : IC := .block 1 (.seq (.reg [oO q4 (.mov (.c (.b false)))]) (.seq (.reg [oO q18 (.fa 3 (.t q1)), oO q19 (.ld1 (.t q18)), oO q20 (.len (.t q19)), oO q21 (.mov (.c (.i .i64 0)))]) (.block 2 (.loop L35_2))))
def L35_4 : IC := .seq (.seq (.reg [oM q17 q4]) (.cond (.t q17) .skip (.exit 0))) K35_3
def K35_5 : IC := .seq (.reg [oM q40 q3, oM q2 q40]) .ret
def K35_6 : IC := .seq (.reg [oO q10 (.fa 0 (.t q1)), oO q11 (.ld1 (.t q10)), oO q12 (.mks 1 1 [.b false] (.t q11) (.t q11)), oM q3 q12]) (.seq (.reg [oM q13 q3, oO q14 (.fa 2 (.t q1)), oO q15 (.ld1 (.t q14)), oO q16 (.ixS 1 (.t q13) (.t q15)), ⟨none, none, .st 1 (.t q16) (.c (.b true))⟩]) (.seq (.seq (.reg [oO q4 (.mov (.c (.b true)))]) (.block 0 (.loop L35_4))) K35_5))
def B35 : IC := .seq (.reg [oO q1 (.box (.t q0)), oO q2 (.mov (.c .nils))]) (.seq (.seq (.reg [oO q7 (.ldN 7 (.t q1)), oO q8 (.call 15 [.t q7]), oO q9 (.un .not (.t q8))]) (.cond (.t q9) (.seq (.reg [oO q2 (.mov (.c .nils))]) .ret) .skip)) K35_6)
def F35 : IFn := ⟨41, [.tmp q2], B35⟩
theorem R35 : F35.res = [.tmp q2] := rfl
theorem fits35 : FitsF Tryd.prog 35 F35 := cmpF_fits (pol := fun _ => false) Tryd.func35 (by kernel_rfl)
def K36_0 : IC := .reg [oO q25 (.binI .add (.t q15) (.c (.i .i64 1))), oM q15 q25]
def K36_1 : IC := .seq (.block 1 (.seq (.reg [oM q17 q15, oO q18 (.ixS 1 (.t q13) (.t q15)), oO q19 (.ld1 (.t q18)), oM q4 q17, oM q5 q19]) (.reg [oM q20 q3, oM q21 q4, oM q22 q5, oO q23 (.binI .neq (.t q22) (.c (.i .i64 (.negSucc 0)))), oO q24 (.ixS 1 (.t q20) (.t q21)), ⟨none, none, .st 1 (.t q24) (.t q23)⟩]))) K36_0
def L36_2 : IC := .seq (.reg [oO q16 (.binI .lss (.t q15) (.t q14))]) (.seq (.cond (.t q16) .skip (.exit 0)) K36_1)
def K36_3 : IC := .seq (.reg [oM q26 q3, oM q2 q26]) .ret
def K36_4 : IC := .seq (.reg [oO q9 (.fa 0 (.t q1)), oO q10 (.ld1 (.t q9)), oO q11 (.mks 1 1 [.b false] (.t q10) (.t q10)), oM q3 q11]) (.seq (.seq (.reg [oO q12 (.ldN 7 (.t q1)), oO q13 (.call 49 [.t q12]), oO q14 (.len (.t q13)), oO q15 (.mov (.c (.i .i64 0)))]) (.block 0 (.loop L36_2))) K36_3)
def B36 : IC := .seq (.reg [oO q1 (.box (.t q0)), oO q2 (.mov (.c .nils))]) (.seq (.seq (.reg [oO q6 (.ldN 7 (.t q1)), oO q7 (.call 15 [.t q6]), oO q8 (.un .not (.t q7))]) (.cond (.t q8) (.seq (.reg [oO q2 (.mov (.c .nils))]) .ret) .skip)) K36_4)
def F36 : IFn := ⟨27, [.tmp q2], B36⟩
theorem R36 : F36.res = [.tmp q2] := rfl
theorem fits36 : FitsF Tryd.prog 36 F36 := cmpF_fits (pol := fun _ => false) Tryd.func36 (by kernel_rfl)
def K37_0 : IC := .reg [oO q18 (.binI .add (.t q8) (.c (.i .i64 1))), oM q8 q18]
def K37_1 : IC := .seq (.block 1 (.seq (.reg [oM q10 q8, oM q5 q10]) (.seq (.reg [oM q11 q1, oM q12 q0, oM q13 q5, oO q14 (.ixS 1 (.t q12) (.t q13)), oO q15 (.ld1 (.t q14)), oO q16 (.binB .eql (.t q11) (.t q15))]) (.cond (.t q16) (.seq (.reg [oM q17 q5, oM q4 q17]) .ret) .skip)))) K37_0
def L37_2 : IC := .seq (.reg [oO q9 (.binI .lss (.t q8) (.t q7))]) (.seq (.cond (.t q9) .skip (.exit 0)) K37_1)
def K37_3 : IC := .seq (.reg [oO q4 (.mov (.c (.i .i64 (.negSucc 0))))]) .ret
def B37 : IC := .seq (.reg [oO q4 (.mov (.c (.i .i64 0)))]) (.seq (.seq (.reg [oM q6 q0, oO q7 (.len (.t q6)), oO q8 (.mov (.c (.i .i64 0)))]) (.block 0 (.loop L37_2))) K37_3)
def F37 : IFn := ⟨19, [.tmp q4], B37⟩
theorem R37 : F37.res = [.tmp q4] := rfl
theorem fits37 : FitsF Tryd.prog 37 F37 := cmpF_fits (pol := fun _ => false) Tryd.func37 (by kernel_rfl)
def K38_0 : IC := .reg [oO q30 (.binI .add (.t q18) (.c (.i .i64 1))), oM q18 q30]
def K38_1 : IC := .seq (.block 1 (.seq (.reg [oM q20 q18, oM q5 q20]) (.reg [oM q21 q4, oM q22 q5, oM q23 q3, oM q24 q5, oO q25 (.ixS 1 (.t q23) (.t q24)), oO q26 (.ld1 (.t q25)), oM q27 q5, oO q28 (.call 52 [.t q26, .t q27]), oO q29 (.ixS 1 (.t q21) (.t q22)), ⟨none, none, .st 1 (.t q29) (.t q28)⟩]))) K38_0
def L38_2 : IC := .seq (.reg [oO q19 (.binI .lss (.t q18) (.t q17))]) (.seq (.cond (.t q19) .skip (.exit 0)) K38_1)
def K38_3 : IC := .seq (.reg [oM q31 q4, oM q2 q31]) .ret
def K38_4 : IC := .seq (.reg [oO q9 (.ldN 7 (.t q1)), oO q10 (.call 50 [.t q9]), oM q3 q10]) (.seq (.reg [oM q11 q3, oO q12 (.call 51 [.t q11])]) (.seq (.reg [oO q13 (.fa 0 (.t q1)), oO q14 (.ld1 (.t q13)), oO q15 (.mks 1 1 [.b false] (.t q14) (.t q14)), oM q4 q15]) (.seq (.seq (.reg [oM q16 q4, oO q17 (.len (.t q16)), oO q18 (.mov (.c (.i .i64 0)))]) (.block 0 (.loop L38_2))) K38_3)))
def B38 : IC := .seq (.reg [oO q1 (.box (.t q0)), oO q2 (.mov (.c .nils))]) (.seq (.seq (.reg [oO q6 (.ldN 7 (.t q1)), oO q7 (.call 15 [.t q6]), oO q8 (.un .not (.t q7))]) (.cond (.t q8) (.seq (.reg [oO q2 (.mov (.c .nils))]) .ret) .skip)) K38_4)
def F38 : IFn := ⟨32, [.tmp q2], B38⟩
theorem R38 : F38.res = [.tmp q2] := rfl
theorem fits38 : FitsF Tryd.prog 38 F38 := cmpF_fits (pol := fun _ => false) Tryd.func38 (by kernel_rfl)
def K39_0 : IC := .reg [oO q44 (.binI .add (.t q21) (.c (.i .i64 1))), oM q21 q44]
def K39_1 : IC := .seq (.block 1 (.seq (.reg [oO q23 (.ixS 2 (.t q19) (.t q21)), oO q24 (.ldN 2 (.t q23)), oO q7 (.new [.i .i64 0, .i .i64 0]), ⟨none, none, .st 2 (.t q7) (.t q24)⟩]) (.seq (.reg [oO q26 (.ldN 7 (.t q2)), oO q27 (.ldN 2 (.t q7)), oO q28 (.call 32 [.t q26, .t q27]), oM q25 q28, oO q29 (.ext (.t q25) 0), oO q30 (.ext (.t q25) 1), oM q8 q29, oM q9 q30]) (.seq (.reg [oM q31 q9]) (.cond (.t q31) (.seq (.reg [oO q32 (.fa 1 (.t q7)), oO q33 (.ld1 (.t q32)), oO q34 (.binI .add (.t q33) (.c (.i .i64 1))), oO q35 (.fa 1 (.t q7)), ⟨none, none, .st 1 (.t q35) (.t q34)⟩]) (.dreg 0 [(oM q36 q5, .pu), (oO q37 (.fa 1 (.t q2)), .pu), (oO q38 (.ld1 (.t q37)), .rd 0), (oM q39 q8, .pu), (oO q40 (.binI .add (.t q38) (.t q39)), .pu), (oO q41 (.ixS 9 (.t q36) (.t q40)), .pu), (oO q42 (.ldN 2 (.t q7)), .rd 0)] [oO q43 (.call 17 [.t q41, .t q42])] [])) .skip))))) K39_0
def L39_2 : IC := .seq (.reg [oO q22 (.binI .lss (.t q21) (.t q20))]) (.seq (.cond (.t q22) .skip (.exit 0)) K39_1)
def K39_3 : IC := .seq (.reg [oM q45 q5, oM q4 q45]) .ret
def B39 : IC := .seq (.reg [oO q2 (.box (.t q0)), oO q3 (.box (.t q1)), oO q4 (.mov (.c .nils))]) (.seq (.reg [oO q10 (.fa 1 (.t q2)), oO q11 (.ld1 (.t q10)), oO q12 (.fa 0 (.t q2)), oO q13 (.ld1 (.t q12)), oO q14 (.binI .add (.t q11) (.t q13)), oO q15 (.mks 9 72 [.i .u64 0, .i .u64 0, .i .u64 0, .i .u64 0, .i .u64 0, .i .u64 0, .i .u64 0, .i .u64 0, .i .u64 0] (.t q14) (.t q14)), oM q5 q15]) (.seq (.seq (.reg [oO q16 (.ldN 7 (.t q2)), oO q17 (.ldN 9 (.t q3)), oO q18 (.call 18 [.t q16, .t q17]), oO q19 (.call 19 [.t q18]), oO q20 (.len (.t q19)), oO q21 (.mov (.c (.i .i64 0)))]) (.block 0 (.loop L39_2))) K39_3))
def F39 : IFn := ⟨46, [.tmp q4], B39⟩
theorem R39 : F39.res = [.tmp q4] := rfl
theorem fits39 : FitsF Tryd.prog 39 F39 := cmpF_fits (pol := fun _ => false) Tryd.func39 (by kernel_rfl)
def K40_0 : IC := .reg [oM q43 q7, oO q44 (.binI .add (.t q43) (.c (.i .i64 1))), oM q7 q44]
def K40_1 : IC := .seq (.block 5 (.seq (.reg [oO q45 (.fa 1 (.t q6)), oO q46 (.ld1 (.t q45)), oM q47 q7, oO q48 (.ixS 1 (.t q46) (.t q47)), oO q49 (.ld1 (.t q48)), oO q50 (.binI .geq (.t q49) (.c (.i .i64 0))), oM q51 q50, oG q52 q51 true (.mov (.t q3)), oG q53 q51 true (.fa 1 (.t q6)), oG q54 q51 true (.ld1 (.t q53)), oG q55 q51 true (.mov (.t q7)), oG q56 q51 true (.ixS 1 (.t q54) (.t q55)), oG q57 q51 true (.ld1 (.t q56)), oG q58 q51 true (.ixS 1 (.t q52) (.t q57)), oG q59 q51 true (.ld1 (.t q58)), oG q60 q51 true (.un .not (.t q59)), oO q61 (.pick (.t q51) (.t q60) (.c (.b false)))]) (.cond (.t q61) (.seq (.reg [oM q62 q3, oO q63 (.fa 1 (.t q6)), oO q64 (.ld1 (.t q63)), oM q65 q7, oO q66 (.ixS 1 (.t q64) (.t q65)), oO q67 (.ld1 (.t q66)), oO q68 (.ixS 1 (.t q62) (.t q67)), ⟨none, none, .st 1 (.t q68) (.c (.b true))⟩]) (.reg [oO q4 (.mov (.c (.b true)))])) .skip))) K40_0
def L40_2 : IC := .seq (.seq (.reg [oM q31 q7, oO q32 (.fa 1 (.t q6)), oO q33 (.ld1 (.t q32)), oO q34 (.len (.t q33)), oO q35 (.binI .lss (.t q31) (.t q34)), oM q36 q35, oG q37 q36 true (.mov (.t q3)), oG q38 q36 true (.fa 0 (.t q6)), oG q39 q36 true (.ld1 (.t q38)), oG q40 q36 true (.ixS 1 (.t q37) (.t q39)), oG q41 q36 true (.ld1 (.t q40)), oO q42 (.pick (.t q36) (.t q41) (.c (.b false)))]) (.cond (.t q42) .skip (.exit 4))) K40_1
def K40_3 : IC := .reg [oM q24 q5, oO q25 (.binI .add (.t q24) (.c (.i .i64 1))), oM q5 q25]
def K40_4 : IC := .seq (.block 3 (.seq (.reg [oO q26 (.fa 3 (.t q1)), oO q27 (.ld1 (.t q26)), oM q28 q5, oO q29 (.ixS 3 (.t q27) (.t q28)), oO q30 (.ldN 3 (.t q29)), oO q6 (.new [.i .i64 0, .nils, .i .i64 0]), ⟨none, none, .st 3 (.t q6) (.t q30)⟩]) (.seq (.reg [oO q7 (.mov (.c (.i .i64 0)))]) (.block 4 (.loop L40_2))))) K40_3
def L40_5 : IC := .seq (.seq (.reg [oM q19 q5, oO q20 (.fa 3 (.t q1)), oO q21 (.ld1 (.t q20)), oO q22 (.len (.t q21)), oO q23 (.binI .lss (.t q19) (.t q22))]) (.cond (.t q23) .skip (.exit 2))) K40_4
def K40_6 : IC := .block 1 (.seq (.reg [oO q4 (.mov (.c (.b false)))]) (.seq (.reg [oO q5 (.mov (.c (.i .i64 0)))]) (.block 2 (.loop L40_5))))
def L40_7 : IC := .seq (.seq (.reg [oM q18 q4]) (.cond (.t q18) .skip (.exit 0))) K40_6
def K40_8 : IC := .seq (.reg [oM q69 q3, oM q2 q69]) .ret
def K40_9 : IC := .seq (.reg [oO q11 (.fa 0 (.t q1)), oO q12 (.ld1 (.t q11)), oO q13 (.mks 1 1 [.b false] (.t q12) (.t q12)), oM q3 q13]) (.seq (.reg [oM q14 q3, oO q15 (.fa 2 (.t q1)), oO q16 (.ld1 (.t q15)), oO q17 (.ixS 1 (.t q14) (.t q16)), ⟨none, none, .st 1 (.t q17) (.c (.b true))⟩]) (.seq (.seq (.reg [oO q4 (.mov (.c (.b true)))]) (.block 0 (.loop L40_7))) K40_8))
def B40 : IC := .seq (.reg [oO q1 (.box (.t q0)), oO q2 (.mov (.c .nils))]) (.seq (.seq (.reg [oO q8 (.ldN 7 (.t q1)), oO q9 (.call 20 [.t q8]), oO q10 (.un .not (.t q9))]) (.cond (.t q10) (.seq (.reg [oO q2 (.mov (.c .nils))]) .ret) .skip)) K40_9)
def F40 : IFn := ⟨70, [.tmp q2], B40⟩
theorem R40 : F40.res = [.tmp q2] := rfl
theorem fits40 : FitsF Tryd.prog 40 F40 := cmpF_fits (pol := fun _ => false) Tryd.func40 (by kernel_rfl)
def K41_0 : IC := .reg [oM q15 q5, oO q16 (.binI .add (.t q15) (.c (.i .i64 1))), oM q5 q16]
def K41_1 : IC := .seq (.block 1 (.reg [oM q17 q4, oM q18 q3, oM q19 q5, oO q20 (.ixS 1 (.t q18) (.t q19)), oO q21 (.ld1 (.t q20)), oO q22 (.binI .geq (.t q21) (.c (.i .i64 0))), oO q23 (.bsl 1 1 [.b false] [(0, 1, .t q22)]), oO q24 (.app 1 1 (.t q17) (.t q23)), oM q4 q24])) K41_0
def L41_2 : IC := .seq (.seq (.reg [oM q11 q5, oM q12 q3, oO q13 (.len (.t q12)), oO q14 (.binI .lss (.t q11) (.t q13))]) (.cond (.t q14) .skip (.exit 0))) K41_1
def K41_3 : IC := .seq (.reg [oM q25 q4, oM q2 q25]) .ret
def K41_4 : IC := .seq (.reg [oO q9 (.ldN 7 (.t q1)), oO q10 (.call 53 [.t q9]), oM q3 q10]) (.seq (.reg [oO q4 (.mov (.c .nils))]) (.seq (.seq (.reg [oO q5 (.mov (.c (.i .i64 0)))]) (.block 0 (.loop L41_2))) K41_3))
def B41 : IC := .seq (.reg [oO q1 (.box (.t q0)), oO q2 (.mov (.c .nils))]) (.seq (.seq (.reg [oO q6 (.ldN 7 (.t q1)), oO q7 (.call 20 [.t q6]), oO q8 (.un .not (.t q7))]) (.cond (.t q8) (.seq (.reg [oO q2 (.mov (.c .nils))]) .ret) .skip)) K41_4)
def F41 : IFn := ⟨26, [.tmp q2], B41⟩
theorem R41 : F41.res = [.tmp q2] := rfl
theorem fits41 : FitsF Tryd.prog 41 F41 := cmpF_fits (pol := fun _ => false) Tryd.func41 (by kernel_rfl)
def K42_0 : IC := .reg [oM q29 q6, oO q30 (.binI .add (.t q29) (.c (.i .i64 1))), oM q6 q30]
def K42_1 : IC := .seq (.block 1 (.reg [oM q31 q5, oM q32 q6, oM q33 q4, oO q34 (.mks 1 1 [.b false] (.t q33) (.t q33)), oO q35 (.ixS 1 (.t q31) (.t q32)), ⟨none, none, .st 1 (.t q35) (.t q34)⟩])) K42_0
def L42_2 : IC := .seq (.seq (.reg [oM q26 q6, oM q27 q4, oO q28 (.binI .lss (.t q26) (.t q27))]) (.cond (.t q28) .skip (.exit 0))) K42_1
def K42_3 : IC := .reg [oM q69 q11, oO q70 (.binI .add (.t q69) (.c (.i .i64 1))), oM q11 q70]
def K42_4 : IC := .seq (.block 7 (.reg [oM q71 q11, oM q72 q9, oO q73 (.binI .eql (.t q71) (.t q72)), oM q74 q73, oG q75 q74 false (.fa 1 (.t q8)), oG q76 q74 false (.ld1 (.t q75)), oG q77 q74 false (.mov (.t q11)), oG q78 q74 false (.ixS 1 (.t q76) (.t q77)), oG q79 q74 false (.ld1 (.t q78)), oG q80 q74 false (.binI .geq (.t q79) (.c (.i .i64 0))), oG q81 q74 false (.mov (.t q80)), oG q82 q81 true (.mov (.t q3)), oG q83 q81 true (.fa 1 (.t q8)), oG q84 q81 true (.ld1 (.t q83)), oG q85 q81 true (.mov (.t q11)), oG q86 q81 true (.ixS 1 (.t q84) (.t q85)), oG q87 q81 true (.ld1 (.t q86)), oG q88 q81 true (.ixS 1 (.t q82) (.t q87)), oG q89 q81 true (.ld1 (.t q88)), oG q90 q74 false (.pick (.t q81) (.t q89) (.c (.b false))), oO q91 (.pick (.t q74) (.c (.b true)) (.t q90)), oM q10 q91])) K42_3
def L42_5 : IC := .seq (.seq (.reg [oM q61 q11, oO q62 (.fa 1 (.t q8)), oO q63 (.ld1 (.t q62)), oO q64 (.len (.t q63)), oO q65 (.binI .lss (.t q61) (.t q64)), oM q66 q65, oG q67 q66 true (.mov (.t q10)), oO q68 (.pick (.t q66) (.t q67) (.c (.b false)))]) (.cond (.t q68) .skip (.exit 6))) K42_4
def K42_6 : IC := .seq (.reg [oM q92 q10]) (.cond (.t q92) (.dreg 0 [(oM q93 q5, .pu), (oO q94 (.fa 0 (.t q8)), .pu), (oO q95 (.ld1 (.t q94)), .rd 0), (oO q96 (.ixS 1 (.t q93) (.t q95)), .pu), (oO q97 (.ld1 (.t q96)), .rd 0), (oO q98 (.fa 1 (.t q8)), .pu), (oO q99 (.ld1 (.t q98)), .rd 0), (oM q100 q9, .pu), (oO q101 (.ixS 1 (.t q99) (.t q100)), .pu), (oO q102 (.ld1 (.t q101)), .rd 0)] [oO q103 (.ixS 1 (.t q97) (.t q102)), ⟨none, none, .st 1 (.t q103) (.c (.b true))⟩] []) .skip)
def K42_7 : IC := .reg [oM q53 q9, oO q54 (.binI .add (.t q53) (.c (.i .i64 1))), oM q9 q54]
def K42_8 : IC := .seq (.block 5 (.seq (.reg [oO q55 (.fa 1 (.t q8)), oO q56 (.ld1 (.t q55)), oM q57 q9, oO q58 (.ixS 1 (.t q56) (.t q57)), oO q59 (.ld1 (.t q58)), oO q60 (.binI .geq (.t q59) (.c (.i .i64 0))), oM q10 q60]) (.seq (.seq (.reg [oO q11 (.mov (.c (.i .i64 0)))]) (.block 6 (.loop L42_5))) K42_6))) K42_7
def L42_9 : IC := .seq (.seq (.reg [oM q48 q9, oO q49 (.fa 1 (.t q8)), oO q50 (.ld1 (.t q49)), oO q51 (.len (.t q50)), oO q52 (.binI .lss (.t q48) (.t q51))]) (.cond (.t q52) .skip (.exit 4))) K42_8
def K42_10 : IC := .reg [oM q41 q7, oO q42 (.binI .add (.t q41) (.c (.i .i64 1))), oM q7 q42]
def K42_11 : IC := .seq (.block 3 (.seq (.reg [oO q43 (.fa 3 (.t q1)), oO q44 (.ld1 (.t q43)), oM q45 q7, oO q46 (.ixS 3 (.t q44) (.t q45)), oO q47 (.ldN 3 (.t q46)), oO q8 (.new [.i .i64 0, .nils, .i .i64 0]), ⟨none, none, .st 3 (.t q8) (.t q47)⟩]) (.seq (.reg [oO q9 (.mov (.c (.i .i64 0)))]) (.block 4 (.loop L42_9))))) K42_10
def L42_12 : IC := .seq (.seq (.reg [oM q36 q7, oO q37 (.fa 3 (.t q1)), oO q38 (.ld1 (.t q37)), oO q39 (.len (.t q38)), oO q40 (.binI .lss (.t q36) (.t q39))]) (.cond (.t q40) .skip (.exit 2))) K42_11
def K42_13 : IC := .reg [oM q117 q14, oO q118 (.binI .add (.t q117) (.c (.i .i64 1))), oM q14 q118]
def K42_14 : IC := .seq (.block 13 (.dreg 0 [(oM q119 q5, .pu), (oM q120 q13, .pu), (oO q121 (.ixS 1 (.t q119) (.t q120)), .pu), (oO q122 (.ld1 (.t q121)), .rd 0), (oM q123 q14, .pu), (oM q124 q5, .pu), (oM q125 q13, .pu), (oO q126 (.ixS 1 (.t q124) (.t q125)), .pu), (oO q127 (.ld1 (.t q126)), .rd 0), (oM q128 q14, .pu), (oO q129 (.ixS 1 (.t q127) (.t q128)), .pu), (oO q130 (.ld1 (.t q129)), .rd 0), (oM q131 q130, .pu), (oG q132 q131 false (.mov (.t q5)), .pu), (oG q133 q131 false (.mov (.t q13)), .pu), (oG q134 q131 false (.ixS 1 (.t q132) (.t q133)), .pu), (oG q135 q131 false (.ld1 (.t q134)), .rd 0), (oG q136 q131 false (.mov (.t q12)), .pu), (oG q137 q131 false (.ixS 1 (.t q135) (.t q136)), .pu), (oG q138 q131 false (.ld1 (.t q137)), .rd 0), (oG q139 q131 false (.mov (.t q138)), .pu), (oG q140 q139 true (.mov (.t q5)), .pu), (oG q141 q139 true (.mov (.t q12)), .pu), (oG q142 q139 true (.ixS 1 (.t q140) (.t q141)), .pu), (oG q143 q139 true (.ld1 (.t q142)), .rd 0), (oG q144 q139 true (.mov (.t q14)), .pu), (oG q145 q139 true (.ixS 1 (.t q143) (.t q144)), .pu), (oG q146 q139 true (.ld1 (.t q145)), .rd 0), (oG q147 q131 false (.pick (.t q139) (.t q146) (.c (.b false))), .pu), (oO q148 (.pick (.t q131) (.c (.b true)) (.t q147)), .pu)] [oO q149 (.ixS 1 (.t q122) (.t q123)), ⟨none, none, .st 1 (.t q149) (.t q148)⟩] [])) K42_13
def L42_15 : IC := .seq (.seq (.reg [oM q114 q14, oM q115 q4, oO q116 (.binI .lss (.t q114) (.t q115))]) (.cond (.t q116) .skip (.exit 12))) K42_14
def K42_16 : IC := .reg [oM q112 q13, oO q113 (.binI .add (.t q112) (.c (.i .i64 1))), oM q13 q113]
def K42_17 : IC := .seq (.block 11 (.seq (.reg [oO q14 (.mov (.c (.i .i64 0)))]) (.block 12 (.loop L42_15)))) K42_16
def L42_18 : IC := .seq (.seq (.reg [oM q109 q13, oM q110 q4, oO q111 (.binI .lss (.t q109) (.t q110))]) (.cond (.t q111) .skip (.exit 10))) K42_17
def K42_19 : IC := .reg [oM q107 q12, oO q108 (.binI .add (.t q107) (.c (.i .i64 1))), oM q12 q108]
def K42_20 : IC := .seq (.block 9 (.seq (.reg [oO q13 (.mov (.c (.i .i64 0)))]) (.block 10 (.loop L42_18)))) K42_19
def L42_21 : IC := .seq (.seq (.reg [oM q104 q12, oM q105 q4, oO q106 (.binI .lss (.t q104) (.t q105))]) (.cond (.t q106) .skip (.exit 8))) K42_20
def K42_22 : IC := .reg [oM q153 q16, oO q154 (.binI .add (.t q153) (.c (.i .i64 1))), oM q16 q154]
def K42_23 : IC := .seq (.block 15 (.reg [oM q155 q15, oM q156 q5, oM q157 q16, oO q158 (.ixS 1 (.t q156) (.t q157)), oO q159 (.ld1 (.t q158)), oM q160 q16, oO q161 (.ixS 1 (.t q159) (.t q160)), oO q162 (.ld1 (.t q161)), oO q163 (.bsl 1 1 [.b false] [(0, 1, .t q162)]), oO q164 (.app 1 1 (.t q155) (.t q163)), oM q15 q164])) K42_22
def L42_24 : IC := .seq (.seq (.reg [oM q150 q16, oM q151 q4, oO q152 (.binI .lss (.t q150) (.t q151))]) (.cond (.t q152) .skip (.exit 14))) K42_23
def K42_25 : IC := .seq (.reg [oM q165 q15, oM q2 q165]) .ret
def K42_26 : IC := .seq (.reg [oO q15 (.mov (.c .nils))]) (.seq (.seq (.reg [oO q16 (.mov (.c (.i .i64 0)))]) (.block 14 (.loop L42_24))) K42_25)
def K42_27 : IC := .seq (.seq (.reg [oO q12 (.mov (.c (.i .i64 0)))]) (.block 8 (.loop L42_21))) K42_26
def K42_28 : IC := .seq (.seq (.reg [oO q7 (.mov (.c (.i .i64 0)))]) (.block 2 (.loop L42_12))) K42_27
def K42_29 : IC := .seq (.reg [oO q20 (.ldN 7 (.t q1)), oO q21 (.call 54 [.t q20]), oM q3 q21]) (.seq (.reg [oO q22 (.fa 0 (.t q1)), oO q23 (.ld1 (.t q22)), oM q4 q23]) (.seq (.reg [oM q24 q4, oO q25 (.mks 1 24 [.nils] (.t q24) (.t q24)), oM q5 q25]) (.seq (.seq (.reg [oO q6 (.mov (.c (.i .i64 0)))]) (.block 0 (.loop L42_2))) K42_28)))
def B42 : IC := .seq (.reg [oO q1 (.box (.t q0)), oO q2 (.mov (.c .nils))]) (.seq (.seq (.reg [oO q17 (.ldN 7 (.t q1)), oO q18 (.call 20 [.t q17]), oO q19 (.un .not (.t q18))]) (.cond (.t q19) (.seq (.reg [oO q2 (.mov (.c .nils))]) .ret) .skip)) K42_29)
def F42 : IFn := ⟨166, [.tmp q2], B42⟩
theorem R42 : F42.res = [.tmp q2] := rfl
theorem fits42 : FitsF Tryd.prog 42 F42 := cmpF_fits (pol := fun _ => false) Tryd.func42 (by kernel_rfl)
def K43_0 : IC := .cond (.t q35) (.seq (.reg [oO q2 (.mov (.c (.i .i64 1)))]) .ret) .skip
def K43_1 : IC := .cond (.t q3) (.seq (.reg [oO q2 (.mov (.c (.i .i64 3)))]) .ret) (.seq (.reg [oO q29 (.fa 2 (.t q1)), oO q30 (.ld1 (.t q29)), oO q31 (.fa 0 (.t q1)), oO q32 (.ld1 (.t q31)), oO q33 (.call 55 [.t q30, .t q32]), oO q34 (.un .not (.t q33)), oM q28 q34]) (.cond (.t q28) (.seq (.reg [oO q2 (.mov (.c (.i .i64 6)))]) .ret) (.seq (.seq (.reg [oO q36 (.fa 5 (.t q1)), oO q37 (.ld1 (.t q36)), oO q38 (.fa 3 (.t q1)), oO q39 (.ld1 (.t q38)), oO q40 (.len (.t q39)), oO q41 (.call 56 [.t q37, .t q40]), oO q42 (.un .not (.t q41)), oM q35 q42]) (.cond (.t q35) .skip (.reg [oO q43 (.fa 6 (.t q1)), oO q44 (.ld1 (.t q43)), oO q45 (.fa 1 (.t q1)), oO q46 (.ld1 (.t q45)), oO q47 (.call 56 [.t q44, .t q46]), oO q48 (.un .not (.t q47)), oM q35 q48]))) K43_0)))
def K43_2 : IC := .seq (.reg [oO q2 (.mov (.c (.i .i64 0)))]) .ret
def B43 : IC := .seq (.reg [oO q1 (.box (.t q0)), oO q2 (.mov (.c (.i .i64 0)))]) (.seq (.block 0 (.seq (.seq (.reg [oO q4 (.fa 0 (.t q1)), oO q5 (.ld1 (.t q4)), oO q6 (.binI .lss (.t q5) (.c (.i .i64 1))), oM q7 q6, oG q8 q7 false (.fa 0 (.t q1)), oG q9 q7 false (.ld1 (.t q8)), oG q10 q7 false (.binI .gtr (.t q9) (.c (.i .i64 40))), oO q11 (.pick (.t q7) (.c (.b true)) (.t q10)), oM q3 q11]) (.cond (.t q3) .skip (.seq (.reg [oO q12 (.fa 1 (.t q1)), oO q13 (.ld1 (.t q12)), oO q14 (.binI .lss (.t q13) (.c (.i .i64 0))), oM q15 q14, oG q16 q15 false (.fa 1 (.t q1)), oG q17 q15 false (.ld1 (.t q16)), oG q18 q15 false (.binI .gtr (.t q17) (.c (.i .i64 40))), oO q19 (.pick (.t q15) (.c (.b true)) (.t q18)), oM q3 q19]) (.cond (.t q3) .skip (.seq (.reg [oO q20 (.fa 3 (.t q1)), oO q21 (.ld1 (.t q20)), oO q22 (.len (.t q21)), oO q23 (.binI .gtr (.t q22) (.c (.i .i64 60))), oM q3 q23]) (.cond (.t q3) .skip (.reg [oO q24 (.fa 4 (.t q1)), oO q25 (.ld1 (.t q24)), oO q26 (.len (.t q25)), oO q27 (.binI .gtr (.t q26) (.c (.i .i64 200))), oM q3 q27]))))))) K43_1)) K43_2)
def F43 : IFn := ⟨49, [.tmp q2], B43⟩
theorem R43 : F43.res = [.tmp q2] := rfl
theorem fits43 : FitsF Tryd.prog 43 F43 := cmpF_fits (pol := fun _ => false) Tryd.func43 (by kernel_rfl)
def K44_0 : IC := .cond (.t q7) (.seq (.reg [oO q4 (.mov (.c (.i .i64 6)))]) .ret) (.seq (.reg [oO q19 (.fa 1 (.t q3)), oO q20 (.ld1 (.t q19)), oO q21 (.len (.t q20)), oO q22 (.binI .gtr (.t q21) (.c (.i .i64 8))), oM q18 q22]) (.cond (.t q18) (.seq (.reg [oO q4 (.mov (.c (.i .i64 3)))]) .ret) (.seq (.reg [oO q24 (.fa 2 (.t q3)), oO q25 (.ld1 (.t q24)), oO q26 (.binI .lss (.t q25) (.c (.i .i64 (.negSucc 999)))), oM q27 q26, oG q28 q27 false (.fa 2 (.t q3)), oG q29 q27 false (.ld1 (.t q28)), oG q30 q27 false (.binI .gtr (.t q29) (.c (.i .i64 1000))), oO q31 (.pick (.t q27) (.c (.b true)) (.t q30)), oM q23 q31]) (.cond (.t q23) (.seq (.reg [oO q4 (.mov (.c (.i .i64 1)))]) .ret) .skip))))
def K44_1 : IC := .seq (.reg [oO q4 (.mov (.c (.i .i64 0)))]) .ret
def B44 : IC := .seq (.reg [oO q2 (.box (.t q0)), oO q3 (.box (.t q1)), oO q4 (.mov (.c (.i .i64 0)))]) (.seq (.reg [oO q6 (.mkf (.func 57) [] [.t q2]), oM q5 q6]) (.seq (.block 0 (.seq (.seq (.reg [oO q8 (.fa 0 (.t q3)), oO q9 (.ld1 (.t q8)), oO q10 (.fa 0 (.t q2)), oO q11 (.ld1 (.t q10)), oO q12 (.call 55 [.t q9, .t q11]), oO q13 (.un .not (.t q12)), oM q7 q13]) (.cond (.t q7) .skip (.reg [oO q14 (.fa 1 (.t q3)), oO q15 (.ld1 (.t q14)), oM q16 q5, oO q17 (.call 59 [.t q15, .t q16]), oM q7 q17]))) K44_0)) K44_1))
def F44 : IFn := ⟨32, [.tmp q4], B44⟩
theorem R44 : F44.res = [.tmp q4] := rfl
theorem fits44 : FitsF Tryd.prog 44 F44 := cmpF_fits (pol := fun _ => false) Tryd.func44 (by kernel_rfl)
def K45_0 : IC := .seq (.reg [oO q22 (.fa 3 (.t q2)), oO q23 (.ld1 (.t q22)), oO q24 (.ixA 3 1 (.t q3) (.c (.i .i64 0))), oO q25 (.ld1 (.t q24)), oO q26 (.ixS 3 (.t q23) (.t q25)), oO q27 (.fa 1 (.t q26)), oO q28 (.ld1 (.t q27)), oM q5 q28]) (.seq (.dreg 0 [(oO q29 (.ixA 3 1 (.t q3) (.c (.i .i64 1))), .pu), (oO q30 (.ld1 (.t q29)), .rd 0), (oM q31 q5, .pu), (oO q32 (.len (.t q31)), .pu), (oO q33 (.call 55 [.t q30, .t q32]), .md), (oM q34 q33, .pu), (oG q35 q34 true (.mov (.t q5)), .pu), (oG q36 q34 true (.ixA 3 1 (.t q3) (.c (.i .i64 1))), .pu), (oG q37 q34 true (.ld1 (.t q36)), .rd 0), (oG q38 q34 true (.ixS 1 (.t q35) (.t q37)), .pu), (oG q39 q34 true (.ld1 (.t q38)), .rd 0), (oG q40 q34 true (.fa 3 (.t q2)), .pu), (oG q41 q34 true (.ld1 (.t q40)), .rd 0), (oG q42 q34 true (.ixA 3 1 (.t q3) (.c (.i .i64 2))), .pu), (oG q43 q34 true (.ld1 (.t q42)), .rd 0), (oG q44 q34 true (.ixS 3 (.t q41) (.t q43)), .pu), (oG q45 q34 true (.fa 0 (.t q44)), .pu), (oG q46 q34 true (.ld1 (.t q45)), .rd 0)] [oG q47 q34 true (.binI .eql (.t q39) (.t q46)), oO q48 (.pick (.t q34) (.t q47) (.c (.b false))), oM q4 q48] []) .ret)
def B45 : IC := .seq (.reg [oO q2 (.box (.t q0)), oO q3 (.box (.t q1)), oO q4 (.mov (.c (.b false)))]) (.seq (.seq (.reg [oO q6 (.ixA 3 1 (.t q3) (.c (.i .i64 0))), oO q7 (.ld1 (.t q6)), oO q8 (.fa 3 (.t q2)), oO q9 (.ld1 (.t q8)), oO q10 (.len (.t q9)), oO q11 (.call 55 [.t q7, .t q10]), oO q12 (.un .not (.t q11)), oM q13 q12, oG q14 q13 false (.ixA 3 1 (.t q3) (.c (.i .i64 2))), oG q15 q13 false (.ld1 (.t q14)), oG q16 q13 false (.fa 3 (.t q2)), oG q17 q13 false (.ld1 (.t q16)), oG q18 q13 false (.len (.t q17)), oG q19 q13 false (.call 55 [.t q15, .t q18]), oG q20 q13 false (.un .not (.t q19)), oO q21 (.pick (.t q13) (.c (.b true)) (.t q20))]) (.cond (.t q21) (.seq (.reg [oO q4 (.mov (.c (.b false)))]) .ret) .skip)) K45_0)
def F45 : IFn := ⟨49, [.tmp q4], B45⟩
theorem R45 : F45.res = [.tmp q4] := rfl
theorem fits45 : FitsF Tryd.prog 45 F45 := cmpF_fits (pol := fun _ => false) Tryd.func45 (by kernel_rfl)
def K46_0 : IC := .reg [oM q8 q3, oO q9 (.binI .add (.t q8) (.c (.i .i64 1))), oM q3 q9]
def K46_1 : IC := .seq (.block 1 (.seq (.reg [oM q10 q0, oM q11 q3, oO q12 (.ixS 1 (.t q10) (.t q11)), oO q13 (.ld1 (.t q12)), oO q14 (.binI .lss (.t q13) (.c (.i .i64 0))), oM q15 q14, oG q16 q15 false (.mov (.t q0)), oG q17 q15 false (.mov (.t q3)), oG q18 q15 false (.ixS 1 (.t q16) (.t q17)), oG q19 q15 false (.ld1 (.t q18)), oG q20 q15 false (.binI .gtr (.t q19) (.c (.i .i64 100))), oO q21 (.pick (.t q15) (.c (.b true)) (.t q20))]) (.cond (.t q21) (.seq (.reg [oO q2 (.mov (.c (.b false)))]) .ret) .skip))) K46_0
def L46_2 : IC := .seq (.seq (.reg [oM q4 q3, oM q5 q0, oO q6 (.len (.t q5)), oO q7 (.binI .lss (.t q4) (.t q6))]) (.cond (.t q7) .skip (.exit 0))) K46_1
def K46_3 : IC := .seq (.reg [oO q2 (.mov (.c (.b true)))]) .ret
def B46 : IC := .seq (.reg [oO q2 (.mov (.c (.b false)))]) (.seq (.seq (.reg [oO q3 (.mov (.c (.i .i64 0)))]) (.block 0 (.loop L46_2))) K46_3)
def F46 : IFn := ⟨22, [.tmp q2], B46⟩
theorem R46 : F46.res = [.tmp q2] := rfl
theorem fits46 : FitsF Tryd.prog 46 F46 := cmpF_fits (pol := fun _ => false) Tryd.func46 (by kernel_rfl)
def K47_0 : IC := .seq (.reg [oM q12 q1, oO q13 (.fa 0 (.t q2)), oO q14 (.ld1 (.t q13)), oO q15 (.binI .lss (.t q12) (.t q14)), oM q4 q15]) .ret
def B47 : IC := .seq (.reg [oO q2 (.box (.t q0)), oO q4 (.mov (.c (.b false)))]) (.seq (.seq (.reg [oM q5 q1, oO q6 (.binI .lss (.t q5) (.c (.i .i64 0)))]) (.cond (.t q6) (.seq (.reg [oM q7 q1, oO q8 (.binI .sub (.c (.i .i64 (.negSucc 0))) (.t q7)), oO q9 (.fa 1 (.t q2)), oO q10 (.ld1 (.t q9)), oO q11 (.binI .lss (.t q8) (.t q10)), oM q4 q11]) .ret) .skip)) K47_0)
def F47 : IFn := ⟨16, [.tmp q4], B47⟩
theorem R47 : F47.res = [.tmp q4] := rfl
theorem fits47 : FitsF Tryd.prog 47 F47 := cmpF_fits (pol := fun _ => false) Tryd.func47 (by kernel_rfl)
def K48_0 : IC := .reg [oO q26 (.binI .add (.t q10) (.c (.i .i64 1))), oM q10 q26]
def K48_1 : IC := .seq (.block 1 (.seq (.reg [oO q12 (.ixS 1 (.t q8) (.t q10)), oO q13 (.ld1 (.t q12)), oM q7 q13]) (.seq (.reg [oM q14 q7, oO q15 (.binI .geq (.t q14) (.c (.i .i64 0))), oM q16 q15, oG q17 q16 true (.mov (.t q0)), oG q18 q16 true (.mov (.t q7)), oG q19 q16 true (.ixS 1 (.t q17) (.t q18)), oG q20 q16 true (.ld1 (.t q19)), oG q21 q16 true (.un .not (.t q20)), oO q22 (.pick (.t q16) (.t q21) (.c (.b false)))]) (.cond (.t q22) (.reg [oM q23 q0, oM q24 q7, oO q25 (.ixS 1 (.t q23) (.t q24)), ⟨none, none, .st 1 (.t q25) (.c (.b true))⟩, oO q5 (.mov (.c (.b true)))]) .skip)))) K48_0
def L48_2 : IC := .seq (.reg [oO q11 (.binI .lss (.t q10) (.t q9))]) (.seq (.cond (.t q11) .skip (.exit 0)) K48_1)
def K48_3 : IC := .seq (.reg [oM q27 q5, oM q4 q27]) .ret
def B48 : IC := .seq (.reg [oO q4 (.mov (.c (.b false)))]) (.seq (.reg [oO q5 (.mov (.c (.b false)))]) (.seq (.seq (.reg [oM q8 q1, oO q9 (.len (.t q8)), oO q10 (.mov (.c (.i .i64 0)))]) (.block 0 (.loop L48_2))) K48_3))
def F48 : IFn := ⟨28, [.tmp q4], B48⟩
theorem R48 : F48.res = [.tmp q4] := rfl
theorem fits48 : FitsF Tryd.prog 48 F48 := cmpF_fits (pol := fun _ => false) Tryd.func48 (by kernel_rfl)
def K49_0 : IC := .reg [oO q48 (.binI .add (.t q16) (.c (.i .i64 1))), oM q16 q48]
def K49_1 : IC := .seq (.block 3 (.seq (.reg [oO q18 (.ixS 3 (.t q14) (.t q16)), oO q19 (.ldN 3 (.t q18)), oO q6 (.new [.i .i64 0, .nils, .i .i64 0]), ⟨none, none, .st 3 (.t q6) (.t q19)⟩]) (.seq (.reg [oM q20 q3, oO q21 (.fa 1 (.t q6)), oO q22 (.ld1 (.t q21)), oO q23 (.call 61 [.t q20, .t q22]), oM q7 q23]) (.seq (.reg [oM q24 q7, oO q25 (.binI .neq (.t q24) (.c (.i .i64 (.negSucc 0)))), oM q26 q25, oG q27 q26 true (.mov (.t q3)), oG q28 q26 true (.fa 0 (.t q6)), oG q29 q26 true (.ld1 (.t q28)), oG q30 q26 true (.ixS 1 (.t q27) (.t q29)), oG q31 q26 true (.ld1 (.t q30)), oG q32 q26 true (.binI .eql (.t q31) (.c (.i .i64 (.negSucc 0)))), oG q33 q26 true (.mov (.t q32)), oG q34 q33 false (.mov (.t q7)), oG q35 q33 false (.mov (.t q3)), oG q36 q33 false (.fa 0 (.t q6)), oG q37 q33 false (.ld1 (.t q36)), oG q38 q33 false (.ixS 1 (.t q35) (.t q37)), oG q39 q33 false (.ld1 (.t q38)), oG q40 q33 false (.binI .lss (.t q34) (.t q39)), oG q41 q26 true (.pick (.t q33) (.c (.b true)) (.t q40)), oO q42 (.pick (.t q26) (.t q41) (.c (.b false)))]) (.cond (.t q42) (.reg [oM q43 q3, oO q44 (.fa 0 (.t q6)), oO q45 (.ld1 (.t q44)), oM q46 q7, oO q47 (.ixS 1 (.t q43) (.t q45)), ⟨none, none, .st 1 (.t q47) (.t q46)⟩, oO q4 (.mov (.c (.b true)))]) .skip))))) K49_0
def L49_2 : IC := .seq (.reg [oO q17 (.binI .lss (.t q16) (.t q15))]) (.seq (.cond (.t q17) .skip (.exit 2)) K49_1)
def K49_3 : IC := .block 1 (.seq (.reg [oO q4 (.mov (.c (.b false)))]) (.seq (.reg [oO q13 (.fa 3 (.t q1)), oO q14 (.ld1 (.t q13)), oO q15 (.len (.t q14)), oO q16 (.mov (.c (.i .i64 0)))]) (.block 2 (.loop L49_2))))
def L49_4 : IC := .seq (.seq (.reg [oM q12 q4]) (.cond (.t q12) .skip (.exit 0))) K49_3
def K49_5 : IC := .seq (.reg [oM q49 q3, oM q2 q49]) .ret
def B49 : IC := .seq (.reg [oO q1 (.box (.t q0)), oO q2 (.mov (.c .nils))]) (.seq (.reg [oO q8 (.bsl 1 1 [.i .i64 0] [(0, 1, .c (.i .i64 (.negSucc 0)))]), oO q9 (.fa 0 (.t q1)), oO q10 (.ld1 (.t q9)), oO q11 (.call 60 [.t q8, .t q10]), oM q3 q11]) (.seq (.seq (.reg [oO q4 (.mov (.c (.b true)))]) (.block 0 (.loop L49_4))) K49_5))
def F49 : IFn := ⟨50, [.tmp q2], B49⟩
theorem R49 : F49.res = [.tmp q2] := rfl
theorem fits49 : FitsF Tryd.prog 49 F49 := cmpF_fits (pol := fun _ => false) Tryd.func49 (by kernel_rfl)
def K50_0 : IC := .reg [oO q30 (.binI .add (.t q15) (.c (.i .i64 1))), oM q15 q30]
def K50_1 : IC := .seq (.block 1 (.seq (.reg [oO q17 (.ixS 3 (.t q13) (.t q15)), oO q18 (.ldN 3 (.t q17)), oO q6 (.new [.i .i64 0, .nils, .i .i64 0]), ⟨none, none, .st 3 (.t q6) (.t q18)⟩]) (.dreg 0 [(oM q19 q4, .pu), (oO q20 (.fa 0 (.t q6)), .pu), (oO q21 (.ld1 (.t q20)), .rd 0), (oO q22 (.ixS 1 (.t q19) (.t q21)), .pu), (oO q23 (.ld1 (.t q22)), .rd 0), (oM q24 q3, .pu), (oO q25 (.fa 1 (.t q6)), .pu), (oO q26 (.ld1 (.t q25)), .rd 0), (oO q27 (.call 63 [.t q24, .t q26]), .ad)] [oO q28 (.binI .or (.t q23) (.t q27)), oO q29 (.ixS 1 (.t q19) (.t q21)), ⟨none, none, .st 1 (.t q29) (.t q28)⟩] []))) K50_0
def L50_2 : IC := .seq (.reg [oO q16 (.binI .lss (.t q15) (.t q14))]) (.seq (.cond (.t q16) .skip (.exit 0)) K50_1)
def K50_3 : IC := .seq (.reg [oM q31 q4, oM q2 q31]) .ret
def B50 : IC := .seq (.reg [oO q1 (.box (.t q0)), oO q2 (.mov (.c .nils))]) (.seq (.reg [oO q7 (.ldN 7 (.t q1)), oO q8 (.call 62 [.t q7]), oM q3 q8]) (.seq (.reg [oO q9 (.fa 0 (.t q1)), oO q10 (.ld1 (.t q9)), oO q11 (.mks 1 8 [.i .u64 0] (.t q10) (.t q10)), oM q4 q11]) (.seq (.seq (.reg [oO q12 (.fa 3 (.t q1)), oO q13 (.ld1 (.t q12)), oO q14 (.len (.t q13)), oO q15 (.mov (.c (.i .i64 0)))]) (.block 0 (.loop L50_2))) K50_3)))
def F50 : IFn := ⟨32, [.tmp q2], B50⟩
theorem R50 : F50.res = [.tmp q2] := rfl
theorem fits50 : FitsF Tryd.prog 50 F50 := cmpF_fits (pol := fun _ => false) Tryd.func50 (by kernel_rfl)
def K51_0 : IC := .reg [oO q30 (.binI .add (.t q11) (.c (.i .i64 1))), oM q11 q30]
def K51_1 : IC := .seq (.block 3 (.seq (.reg [oM q13 q11, oM q3 q13]) (.seq (.reg [oM q14 q0, oM q15 q3, oO q16 (.ixS 1 (.t q14) (.t q15)), oO q17 (.ld1 (.t q16)), oM q18 q2, oO q19 (.call 52 [.t q17, .t q18])]) (.cond (.t q19) (.dreg 0 [(oM q20 q0, .pu), (oM q21 q3, .pu), (oO q22 (.ixS 1 (.t q20) (.t q21)), .pu), (oO q23 (.ld1 (.t q22)), .rd 0), (oM q24 q0, .pu), (oM q25 q2, .pu), (oO q26 (.ixS 1 (.t q24) (.t q25)), .pu), (oO q27 (.ld1 (.t q26)), .rd 0)] [oO q28 (.binI .or (.t q23) (.t q27)), oO q29 (.ixS 1 (.t q20) (.t q21)), ⟨none, none, .st 1 (.t q29) (.t q28)⟩] []) .skip)))) K51_0
def L51_2 : IC := .seq (.reg [oO q12 (.binI .lss (.t q11) (.t q10))]) (.seq (.cond (.t q12) .skip (.exit 2)) K51_1)
def K51_3 : IC := .reg [oO q31 (.binI .add (.t q6) (.c (.i .i64 1))), oM q6 q31]
def K51_4 : IC := .seq (.block 1 (.seq (.reg [oM q8 q6, oM q2 q8]) (.seq (.reg [oM q9 q0, oO q10 (.len (.t q9)), oO q11 (.mov (.c (.i .i64 0)))]) (.block 2 (.loop L51_2))))) K51_3
def L51_5 : IC := .seq (.reg [oO q7 (.binI .lss (.t q6) (.t q5))]) (.seq (.cond (.t q7) .skip (.exit 0)) K51_4)
def B51 : IC := .seq (.reg [oM q4 q0, oO q5 (.len (.t q4)), oO q6 (.mov (.c (.i .i64 0)))]) (.block 0 (.loop L51_5))
def F51 : IFn := ⟨32, [], B51⟩
theorem R51 : F51.res = [] := rfl
theorem fits51 : FitsF Tryd.prog 51 F51 := cmpF_fits (pol := fun _ => false) Tryd.func51 (by kernel_rfl)
def B52 : IC := .seq (.reg [oO q4 (.mov (.c (.b false)))]) (.seq (.reg [oM q5 q0, oM q6 q1, oO q7 (.call 64 [.t q6]), oO q8 (.binI .and (.t q5) (.t q7)), oO q9 (.binI .neq (.t q8) (.c (.i .u64 0))), oM q4 q9]) .ret)
def F52 : IFn := ⟨10, [.tmp q4], B52⟩
theorem R52 : F52.res = [.tmp q4] := rfl
theorem fits52 : FitsF Tryd.prog 52 F52 := cmpF_fits (pol := fun _ => false) Tryd.func52 (by kernel_rfl)
def K53_0 : IC := .reg [oM q20 q4, oO q21 (.binI .add (.t q20) (.c (.i .i64 1))), oM q4 q21]
def K53_1 : IC := .seq (.block 1 (.reg [oM q22 q3, oM q23 q4, oO q24 (.ixS 1 (.t q22) (.t q23)), ⟨none, none, .st 1 (.t q24) (.c (.i .i64 (.negSucc 0)))⟩])) K53_0
def L53_2 : IC := .seq (.seq (.reg [oM q16 q4, oO q17 (.fa 0 (.t q1)), oO q18 (.ld1 (.t q17)), oO q19 (.binI .lss (.t q16) (.t q18))]) (.cond (.t q19) .skip (.exit 0))) K53_1
def K53_3 : IC := .reg [oM q47 q9, oO q48 (.binI .add (.t q47) (.c (.i .i64 1))), oM q9 q48]
def K53_4 : IC := .seq (.block 7 (.block 8 (.seq (.reg [oO q60 (.fa 1 (.t q7)), oO q61 (.ld1 (.t q60)), oM q62 q9, oO q63 (.ixS 1 (.t q61) (.t q62)), oO q64 (.ld1 (.t q63)), oO q65 (.binI .lss (.t q64) (.c (.i .i64 0))), oM q59 q65]) (.cond (.t q59) (.reg [oM q66 q8, oO q67 (.binI .add (.t q66) (.c (.i .i64 1))), oM q8 q67]) (.seq (.reg [oM q69 q3, oO q70 (.fa 1 (.t q7)), oO q71 (.ld1 (.t q70)), oM q72 q9, oO q73 (.ixS 1 (.t q71) (.t q72)), oO q74 (.ld1 (.t q73)), oO q75 (.ixS 1 (.t q69) (.t q74)), oO q76 (.ld1 (.t q75)), oO q77 (.binI .lss (.t q76) (.c (.i .i64 0))), oM q68 q77]) (.cond (.t q68) (.reg [oO q8 (.mov (.c (.i .i64 (.negSucc 0))))]) (.reg [oM q49 q8, oM q50 q3, oO q51 (.fa 1 (.t q7)), oO q52 (.ld1 (.t q51)), oM q53 q9, oO q54 (.ixS 1 (.t q52) (.t q53)), oO q55 (.ld1 (.t q54)), oO q56 (.ixS 1 (.t q50) (.t q55)), oO q57 (.ld1 (.t q56)), oO q58 (.binI .add (.t q49) (.t q57)), oM q8 q58]))))))) K53_3
def L53_5 : IC := .seq (.seq (.reg [oM q38 q9, oO q39 (.fa 1 (.t q7)), oO q40 (.ld1 (.t q39)), oO q41 (.len (.t q40)), oO q42 (.binI .lss (.t q38) (.t q41)), oM q43 q42, oG q44 q43 true (.mov (.t q8)), oG q45 q43 true (.binI .geq (.t q44) (.c (.i .i64 0))), oO q46 (.pick (.t q43) (.t q45) (.c (.b false)))]) (.cond (.t q46) .skip (.exit 6))) K53_4
def K53_6 : IC := .seq (.reg [oM q80 q8, oO q81 (.binI .geq (.t q80) (.c (.i .i64 0))), oM q82 q81, oG q83 q82 true (.mov (.t q3)), oG q84 q82 true (.fa 0 (.t q7)), oG q85 q82 true (.ld1 (.t q84)), oG q86 q82 true (.ixS 1 (.t q83) (.t q85)), oG q87 q82 true (.ld1 (.t q86)), oG q88 q82 true (.binI .lss (.t q87) (.c (.i .i64 0))), oG q89 q82 true (.mov (.t q88)), oG q90 q89 false (.mov (.t q8)), oG q91 q89 false (.mov (.t q3)), oG q92 q89 false (.fa 0 (.t q7)), oG q93 q89 false (.ld1 (.t q92)), oG q94 q89 false (.ixS 1 (.t q91) (.t q93)), oG q95 q89 false (.ld1 (.t q94)), oG q96 q89 false (.binI .lss (.t q90) (.t q95)), oG q97 q82 true (.pick (.t q89) (.c (.b true)) (.t q96)), oO q98 (.pick (.t q82) (.t q97) (.c (.b false)))]) (.cond (.t q98) (.seq (.reg [oM q99 q3, oO q100 (.fa 0 (.t q7)), oO q101 (.ld1 (.t q100)), oM q102 q8, oO q103 (.ixS 1 (.t q99) (.t q101)), ⟨none, none, .st 1 (.t q103) (.t q102)⟩]) (.reg [oO q5 (.mov (.c (.b true)))])) .skip)
def K53_7 : IC := .seq (.seq (.reg [oM q78 q8, oO q79 (.binI .gtr (.t q78) (.c (.i .i64 1000000000)))]) (.cond (.t q79) (.reg [oO q8 (.mov (.c (.i .i64 1000000000)))]) .skip)) K53_6
def K53_8 : IC := .reg [oM q31 q6, oO q32 (.binI .add (.t q31) (.c (.i .i64 1))), oM q6 q32]
def K53_9 : IC := .seq (.block 5 (.seq (.reg [oO q33 (.fa 3 (.t q1)), oO q34 (.ld1 (.t q33)), oM q35 q6, oO q36 (.ixS 3 (.t q34) (.t q35)), oO q37 (.ldN 3 (.t q36)), oO q7 (.new [.i .i64 0, .nils, .i .i64 0]), ⟨none, none, .st 3 (.t q7) (.t q37)⟩]) (.seq (.reg [oO q8 (.mov (.c (.i .i64 0)))]) (.seq (.seq (.reg [oO q9 (.mov (.c (.i .i64 0)))]) (.block 6 (.loop L53_5))) K53_7)))) K53_8
def L53_10 : IC := .seq (.seq (.reg [oM q26 q6, oO q27 (.fa 3 (.t q1)), oO q28 (.ld1 (.t q27)), oO q29 (.len (.t q28)), oO q30 (.binI .lss (.t q26) (.t q29))]) (.cond (.t q30) .skip (.exit 4))) K53_9
def K53_11 : IC := .block 3 (.seq (.reg [oO q5 (.mov (.c (.b false)))]) (.seq (.reg [oO q6 (.mov (.c (.i .i64 0)))]) (.block 4 (.loop L53_10))))
def L53_12 : IC := .seq (.seq (.reg [oM q25 q5]) (.cond (.t q25) .skip (.exit 2))) K53_11
def K53_13 : IC := .seq (.reg [oM q104 q3, oM q2 q104]) .ret
def K53_14 : IC := .seq (.seq (.reg [oO q5 (.mov (.c (.b true)))]) (.block 2 (.loop L53_12))) K53_13
def K53_15 : IC := .seq (.reg [oO q13 (.fa 0 (.t q1)), oO q14 (.ld1 (.t q13)), oO q15 (.mks 1 8 [.i .i64 0] (.t q14) (.t q14)), oM q3 q15]) (.seq (.seq (.reg [oO q4 (.mov (.c (.i .i64 0)))]) (.block 0 (.loop L53_2))) K53_14)
def B53 : IC := .seq (.reg [oO q1 (.box (.t q0)), oO q2 (.mov (.c .nils))]) (.seq (.seq (.reg [oO q10 (.ldN 7 (.t q1)), oO q11 (.call 20 [.t q10]), oO q12 (.un .not (.t q11))]) (.cond (.t q12) (.seq (.reg [oO q2 (.mov (.c .nils))]) .ret) .skip)) K53_15)
def F53 : IFn := ⟨105, [.tmp q2], B53⟩
theorem R53 : F53.res = [.tmp q2] := rfl
theorem fits53 : FitsF Tryd.prog 53 F53 := cmpF_fits (pol := fun _ => false) Tryd.func53 (by kernel_rfl)
def K54_0 : IC := .reg [oM q42 q8, oO q43 (.binI .add (.t q42) (.c (.i .i64 1))), oM q8 q43]
def K54_1 : IC := .seq (.block 5 (.reg [oO q44 (.fa 1 (.t q6)), oO q45 (.ld1 (.t q44)), oM q46 q8, oO q47 (.ixS 1 (.t q45) (.t q46)), oO q48 (.ld1 (.t q47)), oO q49 (.binI .geq (.t q48) (.c (.i .i64 0))), oM q50 q49, oG q51 q50 true (.mov (.t q3)), oG q52 q50 true (.fa 1 (.t q6)), oG q53 q50 true (.ld1 (.t q52)), oG q54 q50 true (.mov (.t q8)), oG q55 q50 true (.ixS 1 (.t q53) (.t q54)), oG q56 q50 true (.ld1 (.t q55)), oG q57 q50 true (.ixS 1 (.t q51) (.t q56)), oG q58 q50 true (.ld1 (.t q57)), oO q59 (.pick (.t q50) (.t q58) (.c (.b false))), oM q7 q59])) K54_0
def L54_2 : IC := .seq (.seq (.reg [oM q34 q8, oO q35 (.fa 1 (.t q6)), oO q36 (.ld1 (.t q35)), oO q37 (.len (.t q36)), oO q38 (.binI .lss (.t q34) (.t q37)), oM q39 q38, oG q40 q39 true (.mov (.t q7)), oO q41 (.pick (.t q39) (.t q40) (.c (.b false)))]) (.cond (.t q41) .skip (.exit 4))) K54_1
def K54_3 : IC := .seq (.reg [oM q60 q7]) (.cond (.t q60) (.seq (.reg [oM q61 q3, oO q62 (.fa 0 (.t q6)), oO q63 (.ld1 (.t q62)), oO q64 (.ixS 1 (.t q61) (.t q63)), ⟨none, none, .st 1 (.t q64) (.c (.b true))⟩]) (.reg [oO q4 (.mov (.c (.b true)))])) .skip)
def K54_4 : IC := .reg [oM q21 q5, oO q22 (.binI .add (.t q21) (.c (.i .i64 1))), oM q5 q22]
def K54_5 : IC := .seq (.block 3 (.seq (.reg [oO q23 (.fa 3 (.t q1)), oO q24 (.ld1 (.t q23)), oM q25 q5, oO q26 (.ixS 3 (.t q24) (.t q25)), oO q27 (.ldN 3 (.t q26)), oO q6 (.new [.i .i64 0, .nils, .i .i64 0]), ⟨none, none, .st 3 (.t q6) (.t q27)⟩]) (.seq (.reg [oM q28 q3, oO q29 (.fa 0 (.t q6)), oO q30 (.ld1 (.t q29)), oO q31 (.ixS 1 (.t q28) (.t q30)), oO q32 (.ld1 (.t q31)), oO q33 (.un .not (.t q32)), oM q7 q33]) (.seq (.seq (.reg [oO q8 (.mov (.c (.i .i64 0)))]) (.block 4 (.loop L54_2))) K54_3)))) K54_4
def L54_6 : IC := .seq (.seq (.reg [oM q16 q5, oO q17 (.fa 3 (.t q1)), oO q18 (.ld1 (.t q17)), oO q19 (.len (.t q18)), oO q20 (.binI .lss (.t q16) (.t q19))]) (.cond (.t q20) .skip (.exit 2))) K54_5
def K54_7 : IC := .block 1 (.seq (.reg [oO q4 (.mov (.c (.b false)))]) (.seq (.reg [oO q5 (.mov (.c (.i .i64 0)))]) (.block 2 (.loop L54_6))))
def L54_8 : IC := .seq (.seq (.reg [oM q15 q4]) (.cond (.t q15) .skip (.exit 0))) K54_7
def K54_9 : IC := .seq (.reg [oM q65 q3, oM q2 q65]) .ret
def K54_10 : IC := .seq (.reg [oO q12 (.fa 0 (.t q1)), oO q13 (.ld1 (.t q12)), oO q14 (.mks 1 1 [.b false] (.t q13) (.t q13)), oM q3 q14]) (.seq (.seq (.reg [oO q4 (.mov (.c (.b true)))]) (.block 0 (.loop L54_8))) K54_9)
def B54 : IC := .seq (.reg [oO q1 (.box (.t q0)), oO q2 (.mov (.c .nils))]) (.seq (.seq (.reg [oO q9 (.ldN 7 (.t q1)), oO q10 (.call 20 [.t q9]), oO q11 (.un .not (.t q10))]) (.cond (.t q11) (.seq (.reg [oO q2 (.mov (.c .nils))]) .ret) .skip)) K54_10)
def F54 : IFn := ⟨66, [.tmp q2], B54⟩
theorem R54 : F54.res = [.tmp q2] := rfl
theorem fits54 : FitsF Tryd.prog 54 F54 := cmpF_fits (pol := fun _ => false) Tryd.func54 (by kernel_rfl)
def B55 : IC := .seq (.reg [oO q4 (.mov (.c (.b false)))]) (.seq (.reg [oM q5 q0, oO q6 (.binI .geq (.t q5) (.c (.i .i64 0))), oM q7 q6, oG q8 q7 true (.mov (.t q0)), oG q9 q7 true (.mov (.t q1)), oG q10 q7 true (.binI .lss (.t q8) (.t q9)), oO q11 (.pick (.t q7) (.t q10) (.c (.b false))), oM q4 q11]) .ret)
def F55 : IFn := ⟨12, [.tmp q4], B55⟩
theorem R55 : F55.res = [.tmp q4] := rfl
theorem fits55 : FitsF Tryd.prog 55 F55 := cmpF_fits (pol := fun _ => false) Tryd.func55 (by kernel_rfl)
def B56 : IC := .seq (.reg [oO q4 (.mov (.c (.b false)))]) (.seq (.reg [oO q5 (.mov (.c (.fn (.func 65) [] [])))]) (.seq (.reg [oM q6 q0, oO q7 (.len (.t q6)), oM q8 q1, oO q9 (.binI .leq (.t q7) (.t q8)), oM q10 q9, oG q11 q10 true (.mov (.t q0)), oG q12 q10 true (.mov (.t q5)), oG q13 q10 true (.call 59 [.t q11, .t q12]), oG q14 q10 true (.un .not (.t q13)), oO q15 (.pick (.t q10) (.t q14) (.c (.b false))), oM q4 q15]) .ret))
def F56 : IFn := ⟨16, [.tmp q4], B56⟩
theorem R56 : F56.res = [.tmp q4] := rfl
theorem fits56 : FitsF Tryd.prog 56 F56 := cmpF_fits (pol := fun _ => false) Tryd.func56 (by kernel_rfl)
def B57 : IC := .seq (.reg [oO q3 (.mov (.c (.b false)))]) (.seq (.reg [oO q4 (.ldN 7 (.t q1)), oM q5 q0, oO q6 (.call 58 [.t q4, .t q5]), oO q7 (.un .not (.t q6)), oM q3 q7]) .ret)
def F57 : IFn := ⟨8, [.tmp q3], B57⟩
theorem R57 : F57.res = [.tmp q3] := rfl
theorem fits57 : FitsF Tryd.prog 57 F57 := cmpF_fits (pol := fun _ => false) Tryd.func57 (by kernel_rfl)
def K58_0 : IC := .seq (.reg [oM q12 q1, oO q13 (.fa 0 (.t q2)), oO q14 (.ld1 (.t q13)), oO q15 (.call 55 [.t q12, .t q14]), oM q4 q15]) .ret
def B58 : IC := .seq (.reg [oO q2 (.box (.t q0)), oO q4 (.mov (.c (.b false)))]) (.seq (.seq (.reg [oM q5 q1, oO q6 (.binI .lss (.t q5) (.c (.i .i64 0)))]) (.cond (.t q6) (.seq (.reg [oM q7 q1, oO q8 (.binI .sub (.c (.i .i64 (.negSucc 0))) (.t q7)), oO q9 (.fa 1 (.t q2)), oO q10 (.ld1 (.t q9)), oO q11 (.call 55 [.t q8, .t q10]), oM q4 q11]) .ret) .skip)) K58_0)
def F58 : IFn := ⟨16, [.tmp q4], B58⟩
theorem R58 : F58.res = [.tmp q4] := rfl
theorem fits58 : FitsF Tryd.prog 58 F58 := cmpF_fits (pol := fun _ => false) Tryd.func58 (by kernel_rfl)
def B59 : IC := .seq (.reg [oO q4 (.mov (.c (.b false)))]) (.seq (.reg [oM q5 q0, oM q6 q1, oO q7 (.call 66 [.t q5, .t q6]), oO q8 (.binI .geq (.t q7) (.c (.i .i64 0))), oM q4 q8]) .ret)
def F59 : IFn := ⟨9, [.tmp q4], B59⟩
theorem R59 : F59.res = [.tmp q4] := rfl
theorem fits59 : FitsF Tryd.prog 59 F59 := cmpF_fits (pol := fun _ => false) Tryd.func59 (by kernel_rfl)
def K60_0 : IC := .block 1 (.dreg 0 [(oM q38 q8, .pu), (oM q39 q7, .pu), (oM q40 q8, .pu), (oO q41 (.cut 1 (.t q39) (some (.t q40)) none), .pu), (oM q42 q7, .pu), (oM q43 q8, .pu), (oO q44 (.cut 1 (.t q42) none (some (.t q43))), .pu), (oO q45 (.wrm .cpy (.t q41) (.t q44) (.t q44)), .md)] [oO q46 (.binI .add (.t q38) (.t q45)), oM q8 q46] [])
def L60_1 : IC := .seq (.seq (.reg [oM q34 q8, oM q35 q7, oO q36 (.len (.t q35)), oO q37 (.binI .lss (.t q34) (.t q36))]) (.cond (.t q37) .skip (.exit 0))) K60_0
def K60_2 : IC := .seq (.reg [oM q47 q7, oM q4 q47]) .ret
def K60_3 : IC := .seq (.reg [oM q28 q6, oO q29 (.cvI .i64 (.t q28)), oO q30 (.mks 1 8 [.i .i64 0] (.t q29) (.t q29)), oM q7 q30]) (.seq (.reg [oM q31 q7, oM q32 q0, oO q33 (.wrm .cpy (.t q31) (.t q32) (.t q32)), oM q8 q33]) (.seq (.block 0 (.loop L60_1)) K60_2))
def K60_4 : IC := .seq (.reg [oM q13 q0, oO q14 (.len (.t q13)), oO q15 (.cvI .u64 (.t q14)), oM q16 q1, oO q17 (.cvI .u64 (.t q16)), oO q18 (.call 67 [.t q15, .t q17]), oM q12 q18, oO q19 (.ext (.t q12) 0), oO q20 (.ext (.t q12) 1), oM q5 q19, oM q6 q20]) (.seq (.seq (.reg [oM q21 q5, oO q22 (.binI .gtr (.t q21) (.c (.i .u64 0))), oM q23 q22, oG q24 q23 false (.mov (.t q6)), oG q25 q23 false (.binI .gtr (.t q24) (.c (.i .u64 9223372036854775807))), oO q26 (.pick (.t q23) (.c (.b true)) (.t q25))]) (.cond (.t q26) (.reg [oO q27 (.bad), ⟨none, none, .bad⟩]) .skip)) K60_3)
def B60 : IC := .seq (.reg [oO q4 (.mov (.c .nils))]) (.seq (.seq (.reg [oM q9 q1, oO q10 (.binI .lss (.t q9) (.c (.i .i64 0)))]) (.cond (.t q10) (.reg [oO q11 (.bad), ⟨none, none, .bad⟩]) .skip)) K60_4)
def F60 : IFn := ⟨48, [.tmp q4], B60⟩
theorem R60 : F60.res = [.tmp q4] := rfl
theorem fits60 : FitsF Tryd.prog 60 F60 := cmpF_fits (pol := fun _ => false) Tryd.func60 (by kernel_rfl)
def K61_0 : IC := .reg [oM q23 q5, oM q24 q8, oO q25 (.binI .add (.t q23) (.t q24)), oO q26 (.mn (.t q25) (.c (.i .i64 1000000000))), oM q5 q26]
def K61_1 : IC := .seq (.seq (.reg [oM q21 q8, oO q22 (.binI .eql (.t q21) (.c (.i .i64 (.negSucc 0))))]) (.cond (.t q22) (.seq (.reg [oO q4 (.mov (.c (.i .i64 (.negSucc 0))))]) .ret) .skip)) K61_0
def K61_2 : IC := .reg [oO q27 (.binI .add (.t q11) (.c (.i .i64 1))), oM q11 q27]
def K61_3 : IC := .seq (.block 1 (.seq (.reg [oO q13 (.ixS 1 (.t q9) (.t q11)), oO q14 (.ld1 (.t q13)), oM q7 q14]) (.seq (.reg [oO q8 (.mov (.c (.i .i64 1)))]) (.seq (.seq (.reg [oM q15 q7, oO q16 (.binI .geq (.t q15) (.c (.i .i64 0)))]) (.cond (.t q16) (.reg [oM q17 q0, oM q18 q7, oO q19 (.ixS 1 (.t q17) (.t q18)), oO q20 (.ld1 (.t q19)), oM q8 q20]) .skip)) K61_1)))) K61_2
def L61_4 : IC := .seq (.reg [oO q12 (.binI .lss (.t q11) (.t q10))]) (.seq (.cond (.t q12) .skip (.exit 0)) K61_3)
def K61_5 : IC := .seq (.reg [oM q28 q5, oM q4 q28]) .ret
def B61 : IC := .seq (.reg [oO q4 (.mov (.c (.i .i64 0)))]) (.seq (.reg [oO q5 (.mov (.c (.i .i64 0)))]) (.seq (.seq (.reg [oM q9 q1, oO q10 (.len (.t q9)), oO q11 (.mov (.c (.i .i64 0)))]) (.block 0 (.loop L61_4))) K61_5))
def F61 : IFn := ⟨29, [.tmp q4], B61⟩
theorem R61 : F61.res = [.tmp q4] := rfl
theorem fits61 : FitsF Tryd.prog 61 F61 := cmpF_fits (pol := fun _ => false) Tryd.func61 (by kernel_rfl)
def K62_0 : IC := .seq (.reg [oO q6 (.ldN 7 (.t q1)), oO q7 (.call 68 [.t q6]), oO q8 (.fld1 0 (.t q7)), oM q2 q8]) .ret
def B62 : IC := .seq (.reg [oO q1 (.box (.t q0)), oO q2 (.mov (.c .nils))]) (.seq (.seq (.reg [oO q3 (.ldN 7 (.t q1)), oO q4 (.call 15 [.t q3]), oO q5 (.un .not (.t q4))]) (.cond (.t q5) (.seq (.reg [oO q2 (.mov (.c .nils))]) .ret) .skip)) K62_0)
def F62 : IFn := ⟨9, [.tmp q2], B62⟩
theorem R62 : F62.res = [.tmp q2] := rfl
theorem fits62 : FitsF Tryd.prog 62 F62 := cmpF_fits (pol := fun _ => false) Tryd.func62 (by kernel_rfl)
def K63_0 : IC := .reg [oO q36 (.binI .add (.t q10) (.c (.i .i64 1))), oM q10 q36]
def K63_1 : IC := .seq (.block 1 (.seq (.reg [oM q12 q10, oO q13 (.ixS 1 (.t q8) (.t q10)), oO q14 (.ld1 (.t q13)), oM q6 q12, oM q7 q14]) (.seq (.reg [oM q15 q7, oO q16 (.binI .geq (.t q15) (.c (.i .i64 0))), oM q17 q16, oG q18 q17 true (.mov (.t q0)), oG q19 q17 true (.mov (.t q1)), oG q20 q17 true (.mov (.t q6)), oG q21 q17 true (.cut 1 (.t q19) none (some (.t q20))), oG q22 q17 true (.call 69 [.t q18, .t q21]), oO q23 (.pick (.t q17) (.t q22) (.c (.b false))), oM q24 q23, oG q25 q24 true (.mov (.t q0)), oG q26 q24 true (.mov (.t q1)), oG q27 q24 true (.mov (.t q6)), oG q28 q24 true (.binI .add (.t q27) (.c (.i .i64 1))), oG q29 q24 true (.cut 1 (.t q26) (some (.t q28)) none), oG q30 q24 true (.call 69 [.t q25, .t q29]), oO q31 (.pick (.t q24) (.t q30) (.c (.b false)))]) (.cond (.t q31) (.reg [oM q32 q5, oM q33 q7, oO q34 (.call 64 [.t q33]), oO q35 (.binI .or (.t q32) (.t q34)), oM q5 q35]) .skip)))) K63_0
def L63_2 : IC := .seq (.reg [oO q11 (.binI .lss (.t q10) (.t q9))]) (.seq (.cond (.t q11) .skip (.exit 0)) K63_1)
def K63_3 : IC := .seq (.reg [oM q37 q5, oM q4 q37]) .ret
def B63 : IC := .seq (.reg [oO q4 (.mov (.c (.i .u64 0)))]) (.seq (.reg [oO q5 (.mov (.c (.i .u64 0)))]) (.seq (.seq (.reg [oM q8 q1, oO q9 (.len (.t q8)), oO q10 (.mov (.c (.i .i64 0)))]) (.block 0 (.loop L63_2))) K63_3))
def F63 : IFn := ⟨38, [.tmp q4], B63⟩
theorem R63 : F63.res = [.tmp q4] := rfl
theorem fits63 : FitsF Tryd.prog 63 F63 := cmpF_fits (pol := fun _ => false) Tryd.func63 (by kernel_rfl)
def B64 : IC := .seq (.reg [oO q2 (.mov (.c (.i .u64 0)))]) (.seq (.reg [oM q3 q0, oO q4 (.binI .shl (.c (.i .u64 1)) (.t q3)), oM q2 q4]) .ret)
def F64 : IFn := ⟨5, [.tmp q2], B64⟩
theorem R64 : F64.res = [.tmp q2] := rfl
theorem fits64 : FitsF Tryd.prog 64 F64 := cmpF_fits (pol := fun _ => false) Tryd.func64 (by kernel_rfl)
def B65 : IC := .seq (.reg [oO q2 (.mov (.c (.b false)))]) (.seq (.reg [oM q3 q0, oO q4 (.call 55 [.t q3, .c (.i .i64 101)]), oO q5 (.un .not (.t q4)), oM q2 q5]) .ret)
def F65 : IFn := ⟨6, [.tmp q2], B65⟩
theorem R65 : F65.res = [.tmp q2] := rfl
theorem fits65 : FitsF Tryd.prog 65 F65 := cmpF_fits (pol := fun _ => false) Tryd.func65 (by kernel_rfl)
def K66_0 : IC := .reg [oO q18 (.binI .add (.t q8) (.c (.i .i64 1))), oM q8 q18]
def K66_1 : IC := .seq (.block 1 (.seq (.reg [oM q10 q8, oM q5 q10]) (.seq (.reg [oM q11 q1, oM q12 q0, oM q13 q5, oO q14 (.ixS 1 (.t q12) (.t q13)), oO q15 (.ld1 (.t q14)), oO q16 (.callv (.t q11) [.t q15])]) (.cond (.t q16) (.seq (.reg [oM q17 q5, oM q4 q17]) .ret) .skip)))) K66_0
def L66_2 : IC := .seq (.reg [oO q9 (.binI .lss (.t q8) (.t q7))]) (.seq (.cond (.t q9) .skip (.exit 0)) K66_1)
def K66_3 : IC := .seq (.reg [oO q4 (.mov (.c (.i .i64 (.negSucc 0))))]) .ret
def B66 : IC := .seq (.reg [oO q4 (.mov (.c (.i .i64 0)))]) (.seq (.seq (.reg [oM q6 q0, oO q7 (.len (.t q6)), oO q8 (.mov (.c (.i .i64 0)))]) (.block 0 (.loop L66_2))) K66_3)
def F66 : IFn := ⟨19, [.tmp q4], B66⟩
theorem R66 : F66.res = [.tmp q4] := rfl
theorem fits66 : FitsF Tryd.prog 66 F66 := cmpF_fits (pol := fun _ => false) Tryd.func66 (by kernel_rfl)
def K67_0 : IC := .seq (.reg [oM q23 q0, oM q24 q1, oO q25 (.call 71 [.t q23, .t q24]), oM q22 q25, oO q26 (.ext (.t q22) 0), oO q27 (.ext (.t q22) 1), oM q8 q26, oM q9 q27]) (.seq (.reg [oM q28 q8, oM q29 q9, oM q4 q28, oM q5 q29]) .ret)
def B67 : IC := .seq (.reg [oO q4 (.mov (.c (.i .u64 0))), oO q5 (.mov (.c (.i .u64 0)))]) (.seq (.cond (.c (.b false)) (.seq (.reg [oM q11 q0, oO q12 (.cvI .u32 (.t q11)), oM q13 q1, oO q14 (.cvI .u32 (.t q13)), oO q15 (.call 70 [.t q12, .t q14]), oM q10 q15, oO q16 (.ext (.t q10) 0), oO q17 (.ext (.t q10) 1), oM q6 q16, oM q7 q17]) (.seq (.reg [oM q18 q6, oO q19 (.cvI .u64 (.t q18)), oM q20 q7, oO q21 (.cvI .u64 (.t q20)), oM q4 q19, oM q5 q21]) .ret)) .skip) K67_0)
def F67 : IFn := ⟨30, [.tmp q4, .tmp q5], B67⟩
theorem R67 : F67.res = [.tmp q4, .tmp q5] := rfl
theorem fits67 : FitsF Tryd.prog 67 F67 := cmpF_fits (pol := fun _ => false) Tryd.func67 (by kernel_rfl)
def K68_0 : IC := .reg [oO q40 (.binI .add (.t q20) (.c (.i .i64 1))), oM q20 q40]
def K68_1 : IC := .seq (.block 3 (.seq (.reg [oO q22 (.ixS 3 (.t q18) (.t q20)), oO q23 (.ldN 3 (.t q22)), oO q6 (.new [.i .i64 0, .nils, .i .i64 0]), ⟨none, none, .st 3 (.t q6) (.t q23)⟩]) (.seq (.reg [oO q25 (.ldN 2 (.t q3)), oO q26 (.fa 1 (.t q6)), oO q27 (.ld1 (.t q26)), oO q28 (.call 72 [.t q25, .t q27]), oM q24 q28, oO q29 (.ext (.t q24) 0), oO q30 (.ext (.t q24) 1), oM q7 q29, oM q8 q30]) (.reg [oO q31 (.ldN 2 (.t q3)), oO q32 (.fa 0 (.t q6)), oO q33 (.ld1 (.t q32)), oM q34 q7, oM q35 q8, oO q36 (.call 73 [.t q31, .t q33, .t q34, .t q35]), oM q37 q36, oG q38 q37 false (.mov (.t q4)), oO q39 (.pick (.t q37) (.c (.b true)) (.t q38)), oM q4 q39])))) K68_0
def L68_2 : IC := .seq (.reg [oO q21 (.binI .lss (.t q20) (.t q19))]) (.seq (.cond (.t q21) .skip (.exit 2)) K68_1)
def K68_3 : IC := .block 1 (.seq (.reg [oO q4 (.mov (.c (.b false)))]) (.seq (.reg [oO q17 (.fa 3 (.t q1)), oO q18 (.ld1 (.t q17)), oO q19 (.len (.t q18)), oO q20 (.mov (.c (.i .i64 0)))]) (.block 2 (.loop L68_2))))
def L68_4 : IC := .seq (.seq (.reg [oM q16 q4]) (.cond (.t q16) .skip (.exit 0))) K68_3
def K68_5 : IC := .seq (.reg [oO q41 (.ldN 2 (.t q3)), ⟨none, none, .st 2 (.t q2) (.t q41)⟩]) .ret
def K68_6 : IC := .seq (.seq (.reg [oO q4 (.mov (.c (.b true)))]) (.block 0 (.loop L68_4))) K68_5
def B68 : IC := .seq (.reg [oO q1 (.box (.t q0)), oO q2 (.new [.nils, .nils])]) (.seq (.dreg 3 [(oO q9 (.fa 0 (.t q1)), .pu), (oO q10 (.ld1 (.t q9)), .rd 0), (oO q11 (.mks 1 1 [.b false] (.t q10) (.t q10)), .fl 0), (oO q12 (.fa 0 (.t q1)), .pu), (oO q13 (.ld1 (.t q12)), .rd 0), (oO q14 (.mks 1 8 [.i .u64 0] (.t q13) (.t q13)), .fl 1), (oO q15 (.build [.nils, .nils] [(0, 1, .t q11), (1, 1, .t q14)]), .pu), (oO q3 (.new [.nils, .nils]), .fl 2)] [⟨none, none, .st 2 (.t q3) (.t q15)⟩] []) K68_6)
def F68 : IFn := ⟨42, [.cN q2 2], B68⟩
theorem R68 : F68.res = [.cN q2 2] := rfl
theorem fits68 : FitsF Tryd.prog 68 F68 := cmpF_fits (pol := fun _ => false) Tryd.func68 (by kernel_rfl)
def B69 : IC := .seq (.reg [oO q2 (.box (.t q0)), oO q4 (.mov (.c (.b false)))]) (.seq (.reg [oO q6 (.mkf (.func 74) [] [.t q2]), oM q5 q6]) (.seq (.reg [oM q7 q1, oM q8 q5, oO q9 (.call 59 [.t q7, .t q8]), oO q10 (.un .not (.t q9)), oM q4 q10]) .ret))
def F69 : IFn := ⟨11, [.tmp q4], B69⟩
theorem R69 : F69.res = [.tmp q4] := rfl
theorem fits69 : FitsF Tryd.prog 69 F69 := cmpF_fits (pol := fun _ => false) Tryd.func69 (by kernel_rfl)
def B70 : IC := .seq (.reg [oO q4 (.mov (.c (.i .u32 0))), oO q5 (.mov (.c (.i .u32 0)))]) (.seq (.reg [oM q7 q0, oO q8 (.cvI .u64 (.t q7)), oM q9 q1, oO q10 (.cvI .u64 (.t q9)), oO q11 (.binI .mul (.t q8) (.t q10)), oM q6 q11]) (.seq (.reg [oM q12 q6, oO q13 (.binI .shr (.t q12) (.c (.i .u64 32))), oO q14 (.cvI .u32 (.t q13)), oM q15 q6, oO q16 (.cvI .u32 (.t q15)), oM q4 q14, oM q5 q16]) .ret))
def F70 : IFn := ⟨17, [.tmp q4, .tmp q5], B70⟩
theorem R70 : F70.res = [.tmp q4, .tmp q5] := rfl
theorem fits70 : FitsF Tryd.prog 70 F70 := cmpF_fits (pol := fun _ => false) Tryd.func70 (by kernel_rfl)
def B71 : IC := .seq (.reg [oO q4 (.mov (.c (.i .u64 0))), oO q5 (.mov (.c (.i .u64 0)))]) (.seq (.reg [oM q14 q0, oO q15 (.binI .and (.t q14) (.c (.i .u64 4294967295))), oM q6 q15]) (.seq (.reg [oM q16 q0, oO q17 (.binI .shr (.t q16) (.c (.i .u64 32))), oM q7 q17]) (.seq (.reg [oM q18 q1, oO q19 (.binI .and (.t q18) (.c (.i .u64 4294967295))), oM q8 q19]) (.seq (.reg [oM q20 q1, oO q21 (.binI .shr (.t q20) (.c (.i .u64 32))), oM q9 q21]) (.seq (.reg [oM q22 q6, oM q23 q8, oO q24 (.binI .mul (.t q22) (.t q23)), oM q10 q24]) (.seq (.reg [oM q25 q7, oM q26 q8, oO q27 (.binI .mul (.t q25) (.t q26)), oM q28 q10, oO q29 (.binI .shr (.t q28) (.c (.i .u64 32))), oO q30 (.binI .add (.t q27) (.t q29)), oM q11 q30]) (.seq (.reg [oM q31 q11, oO q32 (.binI .and (.t q31) (.c (.i .u64 4294967295))), oM q12 q32]) (.seq (.reg [oM q33 q11, oO q34 (.binI .shr (.t q33) (.c (.i .u64 32))), oM q13 q34]) (.seq (.reg [oM q35 q12, oM q36 q6, oM q37 q9, oO q38 (.binI .mul (.t q36) (.t q37)), oO q39 (.binI .add (.t q35) (.t q38)), oM q12 q39]) (.seq (.reg [oM q40 q7, oM q41 q9, oO q42 (.binI .mul (.t q40) (.t q41)), oM q43 q13, oO q44 (.binI .add (.t q42) (.t q43)), oM q45 q12, oO q46 (.binI .shr (.t q45) (.c (.i .u64 32))), oO q47 (.binI .add (.t q44) (.t q46)), oM q4 q47]) (.seq (.reg [oM q48 q0, oM q49 q1, oO q50 (.binI .mul (.t q48) (.t q49)), oM q5 q50]) .ret)))))))))))
def F71 : IFn := ⟨51, [.tmp q4, .tmp q5], B71⟩
theorem R71 : F71.res = [.tmp q4, .tmp q5] := rfl
theorem fits71 : FitsF Tryd.prog 71 F71 := cmpF_fits (pol := fun _ => false) Tryd.func71 (by kernel_rfl)
def K72_0 : IC := .seq (.reg [oM q22 q6, oO q23 (.fa 1 (.t q2)), oO q24 (.ld1 (.t q23)), oM q25 q8, oO q26 (.ixS 1 (.t q24) (.t q25)), oO q27 (.ld1 (.t q26)), oO q28 (.binI .or (.t q22) (.t q27)), oM q6 q28]) (.seq (.reg [oO q29 (.fa 0 (.t q2)), oO q30 (.ld1 (.t q29)), oM q31 q8, oO q32 (.ixS 1 (.t q30) (.t q31)), oO q33 (.ld1 (.t q32)), oO q34 (.un .not (.t q33))]) (.cond (.t q34) (.seq (.reg [oM q35 q6, oM q4 q35, oO q5 (.mov (.c (.b false)))]) .ret) .skip))
def K72_1 : IC := .reg [oO q36 (.binI .add (.t q11) (.c (.i .i64 1))), oM q11 q36]
def K72_2 : IC := .seq (.block 1 (.seq (.reg [oO q13 (.ixS 1 (.t q9) (.t q11)), oO q14 (.ld1 (.t q13)), oM q8 q14]) (.seq (.seq (.reg [oM q15 q8, oO q16 (.binI .lss (.t q15) (.c (.i .i64 0)))]) (.cond (.t q16) (.seq (.reg [oM q17 q6, oM q18 q8, oO q19 (.binI .sub (.c (.i .i64 (.negSucc 0))) (.t q18)), oO q20 (.call 75 [.t q19]), oO q21 (.binI .or (.t q17) (.t q20)), oM q4 q21, oO q5 (.mov (.c (.b false)))]) .ret) .skip)) K72_0))) K72_1
def L72_3 : IC := .seq (.reg [oO q12 (.binI .lss (.t q11) (.t q10))]) (.seq (.cond (.t q12) .skip (.exit 0)) K72_2)
def K72_4 : IC := .seq (.reg [oM q37 q6, oM q4 q37, oO q5 (.mov (.c (.b true)))]) .ret
def B72 : IC := .seq (.reg [oO q2 (.box (.t q0)), oO q4 (.mov (.c (.i .u64 0))), oO q5 (.mov (.c (.b false)))]) (.seq (.reg [oO q6 (.mov (.c (.i .u64 0)))]) (.seq (.seq (.reg [oM q9 q1, oO q10 (.len (.t q9)), oO q11 (.mov (.c (.i .i64 0)))]) (.block 0 (.loop L72_3))) K72_4))
def F72 : IFn := ⟨38, [.tmp q4, .tmp q5], B72⟩
theorem R72 : F72.res = [.tmp q4, .tmp q5] := rfl
theorem fits72 : FitsF Tryd.prog 72 F72 := cmpF_fits (pol := fun _ => false) Tryd.func72 (by kernel_rfl)
def K73_0 : IC := .seq (.reg [oM q51 q9, oM q8 q51]) .ret
def B73 : IC := .seq (.reg [oO q4 (.box (.t q0)), oO q8 (.mov (.c (.b false)))]) (.seq (.reg [oM q10 q2, oO q11 (.fa 1 (.t q4)), oO q12 (.ld1 (.t q11)), oM q13 q1, oO q14 (.ixS 1 (.t q12) (.t q13)), oO q15 (.ld1 (.t q14)), oO q16 (.binI .or (.t q10) (.t q15)), oM q2 q16]) (.seq (.reg [oM q17 q3, oM q18 q17, oG q19 q18 false (.fa 0 (.t q4)), oG q20 q18 false (.ld1 (.t q19)), oG q21 q18 false (.mov (.t q1)), oG q22 q18 false (.ixS 1 (.t q20) (.t q21)), oG q23 q18 false (.ld1 (.t q22)), oO q24 (.pick (.t q18) (.c (.b true)) (.t q23)), oM q3 q24]) (.seq (.reg [oM q25 q2, oO q26 (.fa 1 (.t q4)), oO q27 (.ld1 (.t q26)), oM q28 q1, oO q29 (.ixS 1 (.t q27) (.t q28)), oO q30 (.ld1 (.t q29)), oO q31 (.binI .neq (.t q25) (.t q30)), oM q32 q31, oG q33 q32 false (.mov (.t q3)), oG q34 q32 false (.fa 0 (.t q4)), oG q35 q32 false (.ld1 (.t q34)), oG q36 q32 false (.mov (.t q1)), oG q37 q32 false (.ixS 1 (.t q35) (.t q36)), oG q38 q32 false (.ld1 (.t q37)), oG q39 q32 false (.binB .neq (.t q33) (.t q38)), oO q40 (.pick (.t q32) (.c (.b true)) (.t q39)), oM q9 q40]) (.seq (.dreg 0 [(oO q41 (.fa 1 (.t q4)), .pu), (oO q42 (.ld1 (.t q41)), .rd 0), (oM q43 q1, .pu), (oO q44 (.fa 0 (.t q4)), .pu), (oO q45 (.ld1 (.t q44)), .rd 0), (oM q46 q1, .pu), (oM q47 q2, .pu), (oM q48 q3, .pu), (oO q49 (.ixS 1 (.t q42) (.t q43)), .pu), (⟨none, none, .st 1 (.t q49) (.t q47)⟩, .md)] [oO q50 (.ixS 1 (.t q45) (.t q46)), ⟨none, none, .st 1 (.t q50) (.t q48)⟩] [(9, 4)]) K73_0))))
def F73 : IFn := ⟨52, [.tmp q8], B73⟩
theorem R73 : F73.res = [.tmp q8] := rfl
theorem fits73 : FitsF Tryd.prog 73 F73 := cmpF_fits (pol := fun _ => false) Tryd.func73 (by kernel_rfl)
def B74 : IC := .seq (.reg [oO q3 (.mov (.c (.b false)))]) (.seq (.reg [oM q4 q0, oO q5 (.binI .lss (.t q4) (.c (.i .i64 0))), oM q6 q5, oG q7 q6 false (.ld1 (.t q1)), oG q8 q6 false (.mov (.t q0)), oG q9 q6 false (.ixS 1 (.t q7) (.t q8)), oG q10 q6 false (.ld1 (.t q9)), oG q11 q6 false (.un .not (.t q10)), oO q12 (.pick (.t q6) (.c (.b true)) (.t q11)), oM q3 q12]) .ret)
def F74 : IFn := ⟨13, [.tmp q3], B74⟩
theorem R74 : F74.res = [.tmp q3] := rfl
theorem fits74 : FitsF Tryd.prog 74 F74 := cmpF_fits (pol := fun _ => false) Tryd.func74 (by kernel_rfl)
def B75 : IC := .seq (.reg [oO q2 (.mov (.c (.i .u64 0)))]) (.seq (.reg [oM q3 q0, oO q4 (.binI .shl (.c (.i .u64 1)) (.t q3)), oM q2 q4]) .ret)
def F75 : IFn := ⟨5, [.tmp q2], B75⟩
theorem R75 : F75.res = [.tmp q2] := rfl
theorem fits75 : FitsF Tryd.prog 75 F75 := cmpF_fits (pol := fun _ => false) Tryd.func75 (by kernel_rfl)
end Go.Proofs.YtpdcahaggacacaaDoor.K
set_option maxRecDepth 100000
namespace Go.Proofs.YtpdcahaggacacaaDoor.Ev
open Go
def fnsL : List (Nat × IFn) := [(6, K.F6), (9, K.F9), (11, K.F11), (14, K.F14), (15, K.F15), (16, K.F16), (17, K.F17), (18, K.F18), (19, K.F19), (24, K.F24), (25, K.F25), (26, K.F26), (30, K.F30), (31, K.F31), (32, K.F32), (33, K.F33), (35, K.F35), (36, K.F36), (37, K.F37), (38, K.F38), (39, K.F39), (43, K.F43), (44, K.F44), (45, K.F45), (48, K.F48), (49, K.F49), (50, K.F50), (51, K.F51), (52, K.F52), (55, K.F55), (56, K.F56), (57, K.F57), (58, K.F58), (59, K.F59), (60, K.F60), (61, K.F61), (62, K.F62), (63, K.F63), (64, K.F64), (65, K.F65), (66, K.F66), (67, K.F67), (68, K.F68), (69, K.F69), (70, K.F70), (71, K.F71), (72, K.F72), (73, K.F73), (74, K.F74), (75, K.F75)]
def fnsT : T IFn := ⟨⟨none, none, none, none, none, none, some K.F6, none, none, some K.F9, none, some K.F11, none, none, some K.F14, some K.F15⟩, some ⟨w1, ⟨some K.F16, some K.F17, some K.F18, some K.F19, none, none, none, none, some K.F24, some K.F25, some K.F26, none, none, none, some K.F30, some K.F31⟩, ⟨some K.F32, some K.F33, none, some K.F35, some K.F36, some K.F37, some K.F38, some K.F39, none, none, none, some K.F43, some K.F44, some K.F45, none, none⟩, ⟨some K.F48, some K.F49, some K.F50, some K.F51, some K.F52, none, none, some K.F55, some K.F56, some K.F57, some K.F58, some K.F59, some K.F60, some K.F61, some K.F62, some K.F63⟩, ⟨some K.F64, some K.F65, some K.F66, some K.F67, some K.F68, some K.F69, some K.F70, some K.F71, some K.F72, some K.F73, some K.F74, some K.F75, none, none, none, none⟩, w1, w1, w1, w1, w1, w1, w1, w1, w1, w1, w1⟩, none, none, .lf⟩
theorem fnsT_eq : fnsT = mkT fnsL := by kernel_rfl
noncomputable def fns (g : Nat) : Option IFn := idK fnsT g
theorem fns_ok : ∀ g fn, fns g = some fn → FitsF Tryd.prog g fn :=
 fits_of fnsT_eq fun x hx => by
  unfold fnsL at hx
  simp only [List.mem_cons, List.not_mem_nil, or_false] at hx
  rcases hx with rfl | rfl | rfl | rfl | rfl | rfl | rfl | rfl | rfl | rfl | rfl | rfl | rfl | rfl | rfl | rfl | rfl | rfl | rfl | rfl | rfl | rfl | rfl | rfl | rfl | rfl | rfl | rfl | rfl | rfl | rfl | rfl | rfl | rfl | rfl | rfl | rfl | rfl | rfl | rfl | rfl | rfl | rfl | rfl | rfl | rfl | rfl | rfl | rfl | rfl
  ·exact K.fits6
  ·exact K.fits9
  ·exact K.fits11
  ·exact K.fits14
  ·exact K.fits15
  ·exact K.fits16
  ·exact K.fits17
  ·exact K.fits18
  ·exact K.fits19
  ·exact K.fits24
  ·exact K.fits25
  ·exact K.fits26
  ·exact K.fits30
  ·exact K.fits31
  ·exact K.fits32
  ·exact K.fits33
  ·exact K.fits35
  ·exact K.fits36
  ·exact K.fits37
  ·exact K.fits38
  ·exact K.fits39
  ·exact K.fits43
  ·exact K.fits44
  ·exact K.fits45
  ·exact K.fits48
  ·exact K.fits49
  ·exact K.fits50
  ·exact K.fits51
  ·exact K.fits52
  ·exact K.fits55
  ·exact K.fits56
  ·exact K.fits57
  ·exact K.fits58
  ·exact K.fits59
  ·exact K.fits60
  ·exact K.fits61
  ·exact K.fits62
  ·exact K.fits63
  ·exact K.fits64
  ·exact K.fits65
  ·exact K.fits66
  ·exact K.fits67
  ·exact K.fits68
  ·exact K.fits69
  ·exact K.fits70
  ·exact K.fits71
  ·exact K.fits72
  ·exact K.fits73
  ·exact K.fits74
  ·exact K.fits75
end Go.Proofs.YtpdcahaggacacaaDoor.Ev
set_option linter.unusedSimpArgs false
namespace Go.Proofs.YtpdcahaggacacaaDoor
open Go Go.RowKit Kit Ev
set_option maxRecDepth 1000000
noncomputable def gaveB (b : Bool) : Option (MV × MH) → Bool
 | some (.b c, _) => c == b
 | _ => false
theorem gave_some {b : Bool} {r : Option (MV × MH)} (h : gaveB b r = true) : ∃ M', r = some (.b b, M') := by
 unfold gaveB at h
 split at h
 ·rename_i c M'
  simp only [beq_iff_eq] at h
  subst h
  exact ⟨M', rfl⟩
 ·cases h
theorem opened0 {w : World} (h : Tab w) : Opened Tryd.prog w (Btab 64) (Mtab tabZ) := opened_tab (fun g id cap e => by
 unfold gtab at e
 split at e
 ·rename_i hg
  injection e with e
  injection e with e1 e2
  exact ⟨hg, e1.symm, e2.symm⟩
 ·cases e) (by decide) h
theorem mixed : Tryd.prog.follows .mixedOrders = true := by kernel_rfl
theorem alive_of {g : Nat} (hr : gaveB true (callF fns 300 g [] (Mtab tabZ)) = true) (w : World) (ht : Tab w) : Calls Tryd.prog g #[] w fun e w' => e = .returned (.bool true) ∧ Kept w w' := by
 obtain ⟨M', h⟩ := gave_some hr
 have hO := opened0 ht
 refine (calls_run_at (P := Tryd.prog) mixed fns_ok 300 g [] [] (.b true) (Btab 64) (Mtab tabZ) M' w hO.glob hO.inv hO.ro h (DenL.nil _)).mono ?_
 rintro e w' ⟨v, β', rfl, hd, hk⟩
 cases hd
 exact ⟨rfl, hk⟩
theorem run6 : gaveB true (callF fns 300 6 [] (Mtab tabZ)) = true := by kernel_rfl
theorem sem_alive6 : SemF Tryd.prog 6 (Ftab tabZ) := by
 obtain ⟨c, hc⟩ : ∃ c, Tryd.f6.body = some c := Option.isSome_iff_exists.1 (by kernel_rfl)
 exact sem_tab (q := 64) rfl Tryd.func6 (by kernel_rfl) hc (alive_of run6)
end Go.Proofs.YtpdcahaggacacaaDoor
set_option maxRecDepth 100000
namespace Go.Proofs.YtpdcahaggacacaaDoor.K
open Go Ev
abbrev G6 : IFn := Ftab tabZ
theorem gfits6 : FitsF Tryd.prog 6 G6 := .inr sem_alive6
def fnsL : List (Nat × IFn) := [(4, F4), (6, G6), (7, F7), (8, F8), (9, F9), (10, F10), (11, F11), (12, F12), (13, F13), (14, F14), (15, F15), (16, F16), (17, F17), (18, F18), (19, F19), (20, F20), (21, F21), (22, F22), (23, F23), (24, F24), (25, F25), (26, F26), (27, F27), (28, F28), (29, F29), (30, F30), (31, F31), (32, F32), (33, F33), (34, F34), (35, F35), (36, F36), (37, F37), (38, F38), (39, F39), (40, F40), (41, F41), (42, F42), (43, F43), (44, F44), (45, F45), (46, F46), (47, F47), (48, F48), (49, F49), (50, F50), (51, F51), (52, F52), (53, F53), (54, F54), (55, F55), (56, F56), (57, F57), (58, F58), (59, F59), (60, F60), (61, F61), (62, F62), (63, F63), (64, F64), (65, F65), (66, F66), (67, F67), (68, F68), (69, F69), (70, F70), (71, F71), (72, F72), (73, F73), (74, F74), (75, F75)]
def fnsT : T IFn := ⟨⟨none, none, none, none, some F4, none, some G6, some F7, some F8, some F9, some F10, some F11, some F12, some F13, some F14, some F15⟩, some ⟨w1, ⟨some F16, some F17, some F18, some F19, some F20, some F21, some F22, some F23, some F24, some F25, some F26, some F27, some F28, some F29, some F30, some F31⟩, ⟨some F32, some F33, some F34, some F35, some F36, some F37, some F38, some F39, some F40, some F41, some F42, some F43, some F44, some F45, some F46, some F47⟩, ⟨some F48, some F49, some F50, some F51, some F52, some F53, some F54, some F55, some F56, some F57, some F58, some F59, some F60, some F61, some F62, some F63⟩, ⟨some F64, some F65, some F66, some F67, some F68, some F69, some F70, some F71, some F72, some F73, some F74, some F75, none, none, none, none⟩, w1, w1, w1, w1, w1, w1, w1, w1, w1, w1, w1⟩, none, none, .lf⟩
theorem fnsT_eq : fnsT = mkT fnsL := by kernel_rfl
noncomputable def fns (g : Nat) : Option IFn := idK fnsT g
theorem fns_ok : ∀ g fn, fns g = some fn → FitsF Tryd.prog g fn :=
 fits_of fnsT_eq fun x hx => by
  unfold fnsL at hx
  simp only [List.mem_cons, List.not_mem_nil, or_false] at hx
  rcases hx with rfl | rfl | rfl | rfl | rfl | rfl | rfl | rfl | rfl | rfl | rfl | rfl | rfl | rfl | rfl | rfl | rfl | rfl | rfl | rfl | rfl | rfl | rfl | rfl | rfl | rfl | rfl | rfl | rfl | rfl | rfl | rfl | rfl | rfl | rfl | rfl | rfl | rfl | rfl | rfl | rfl | rfl | rfl | rfl | rfl | rfl | rfl | rfl | rfl | rfl | rfl | rfl | rfl | rfl | rfl | rfl | rfl | rfl | rfl | rfl | rfl | rfl | rfl | rfl | rfl | rfl | rfl | rfl | rfl | rfl | rfl
  ·exact fits4
  ·exact gfits6
  ·exact fits7
  ·exact fits8
  ·exact fits9
  ·exact fits10
  ·exact fits11
  ·exact fits12
  ·exact fits13
  ·exact fits14
  ·exact fits15
  ·exact fits16
  ·exact fits17
  ·exact fits18
  ·exact fits19
  ·exact fits20
  ·exact fits21
  ·exact fits22
  ·exact fits23
  ·exact fits24
  ·exact fits25
  ·exact fits26
  ·exact fits27
  ·exact fits28
  ·exact fits29
  ·exact fits30
  ·exact fits31
  ·exact fits32
  ·exact fits33
  ·exact fits34
  ·exact fits35
  ·exact fits36
  ·exact fits37
  ·exact fits38
  ·exact fits39
  ·exact fits40
  ·exact fits41
  ·exact fits42
  ·exact fits43
  ·exact fits44
  ·exact fits45
  ·exact fits46
  ·exact fits47
  ·exact fits48
  ·exact fits49
  ·exact fits50
  ·exact fits51
  ·exact fits52
  ·exact fits53
  ·exact fits54
  ·exact fits55
  ·exact fits56
  ·exact fits57
  ·exact fits58
  ·exact fits59
  ·exact fits60
  ·exact fits61
  ·exact fits62
  ·exact fits63
  ·exact fits64
  ·exact fits65
  ·exact fits66
  ·exact fits67
  ·exact fits68
  ·exact fits69
  ·exact fits70
  ·exact fits71
  ·exact fits72
  ·exact fits73
  ·exact fits74
  ·exact fits75
theorem bxR : type_of% ((And.intro R4 ((And.intro R7 (And.intro R8 (And.intro R9 (And.intro R10 (And.intro R11 (And.intro R12 (And.intro R13 (And.intro R14 (And.intro R15 (And.intro R16 (And.intro R17 (And.intro R18 (And.intro R19 (And.intro R20 (And.intro R21 (And.intro R22 (And.intro R23 (And.intro R24 (And.intro R25 (And.intro R26 (And.intro R27 (And.intro R28 (And.intro R29 (And.intro R30 (And.intro R31 (And.intro R32 (And.intro R33 (And.intro R34 (And.intro R35 (And.intro R36 (And.intro R37 (And.intro R38 (And.intro R39 (And.intro R40 (And.intro R41 (And.intro R42 (And.intro R43 (And.intro R44 (And.intro R45 (And.intro R46 (And.intro R47 (And.intro R48 (And.intro R49 (And.intro R50 (And.intro R51 (And.intro R52 (And.intro R53 (And.intro R54 (And.intro R55 (And.intro R56 (And.intro R57 (And.intro R58 (And.intro R59 (And.intro R60 (And.intro R61 (And.intro R62 (And.intro R63 (And.intro R64 (And.intro R65 (And.intro R66 (And.intro R67 (And.intro R68 (And.intro R69 (And.intro R70 (And.intro R71 (And.intro R72 (And.intro R73 (And.intro R74 (R75)))))))))))))))))))))))))))))))))))))))))))))))))))))))))))))))))))))))) := (And.intro R4 ((And.intro R7 (And.intro R8 (And.intro R9 (And.intro R10 (And.intro R11 (And.intro R12 (And.intro R13 (And.intro R14 (And.intro R15 (And.intro R16 (And.intro R17 (And.intro R18 (And.intro R19 (And.intro R20 (And.intro R21 (And.intro R22 (And.intro R23 (And.intro R24 (And.intro R25 (And.intro R26 (And.intro R27 (And.intro R28 (And.intro R29 (And.intro R30 (And.intro R31 (And.intro R32 (And.intro R33 (And.intro R34 (And.intro R35 (And.intro R36 (And.intro R37 (And.intro R38 (And.intro R39 (And.intro R40 (And.intro R41 (And.intro R42 (And.intro R43 (And.intro R44 (And.intro R45 (And.intro R46 (And.intro R47 (And.intro R48 (And.intro R49 (And.intro R50 (And.intro R51 (And.intro R52 (And.intro R53 (And.intro R54 (And.intro R55 (And.intro R56 (And.intro R57 (And.intro R58 (And.intro R59 (And.intro R60 (And.intro R61 (And.intro R62 (And.intro R63 (And.intro R64 (And.intro R65 (And.intro R66 (And.intro R67 (And.intro R68 (And.intro R69 (And.intro R70 (And.intro R71 (And.intro R72 (And.intro R73 (And.intro R74 (R75)))))))))))))))))))))))))))))))))))))))))))))))))))))))))))))))))))))))
end Go.Proofs.YtpdcahaggacacaaDoor.K
set_option linter.unusedVariables false
namespace Go.Proofs.YtpdcahaggacacaaDoor.Ev
open Go
theorem bxD : type_of% (And.intro @Wp_reg_iff (And.intro @Wp_seq_reg (And.intro @Wp_seq_skip (And.intro @Wp_seq_exit (And.intro @Wp_seq_ret (And.intro @Wp_seq_cond (And.intro @Wp_seq_block (And.intro @Wp_seq_loop (And.intro @Wp_seq_dreg (And.intro @Wp_seq_seq (And.intro @Wp_block_iff (And.intro @Wp_skip_iff (And.intro @Wp_exit_iff (And.intro @Wp_ret_iff (And.intro @Wp_cond_iff (And.intro @Wl_nil_iff (And.intro @Wl_op_iff (And.intro @Wl_gd_iff (And.intro @Wd_nil (And.intro @Wd_pu (And.intro @Wd_rd (And.intro @Wd_ad (And.intro @Wd_md (And.intro @Wd_fl (And.intro @Wd_ma (And.intro @Wd_gpu (And.intro @Wd_grd (And.intro @Wd_gad (@Wd_gmd))))))))))))))))))))))))))))) := And.intro @Wp_reg_iff (And.intro @Wp_seq_reg (And.intro @Wp_seq_skip (And.intro @Wp_seq_exit (And.intro @Wp_seq_ret (And.intro @Wp_seq_cond (And.intro @Wp_seq_block (And.intro @Wp_seq_loop (And.intro @Wp_seq_dreg (And.intro @Wp_seq_seq (And.intro @Wp_block_iff (And.intro @Wp_skip_iff (And.intro @Wp_exit_iff (And.intro @Wp_ret_iff (And.intro @Wp_cond_iff (And.intro @Wl_nil_iff (And.intro @Wl_op_iff (And.intro @Wl_gd_iff (And.intro @Wd_nil (And.intro @Wd_pu (And.intro @Wd_rd (And.intro @Wd_ad (And.intro @Wd_md (And.intro @Wd_fl (And.intro @Wd_ma (And.intro @Wd_gpu (And.intro @Wd_grd (And.intro @Wd_gad (@Wd_gmd))))))))))))))))))))))))))))
theorem bxP : type_of% (And.intro @bindP_some (And.intro @condP_t (And.intro @condP_f (And.intro @gdP_tt (And.intro @gdP_tf (And.intro @gdP_ft (And.intro @gdP_ff (And.intro @gdP_tp (And.intro @thenQ_ret (And.intro @thenQ_exit (And.intro @blockQ_norm (And.intro @blockQ_ret (And.intro @blockQ_exit (And.intro @ev_c (And.intro @ev_set (And.intro @setD_some (And.intro @setD_none (And.intro @retQ_ret (And.intro @retQ_norm (And.intro @o1_some (And.intro @ev_mov (And.intro @ev_pick (And.intro @ev_new (And.intro @ev_box (And.intro @ev_build (And.intro @ev_bslW (And.intro @bslW_some (And.intro @zrow_one (And.intro @fill_ag (And.intro @fill_one (And.intro @ev_ld1 (And.intro @ev_ldN (And.intro @ev_st (And.intro @ev_nck (And.intro @ev_binI (And.intro @ev_binB (And.intro @ev_binN (And.intro @ev_un (And.intro @ev_cvI (And.intro @ev_fld1 (And.intro @ev_fldN (And.intro @ev_fa (And.intro @ev_ixA (And.intro @ev_ixS (And.intro @ev_ext (And.intro @ev_mkm (And.intro @ev_cut (And.intro @ev_app (And.intro @ev_len (And.intro @ev_mn (And.intro @ev_mx (And.intro @ev_call (And.intro @ev_mkf (And.intro @ev_pu2 (And.intro @ev_rdm (And.intro @bin_add (And.intro @bin_sub (And.intro @bin_mul (And.intro @bin_eql (And.intro @bin_neq (And.intro @bin_lss (And.intro @bin_leq (And.intro @bin_gtr (And.intro @bin_geq (And.intro @binB_eql (And.intro @binB_neq (And.intro @un_not (And.intro @pick_t (And.intro @pick_f (And.intro @fa_p (And.intro @nck_p (And.intro @len_sl (And.intro @ix_sl (And.intro @ixA_p (And.intro @push_ok (And.intro @not_dec (And.intro @dregK_cons (And.intro @apartL_nil (And.intro @lateL_nil (And.intro @adopt_nil (And.intro @room0 (And.intro @room_n (And.intro @room_get (And.intro @room_lo (And.intro @lift_n (And.intro @lift_lo (And.intro @lift_get (And.intro @down_n (And.intro @down_lo (And.intro @down_get (And.intro @st_w (And.intro @stW_ok (And.intro @ld1_w (And.intro @ldN_w (And.intro @ldW_cs (And.intro @ldNW_cs (And.intro @map_ag (And.intro @cells_ag (And.intro @push_new (And.intro @push_old (And.intro @set_same (And.intro @set_ne (And.intro @set_n (And.intro @set_lo (And.intro @push_n (And.intro @push_lo (And.intro @wrap_in (And.intro @getN_setN' (And.intro @resL_1 (And.intro @res_set (And.intro @puM_eqA (And.intro @eqAg_nil (And.intro @eqAg_i (And.intro @beq_self_eq_true.{0} (And.intro @cond_true.{1} (And.intro @cond_false.{1} (And.intro @Bool.not_true (And.intro @Bool.not_false (And.intro @isU_ag (And.intro @isU_i (And.intro @isU_b (And.intro @isU_s (And.intro @isU_p (And.intro @isU_nils (And.intro @isU_sl (And.intro @Bool.false_eq_true (And.intro @pack1 (And.intro @pack2 (And.intro @pack3 (And.intro @resL_c (And.intro @consO_some (And.intro @ext_tp (And.intro @decide_true (And.intro @Ky.k1.injEq (And.intro @Ky.k2.injEq (And.intro @Ky.k3.injEq (And.intro @if_true.{1} (And.intro @if_false.{1} (And.intro @and_false (And.intro @and_true (And.intro @false_and (And.intro @true_and (And.intro @List.map_cons.{0,0} (And.intro @List.map_nil.{0,0} (And.intro @cget_setN (And.intro @cget_ofL (And.intro @List.length_cons.{0} (And.intro @List.length_nil.{0} (And.intro @Nat.lt_add_one (And.intro @Nat.le_refl (And.intro @Nat.zero_le (And.intro @List.getElem?_cons_zero.{0} (And.intro @List.getElem?_cons_succ.{0} (And.intro @Nat.add_zero (And.intro @Nat.zero_add (And.intro @Nat.sub_zero (@and_self))))))))))))))))))))))))))))))))))))))))))))))))))))))))))))))))))))))))))))))))))))))))))))))))))))))))))))))))))))))))))))))))))))))))))))))))))))))))))))) := And.intro @bindP_some (And.intro @condP_t (And.intro @condP_f (And.intro @gdP_tt (And.intro @gdP_tf (And.intro @gdP_ft (And.intro @gdP_ff (And.intro @gdP_tp (And.intro @thenQ_ret (And.intro @thenQ_exit (And.intro @blockQ_norm (And.intro @blockQ_ret (And.intro @blockQ_exit (And.intro @ev_c (And.intro @ev_set (And.intro @setD_some (And.intro @setD_none (And.intro @retQ_ret (And.intro @retQ_norm (And.intro @o1_some (And.intro @ev_mov (And.intro @ev_pick (And.intro @ev_new (And.intro @ev_box (And.intro @ev_build (And.intro @ev_bslW (And.intro @bslW_some (And.intro @zrow_one (And.intro @fill_ag (And.intro @fill_one (And.intro @ev_ld1 (And.intro @ev_ldN (And.intro @ev_st (And.intro @ev_nck (And.intro @ev_binI (And.intro @ev_binB (And.intro @ev_binN (And.intro @ev_un (And.intro @ev_cvI (And.intro @ev_fld1 (And.intro @ev_fldN (And.intro @ev_fa (And.intro @ev_ixA (And.intro @ev_ixS (And.intro @ev_ext (And.intro @ev_mkm (And.intro @ev_cut (And.intro @ev_app (And.intro @ev_len (And.intro @ev_mn (And.intro @ev_mx (And.intro @ev_call (And.intro @ev_mkf (And.intro @ev_pu2 (And.intro @ev_rdm (And.intro @bin_add (And.intro @bin_sub (And.intro @bin_mul (And.intro @bin_eql (And.intro @bin_neq (And.intro @bin_lss (And.intro @bin_leq (And.intro @bin_gtr (And.intro @bin_geq (And.intro @binB_eql (And.intro @binB_neq (And.intro @un_not (And.intro @pick_t (And.intro @pick_f (And.intro @fa_p (And.intro @nck_p (And.intro @len_sl (And.intro @ix_sl (And.intro @ixA_p (And.intro @push_ok (And.intro @not_dec (And.intro @dregK_cons (And.intro @apartL_nil (And.intro @lateL_nil (And.intro @adopt_nil (And.intro @room0 (And.intro @room_n (And.intro @room_get (And.intro @room_lo (And.intro @lift_n (And.intro @lift_lo (And.intro @lift_get (And.intro @down_n (And.intro @down_lo (And.intro @down_get (And.intro @st_w (And.intro @stW_ok (And.intro @ld1_w (And.intro @ldN_w (And.intro @ldW_cs (And.intro @ldNW_cs (And.intro @map_ag (And.intro @cells_ag (And.intro @push_new (And.intro @push_old (And.intro @set_same (And.intro @set_ne (And.intro @set_n (And.intro @set_lo (And.intro @push_n (And.intro @push_lo (And.intro @wrap_in (And.intro @getN_setN' (And.intro @resL_1 (And.intro @res_set (And.intro @puM_eqA (And.intro @eqAg_nil (And.intro @eqAg_i (And.intro @beq_self_eq_true.{0} (And.intro @cond_true.{1} (And.intro @cond_false.{1} (And.intro @Bool.not_true (And.intro @Bool.not_false (And.intro @isU_ag (And.intro @isU_i (And.intro @isU_b (And.intro @isU_s (And.intro @isU_p (And.intro @isU_nils (And.intro @isU_sl (And.intro @Bool.false_eq_true (And.intro @pack1 (And.intro @pack2 (And.intro @pack3 (And.intro @resL_c (And.intro @consO_some (And.intro @ext_tp (And.intro @decide_true (And.intro @Ky.k1.injEq (And.intro @Ky.k2.injEq (And.intro @Ky.k3.injEq (And.intro @if_true.{1} (And.intro @if_false.{1} (And.intro @and_false (And.intro @and_true (And.intro @false_and (And.intro @true_and (And.intro @List.map_cons.{0,0} (And.intro @List.map_nil.{0,0} (And.intro @cget_setN (And.intro @cget_ofL (And.intro @List.length_cons.{0} (And.intro @List.length_nil.{0} (And.intro @Nat.lt_add_one (And.intro @Nat.le_refl (And.intro @Nat.zero_le (And.intro @List.getElem?_cons_zero.{0} (And.intro @List.getElem?_cons_succ.{0} (And.intro @Nat.add_zero (And.intro @Nat.zero_add (And.intro @Nat.sub_zero (@and_self))))))))))))))))))))))))))))))))))))))))))))))))))))))))))))))))))))))))))))))))))))))))))))))))))))))))))))))))))))))))))))))))))))))))))))))))))))))))))))
theorem bxS : type_of% (And.intro @beq_self_eq_true.{0} (And.intro @Bool.not_false (And.intro @decide_true (And.intro @cells_ag (And.intro @cells_i (And.intro @cells_b (And.intro @cells_s (And.intro @cells_p (And.intro @cells_nilp (And.intro @cells_nils (And.intro @cells_m (And.intro @cells_sl (And.intro @cells_fn (And.intro @one_i (And.intro @one_b (And.intro @one_s (And.intro @one_p (And.intro @one_nilp (And.intro @one_nils (And.intro @one_m (And.intro @one_sl (And.intro @one_fn (And.intro @isU_i (And.intro @isU_b (And.intro @isU_s (And.intro @isU_p (And.intro @isU_nilp (And.intro @isU_nils (And.intro @isU_m (And.intro @isU_sl (And.intro @isU_ag (And.intro @isU_fn (And.intro @all_nil (And.intro @all_cons (And.intro @List.length_cons.{0} (And.intro @List.length_nil.{0} (And.intro @Bool.and_true (@Bool.true_and)))))))))))))))))))))))))))))))))))))) := And.intro @beq_self_eq_true.{0} (And.intro @Bool.not_false (And.intro @decide_true (And.intro @cells_ag (And.intro @cells_i (And.intro @cells_b (And.intro @cells_s (And.intro @cells_p (And.intro @cells_nilp (And.intro @cells_nils (And.intro @cells_m (And.intro @cells_sl (And.intro @cells_fn (And.intro @one_i (And.intro @one_b (And.intro @one_s (And.intro @one_p (And.intro @one_nilp (And.intro @one_nils (And.intro @one_m (And.intro @one_sl (And.intro @one_fn (And.intro @isU_i (And.intro @isU_b (And.intro @isU_s (And.intro @isU_p (And.intro @isU_nilp (And.intro @isU_nils (And.intro @isU_m (And.intro @isU_sl (And.intro @isU_ag (And.intro @isU_fn (And.intro @all_nil (And.intro @all_cons (And.intro @List.length_cons.{0} (And.intro @List.length_nil.{0} (And.intro @Bool.and_true (@Bool.true_and)))))))))))))))))))))))))))))))))))))
theorem bxU : type_of% (And.intro @push_lo (And.intro @push_n (And.intro @set_lo (@set_n)))) := And.intro @push_lo (And.intro @push_n (And.intro @set_lo (@set_n)))
theorem bxV : type_of% (And.intro @push_n (And.intro @set_n (@beq_self_eq_true.{0}))) := And.intro @push_n (And.intro @set_n (@beq_self_eq_true.{0}))
theorem bxL : type_of% (And.intro @List.length_cons.{0} (@List.length_nil.{0})) := And.intro @List.length_cons.{0} (@List.length_nil.{0})
theorem bxQ : (q0 = Ky.k1 .d0) ∧ (q1 = Ky.k1 .d1) ∧ (q2 = Ky.k1 .d2) ∧ (q3 = Ky.k1 .d3) ∧ (q4 = Ky.k1 .d4) ∧ (q5 = Ky.k1 .d5) ∧ (q6 = Ky.k1 .d6) ∧ (q7 = Ky.k1 .d7) ∧ (q8 = Ky.k1 .d8) ∧ (q9 = Ky.k1 .d9) ∧ (q10 = Ky.k1 .d10) ∧ (q11 = Ky.k1 .d11) ∧ (q12 = Ky.k1 .d12) ∧ (q13 = Ky.k1 .d13) ∧ (q14 = Ky.k1 .d14) ∧ (q15 = Ky.k1 .d15) ∧ (q16 = Ky.k2 .d1 .d0) ∧ (q17 = Ky.k2 .d1 .d1) ∧ (q18 = Ky.k2 .d1 .d2) ∧ (q19 = Ky.k2 .d1 .d3) ∧ (q20 = Ky.k2 .d1 .d4) ∧ (q21 = Ky.k2 .d1 .d5) ∧ (q22 = Ky.k2 .d1 .d6) ∧ (q23 = Ky.k2 .d1 .d7) ∧ (q24 = Ky.k2 .d1 .d8) ∧ (q25 = Ky.k2 .d1 .d9) ∧ (q26 = Ky.k2 .d1 .d10) ∧ (q27 = Ky.k2 .d1 .d11) ∧ (q28 = Ky.k2 .d1 .d12) ∧ (q29 = Ky.k2 .d1 .d13) ∧ (q30 = Ky.k2 .d1 .d14) ∧ (q31 = Ky.k2 .d1 .d15) ∧ (q32 = Ky.k2 .d2 .d0) ∧ (q33 = Ky.k2 .d2 .d1) ∧ (q34 = Ky.k2 .d2 .d2) ∧ (q35 = Ky.k2 .d2 .d3) ∧ (q36 = Ky.k2 .d2 .d4) ∧ (q37 = Ky.k2 .d2 .d5) ∧ (q38 = Ky.k2 .d2 .d6) ∧ (q39 = Ky.k2 .d2 .d7) ∧ (q40 = Ky.k2 .d2 .d8) ∧ (q41 = Ky.k2 .d2 .d9) ∧ (q42 = Ky.k2 .d2 .d10) ∧ (q43 = Ky.k2 .d2 .d11) ∧ (q44 = Ky.k2 .d2 .d12) ∧ (q45 = Ky.k2 .d2 .d13) ∧ (q46 = Ky.k2 .d2 .d14) ∧ (q47 = Ky.k2 .d2 .d15) ∧ (q48 = Ky.k2 .d3 .d0) ∧ (q49 = Ky.k2 .d3 .d1) ∧ (q50 = Ky.k2 .d3 .d2) ∧ (q51 = Ky.k2 .d3 .d3) ∧ (q52 = Ky.k2 .d3 .d4) ∧ (q53 = Ky.k2 .d3 .d5) ∧ (q54 = Ky.k2 .d3 .d6) ∧ (q55 = Ky.k2 .d3 .d7) ∧ (q56 = Ky.k2 .d3 .d8) ∧ (q57 = Ky.k2 .d3 .d9) ∧ (q58 = Ky.k2 .d3 .d10) ∧ (q59 = Ky.k2 .d3 .d11) := ⟨rfl, rfl, rfl, rfl, rfl, rfl, rfl, rfl, rfl, rfl, rfl, rfl, rfl, rfl, rfl, rfl, rfl, rfl, rfl, rfl, rfl, rfl, rfl, rfl, rfl, rfl, rfl, rfl, rfl, rfl, rfl, rfl, rfl, rfl, rfl, rfl, rfl, rfl, rfl, rfl, rfl, rfl, rfl, rfl, rfl, rfl, rfl, rfl, rfl, rfl, rfl, rfl, rfl, rfl, rfl, rfl, rfl, rfl, rfl, rfl⟩
theorem bxQ2 : (q60 = Ky.k2 .d3 .d12) ∧ (q61 = Ky.k2 .d3 .d13) ∧ (q62 = Ky.k2 .d3 .d14) ∧ (q63 = Ky.k2 .d3 .d15) ∧ (q64 = Ky.k2 .d4 .d0) ∧ (q65 = Ky.k2 .d4 .d1) ∧ (q66 = Ky.k2 .d4 .d2) ∧ (q67 = Ky.k2 .d4 .d3) ∧ (q68 = Ky.k2 .d4 .d4) ∧ (q69 = Ky.k2 .d4 .d5) ∧ (q70 = Ky.k2 .d4 .d6) ∧ (q71 = Ky.k2 .d4 .d7) ∧ (q72 = Ky.k2 .d4 .d8) ∧ (q73 = Ky.k2 .d4 .d9) ∧ (q74 = Ky.k2 .d4 .d10) ∧ (q75 = Ky.k2 .d4 .d11) ∧ (q76 = Ky.k2 .d4 .d12) ∧ (q77 = Ky.k2 .d4 .d13) ∧ (q78 = Ky.k2 .d4 .d14) ∧ (q79 = Ky.k2 .d4 .d15) ∧ (q80 = Ky.k2 .d5 .d0) ∧ (q81 = Ky.k2 .d5 .d1) ∧ (q82 = Ky.k2 .d5 .d2) ∧ (q83 = Ky.k2 .d5 .d3) ∧ (q84 = Ky.k2 .d5 .d4) ∧ (q85 = Ky.k2 .d5 .d5) ∧ (q86 = Ky.k2 .d5 .d6) ∧ (q87 = Ky.k2 .d5 .d7) ∧ (q88 = Ky.k2 .d5 .d8) ∧ (q89 = Ky.k2 .d5 .d9) ∧ (q90 = Ky.k2 .d5 .d10) ∧ (q91 = Ky.k2 .d5 .d11) ∧ (q92 = Ky.k2 .d5 .d12) ∧ (q93 = Ky.k2 .d5 .d13) ∧ (q94 = Ky.k2 .d5 .d14) ∧ (q95 = Ky.k2 .d5 .d15) ∧ (q96 = Ky.k2 .d6 .d0) ∧ (q97 = Ky.k2 .d6 .d1) ∧ (q98 = Ky.k2 .d6 .d2) ∧ (q99 = Ky.k2 .d6 .d3) ∧ (q100 = Ky.k2 .d6 .d4) ∧ (q101 = Ky.k2 .d6 .d5) ∧ (q102 = Ky.k2 .d6 .d6) ∧ (q103 = Ky.k2 .d6 .d7) ∧ (q104 = Ky.k2 .d6 .d8) ∧ (q105 = Ky.k2 .d6 .d9) ∧ (q106 = Ky.k2 .d6 .d10) ∧ (q107 = Ky.k2 .d6 .d11) ∧ (q108 = Ky.k2 .d6 .d12) ∧ (q109 = Ky.k2 .d6 .d13) ∧ (q110 = Ky.k2 .d6 .d14) ∧ (q111 = Ky.k2 .d6 .d15) ∧ (q112 = Ky.k2 .d7 .d0) ∧ (q113 = Ky.k2 .d7 .d1) ∧ (q114 = Ky.k2 .d7 .d2) ∧ (q115 = Ky.k2 .d7 .d3) ∧ (q116 = Ky.k2 .d7 .d4) ∧ (q117 = Ky.k2 .d7 .d5) ∧ (q118 = Ky.k2 .d7 .d6) ∧ (q119 = Ky.k2 .d7 .d7) ∧ (q120 = Ky.k2 .d7 .d8) ∧ (q121 = Ky.k2 .d7 .d9) ∧ (q122 = Ky.k2 .d7 .d10) ∧ (q123 = Ky.k2 .d7 .d11) ∧ (q124 = Ky.k2 .d7 .d12) ∧ (q125 = Ky.k2 .d7 .d13) ∧ (q126 = Ky.k2 .d7 .d14) ∧ (q127 = Ky.k2 .d7 .d15) ∧ (q128 = Ky.k2 .d8 .d0) ∧ (q129 = Ky.k2 .d8 .d1) ∧ (q130 = Ky.k2 .d8 .d2) ∧ (q131 = Ky.k2 .d8 .d3) ∧ (q132 = Ky.k2 .d8 .d4) ∧ (q133 = Ky.k2 .d8 .d5) ∧ (q134 = Ky.k2 .d8 .d6) ∧ (q135 = Ky.k2 .d8 .d7) ∧ (q136 = Ky.k2 .d8 .d8) ∧ (q137 = Ky.k2 .d8 .d9) ∧ (q138 = Ky.k2 .d8 .d10) ∧ (q139 = Ky.k2 .d8 .d11) ∧ (q140 = Ky.k2 .d8 .d12) ∧ (q141 = Ky.k2 .d8 .d13) ∧ (q142 = Ky.k2 .d8 .d14) ∧ (q143 = Ky.k2 .d8 .d15) ∧ (q144 = Ky.k2 .d9 .d0) ∧ (q145 = Ky.k2 .d9 .d1) ∧ (q146 = Ky.k2 .d9 .d2) ∧ (q147 = Ky.k2 .d9 .d3) ∧ (q148 = Ky.k2 .d9 .d4) ∧ (q149 = Ky.k2 .d9 .d5) ∧ (q150 = Ky.k2 .d9 .d6) ∧ (q151 = Ky.k2 .d9 .d7) ∧ (q152 = Ky.k2 .d9 .d8) ∧ (q153 = Ky.k2 .d9 .d9) ∧ (q154 = Ky.k2 .d9 .d10) ∧ (q155 = Ky.k2 .d9 .d11) ∧ (q156 = Ky.k2 .d9 .d12) ∧ (q157 = Ky.k2 .d9 .d13) ∧ (q158 = Ky.k2 .d9 .d14) ∧ (q159 = Ky.k2 .d9 .d15) ∧ (q160 = Ky.k2 .d10 .d0) ∧ (q161 = Ky.k2 .d10 .d1) ∧ (q162 = Ky.k2 .d10 .d2) ∧ (q163 = Ky.k2 .d10 .d3) ∧ (q164 = Ky.k2 .d10 .d4) ∧ (q165 = Ky.k2 .d10 .d5) ∧ (q166 = Ky.k2 .d10 .d6) ∧ (q167 = Ky.k2 .d10 .d7) ∧ (q168 = Ky.k2 .d10 .d8) ∧ (q169 = Ky.k2 .d10 .d9) ∧ (q170 = Ky.k2 .d10 .d10) ∧ (q171 = Ky.k2 .d10 .d11) ∧ (q172 = Ky.k2 .d10 .d12) ∧ (q173 = Ky.k2 .d10 .d13) ∧ (q174 = Ky.k2 .d10 .d14) ∧ (q175 = Ky.k2 .d10 .d15) ∧ (q176 = Ky.k2 .d11 .d0) ∧ (q177 = Ky.k2 .d11 .d1) ∧ (q178 = Ky.k2 .d11 .d2) ∧ (q179 = Ky.k2 .d11 .d3) ∧ (q180 = Ky.k2 .d11 .d4) ∧ (q181 = Ky.k2 .d11 .d5) ∧ (q182 = Ky.k2 .d11 .d6) ∧ (q183 = Ky.k2 .d11 .d7) ∧ (q184 = Ky.k2 .d11 .d8) ∧ (q185 = Ky.k2 .d11 .d9) ∧ (q186 = Ky.k2 .d11 .d10) ∧ (q187 = Ky.k2 .d11 .d11) ∧ (q188 = Ky.k2 .d11 .d12) ∧ (q189 = Ky.k2 .d11 .d13) ∧ (q190 = Ky.k2 .d11 .d14) ∧ (q191 = Ky.k2 .d11 .d15) ∧ (q192 = Ky.k2 .d12 .d0) ∧ (q193 = Ky.k2 .d12 .d1) ∧ (q194 = Ky.k2 .d12 .d2) ∧ (q195 = Ky.k2 .d12 .d3) ∧ (q196 = Ky.k2 .d12 .d4) ∧ (q197 = Ky.k2 .d12 .d5) ∧ (q198 = Ky.k2 .d12 .d6) ∧ (q199 = Ky.k2 .d12 .d7) ∧ (q200 = Ky.k2 .d12 .d8) ∧ (q201 = Ky.k2 .d12 .d9) ∧ (q202 = Ky.k2 .d12 .d10) ∧ (q203 = Ky.k2 .d12 .d11) ∧ (q204 = Ky.k2 .d12 .d12) ∧ (q205 = Ky.k2 .d12 .d13) ∧ (q206 = Ky.k2 .d12 .d14) ∧ (q207 = Ky.k2 .d12 .d15) ∧ (q208 = Ky.k2 .d13 .d0) ∧ (q209 = Ky.k2 .d13 .d1) ∧ (q210 = Ky.k2 .d13 .d2) ∧ (q211 = Ky.k2 .d13 .d3) ∧ (q212 = Ky.k2 .d13 .d4) ∧ (q213 = Ky.k2 .d13 .d5) ∧ (q214 = Ky.k2 .d13 .d6) ∧ (q215 = Ky.k2 .d13 .d7) ∧ (q216 = Ky.k2 .d13 .d8) ∧ (q217 = Ky.k2 .d13 .d9) ∧ (q218 = Ky.k2 .d13 .d10) ∧ (q219 = Ky.k2 .d13 .d11) ∧ (q220 = Ky.k2 .d13 .d12) ∧ (q221 = Ky.k2 .d13 .d13) ∧ (q222 = Ky.k2 .d13 .d14) ∧ (q223 = Ky.k2 .d13 .d15) ∧ (q224 = Ky.k2 .d14 .d0) ∧ (q225 = Ky.k2 .d14 .d1) ∧ (q226 = Ky.k2 .d14 .d2) ∧ (q227 = Ky.k2 .d14 .d3) ∧ (q228 = Ky.k2 .d14 .d4) ∧ (q229 = Ky.k2 .d14 .d5) := ⟨rfl, rfl, rfl, rfl, rfl, rfl, rfl, rfl, rfl, rfl, rfl, rfl, rfl, rfl, rfl, rfl, rfl, rfl, rfl, rfl, rfl, rfl, rfl, rfl, rfl, rfl, rfl, rfl, rfl, rfl, rfl, rfl, rfl, rfl, rfl, rfl, rfl, rfl, rfl, rfl, rfl, rfl, rfl, rfl, rfl, rfl, rfl, rfl, rfl, rfl, rfl, rfl, rfl, rfl, rfl, rfl, rfl, rfl, rfl, rfl, rfl, rfl, rfl, rfl, rfl, rfl, rfl, rfl, rfl, rfl, rfl, rfl, rfl, rfl, rfl, rfl, rfl, rfl, rfl, rfl, rfl, rfl, rfl, rfl, rfl, rfl, rfl, rfl, rfl, rfl, rfl, rfl, rfl, rfl, rfl, rfl, rfl, rfl, rfl, rfl, rfl, rfl, rfl, rfl, rfl, rfl, rfl, rfl, rfl, rfl, rfl, rfl, rfl, rfl, rfl, rfl, rfl, rfl, rfl, rfl, rfl, rfl, rfl, rfl, rfl, rfl, rfl, rfl, rfl, rfl, rfl, rfl, rfl, rfl, rfl, rfl, rfl, rfl, rfl, rfl, rfl, rfl, rfl, rfl, rfl, rfl, rfl, rfl, rfl, rfl, rfl, rfl, rfl, rfl, rfl, rfl, rfl, rfl, rfl, rfl, rfl, rfl, rfl, rfl, rfl, rfl, rfl, rfl, rfl, rfl⟩
end Go.Proofs.YtpdcahaggacacaaDoor.Ev
set_option linter.unusedSimpArgs false
set_option linter.unusedVariables false
namespace Go.Proofs.YtpdcahaggacacaaDoor.K
open Go Ev
set_option maxRecDepth 100000
set_option maxHeartbeats 4000000

end Go.Proofs.YtpdcahaggacacaaDoor.K
set_option linter.unusedVariables false
namespace Go.Proofs.YtpdcahaggacacaaDoor.K
open Go Ev
set_option maxRecDepth 100000
set_option maxHeartbeats 4000000
theorem bA : type_of% (And.intro bxP (And.intro bxQ (And.intro bxQ2 bxR))) := And.intro bxP (And.intro bxQ (And.intro bxQ2 bxR))
theorem dz {a : Prop} (h : a := by first | omega | assumption | (simp only [bxS, bxV, stOk, Nat.reduceBEq, Nat.reduceEqDiff, Nat.reduceAdd]; done) | (simp only [bxU]; omega) | ((try apply has_setN); apply has_ofL; simp only [bxL]; omega)) : a := h
theorem dzq {a : Prop} (h : a := by first | omega | assumption | (simp only [bxS, bxV, stOk, Nat.reduceBEq, Nat.reduceEqDiff, Nat.reduceAdd]; done) | (simp only [bxU]; omega) | ((try apply has_setN); apply has_ofL; simp only [bxL]; omega)) : a := h
end Go.Proofs.YtpdcahaggacacaaDoor.K
