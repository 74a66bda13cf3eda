/-
  What the claim leans on, part 3: What single operations do, told for simp. Conditions: none. What comes in, read into the model's memory as it lies: numbers, bools, strings, slices, structs and arrays of these, of whatever depth. Conditions: none. Arguments of whatever types, read into the model; functions that are known by a contract that hangs on nothing. Conditions: none. Stores into rows, and what stays. Conditions: none. Grammars as they lie in memory, and what chapter 10 asks of them. Conditions: none. Texts of functions, laid in a tree; names of slots. Conditions: none. The functions that a run comes to, as the model r
-/
import Derived.Test.YtlmmmchkhaidjaaMB2
import Derived.Deep.Slices
import Derived.Deep.Strs
import Derived.OpenShut
import Derived.DataReads
import Derived.ChangeArms
import Derived.WideShapes
import Derived.KernelRfl
import Derived.Test.YtlmmmchkhaidjaaProg
set_option linter.unusedSimpArgs false
set_option linter.unusedVariables false
namespace Go.Proofs.Ytlmmmchkhaidjaa.Ev
open Go
variable {c : CallM} {f : Fr} {M : MH}
def o1 (r : Option MV) (M : MH) : Option (MV × MH) := match r with
  | some m => some (m, M)
  | none => none
theorem o1_some (m : MV) (M : MH) : o1 (some m) M = some (m, M) := rfl
def binV (op : BinOp) (x y : MV) : Option MV := match x, y with
  | .i k a, .i k' b => Ev.binI op k a k' b
  | _, _ => none
def lenV (x : MV) : Option MV := match x with
  | .nils => some (.i .i64 0)
  | .sl _ _ n _ => some (.i .i64 n)
  | _ => none
def ixV (s : Nat) (x i : MV) : Option MV := match x, i with
  | .sl id off ln _, .i _ (.ofNat j) => bif Nat.blt j ln then some (.p id (off + j * s)) else none
  | _, _ => none
def ixAV (n s : Nat) (x i : MV) : Option MV := match x, i with
  | .p id off, .i _ (.ofNat j) => bif Nat.blt j n then some (.p id (off + j * s)) else none
  | _, _ => none
noncomputable def ld1V (M : MH) (x : MV) : Option MV := match x with
  | .p id off => match M.get id with
    | some (.cs _ _ c) => cget c off
    | _ => none
  | _ => none
noncomputable def ldNV (M : MH) (n : Nat) (x : MV) : Option MV := match x with
  | .p id off => match M.get id with
    | some (.cs _ _ c) => match getN c n off with
      | some l => some (.ag l)
      | none => none
    | _ => none
  | _ => none
def faV (o : Nat) (x : MV) : Option MV := match x with
  | .p id off => some (.p id (off + o))
  | _ => none
def nckV (x : MV) : Option MV := match x with
  | .p id off => some (.p id off)
  | _ => none
def fld1V (o : Nat) (x : MV) : Option MV := match x with
  | .ag l => l[o]?
  | _ => none
def fldNV (o n : Nat) (x : MV) : Option MV := match x with
  | .ag l => some (.ag ((l.drop o).take n))
  | _ => none
def extV (i : Nat) (x : MV) : Option MV := match x with
  | .tp l => l[i]?
  | _ => none
def binBV (op : BinOp) (x y : MV) : Option MV := match x, y with
  | .b a, .b b => eqM op (a == b)
  | _, _ => none
def binNV (n : NilKind) (op : BinOp) (x y : MV) : Option MV := match nilR n x y with
  | some r => eqM op r
  | none => none
def pickV (c a b : MV) : Option MV := match c with
  | .b true => some a
  | .b false => some b
  | _ => none
def mnV (x y : MV) : Option MV := match x, y with
  | .i k a, .i _ b => some (.i k (bif decide (b < a) then b else a))
  | _, _ => none
def mxV (x y : MV) : Option MV := match x, y with
  | .i k a, .i _ b => some (.i k (bif decide (a < b) then b else a))
  | _, _ => none
def cvIV (k : IntKind) (x : MV) : Option MV := match x with
  | .i _ n => some (.i k (wrapF k n))
  | _ => none
noncomputable def stV (M : MH) (n : Nat) (x y : MV) : Option (MV × MH) := match x with
  | .p id off => match M.get id with
    | some (.cs false sz c) => bif y.cells.length == n && !isU y && allOne y.cells && Nat.ble M.lo id && hasB c n off then some (.u, M.set id (some (.cs false sz (setN y.cells off c)))) else none
    | _ => none
  | _ => none
noncomputable def pushV (M : MH) (m : MV) (o : MO) : Option (MV × MH) := bif Nat.ble M.lo M.n then some (m, M.push o) else none
theorem ev_mov (x : X) : Iop.ev c f M (.mov x) = some (x.ev f, M) := rfl
theorem ev_pick (a b d : X) : Iop.ev c f M (.pick a b d) = o1 (pickV (a.ev f) (b.ev f) (d.ev f)) M := by
  simp only [Iop.ev, pickV]
  cases a.ev f <;> try rfl
  rename_i t; cases t <;> rfl
theorem ev_new (l : List MV) : Iop.ev c f M (.new l) = pushV M (.p M.n 0) (.cs false l.length (ofL l 0)) := rfl
theorem ev_box (x : X) : Iop.ev c f M (.box x) = if isU (x.ev f) = true then none else pushV M (.p M.n 0) (.cs false (x.ev f).cells.length (ofL (x.ev f).cells 0)) := by
  simp only [Iop.ev, pushV]
  cases isU (x.ev f) <;> simp
theorem ev_build (zs : List MV) (ps : List (Nat × Nat × X)) : Iop.ev c f M (.build zs ps) = o1 ((fillM (ps.map fun x => (x.1, x.2.1, x.2.2.ev f)) zs).map .ag) M := by
  simp only [Iop.ev]
  cases fillM (ps.map fun x => (x.1, x.2.1, x.2.2.ev f)) zs <;> rfl
theorem ev_bsl (sz n : Nat) (zs : List MV) (ps : List (Nat × Nat × X)) : Iop.ev c f M (.bsl sz n zs ps) = bif Nat.ble M.lo M.n then (match fillM (ps.map fun x => (x.1, x.2.1, x.2.2.ev f)) (zrow zs n) with
    | some l => some (.sl M.n 0 n 0, M.push (.cs false sz (ofL l 0)))
    | none => none) else none := rfl
theorem ev_ld1 (x : X) : Iop.ev c f M (.ld1 x) = o1 (ld1V M (x.ev f)) M := by
  simp only [Iop.ev, ld1V]
  cases x.ev f <;> try rfl
  rename_i id off
  simp only
  cases M.get id with
  | none => rfl
  | some o =>
    cases o with
    | mp _ _ => rfl
    | cs r s c => simp only; cases cget c off <;> rfl
theorem ev_ldN (n : Nat) (x : X) : Iop.ev c f M (.ldN n x) = o1 (ldNV M n (x.ev f)) M := by
  simp only [Iop.ev, ldNV]
  cases x.ev f <;> try rfl
  rename_i id off
  simp only
  cases M.get id with
  | none => rfl
  | some o =>
    cases o with
    | mp _ _ => rfl
    | cs r s c => simp only; cases getN c n off <;> rfl
theorem ev_st (n : Nat) (x y : X) : Iop.ev c f M (.st n x y) = stV M n (x.ev f) (y.ev f) := rfl
theorem ev_nck (x : X) : Iop.ev c f M (.nck x) = o1 (nckV (x.ev f)) M := by
  simp only [Iop.ev, nckV]; cases x.ev f <;> rfl
theorem ev_binI (op : BinOp) (x y : X) : Iop.ev c f M (.binI op x y) = o1 (binV op (x.ev f) (y.ev f)) M := by
  simp only [Iop.ev, binV]
  cases x.ev f <;> try rfl
  cases y.ev f <;> try rfl
theorem ev_binB (op : BinOp) (x y : X) : Iop.ev c f M (.binB op x y) = o1 (binBV op (x.ev f) (y.ev f)) M := by
  simp only [Iop.ev, binBV]
  cases x.ev f <;> try rfl
  cases y.ev f <;> try rfl
theorem ev_binN (n : NilKind) (op : BinOp) (x y : X) : Iop.ev c f M (.binN n op x y) = o1 (binNV n op (x.ev f) (y.ev f)) M := by
  simp only [Iop.ev, binNV]
  cases nilR n (x.ev f) (y.ev f) with
  | none => rfl
  | some r => simp only; cases eqM op r <;> rfl
theorem ev_un (op : UnOp) (x : X) : Iop.ev c f M (.un op x) = o1 (unM op (x.ev f)) M := by
  simp only [Iop.ev]; cases unM op (x.ev f) <;> rfl
theorem ev_cvI (k : IntKind) (x : X) : Iop.ev c f M (.cvI k x) = o1 (cvIV k (x.ev f)) M := by
  simp only [Iop.ev, cvIV]; cases x.ev f <;> rfl
theorem ev_fld1 (o : Nat) (x : X) : Iop.ev c f M (.fld1 o x) = o1 (fld1V o (x.ev f)) M := by
  simp only [Iop.ev, fld1V]
  cases x.ev f <;> try rfl
theorem ev_fldN (o n : Nat) (x : X) : Iop.ev c f M (.fldN o n x) = o1 (fldNV o n (x.ev f)) M := by
  simp only [Iop.ev, fldNV]; cases x.ev f <;> rfl
theorem ev_fa (o : Nat) (x : X) : Iop.ev c f M (.fa o x) = o1 (faV o (x.ev f)) M := by
  simp only [Iop.ev, faV]; cases x.ev f <;> rfl
theorem ev_ixA (n s : Nat) (x i : X) : Iop.ev c f M (.ixA n s x i) = o1 (ixAV n s (x.ev f) (i.ev f)) M := by
  simp only [Iop.ev, ixAV]
  cases x.ev f <;> try rfl
  cases i.ev f <;> try rfl
  rename_i id off k z
  cases z with
  | negSucc j => rfl
  | ofNat j => simp only; cases Nat.blt j n <;> rfl
theorem ev_ixS (s : Nat) (x i : X) : Iop.ev c f M (.ixS s x i) = o1 (ixV s (x.ev f) (i.ev f)) M := by
  simp only [Iop.ev, ixV]
  cases x.ev f <;> try rfl
  cases i.ev f <;> try rfl
  rename_i id off ln e k z
  cases z with
  | negSucc j => rfl
  | ofNat j => simp only; cases Nat.blt j ln <;> rfl
theorem ev_ext (x : X) (i : Nat) : Iop.ev c f M (.ext x i) = o1 (extV i (x.ev f)) M := by
  simp only [Iop.ev, extV]
  cases x.ev f <;> try rfl
theorem ev_mkm : Iop.ev c f M .mkm = pushV M (.m M.n) (.mp [] 0) := rfl
theorem ev_cut (sz : Nat) (x : X) (lo hi : Option X) : Iop.ev c f M (.cut sz x lo hi) = o1 (cutM sz (x.ev f) (lo.map (X.ev f)) (hi.map (X.ev f))) M := by
  simp only [Iop.ev]; cases cutM sz (x.ev f) (lo.map (X.ev f)) (hi.map (X.ev f)) <;> rfl
theorem ev_app (sz bytes : Nat) (x y : X) : Iop.ev c f M (.app sz bytes x y) = appM M sz bytes (x.ev f) (y.ev f) := rfl
theorem ev_len (x : X) : Iop.ev c f M (.len x) = o1 (lenV (x.ev f)) M := by
  simp only [Iop.ev, lenV]; cases x.ev f <;> rfl
theorem ev_mn (x y : X) : Iop.ev c f M (.mn x y) = o1 (mnV (x.ev f) (y.ev f)) M := by
  simp only [Iop.ev, mnV]
  cases x.ev f <;> try rfl
  cases y.ev f <;> rfl
theorem ev_mx (x y : X) : Iop.ev c f M (.mx x y) = o1 (mxV (x.ev f) (y.ev f)) M := by
  simp only [Iop.ev, mxV]
  cases x.ev f <;> try rfl
  cases y.ev f <;> rfl
theorem ev_call (g : Nat) (l : List X) : Iop.ev c f M (.call g l) = c g (l.map (X.ev f)) M := rfl
theorem ev_mkf (g : Fn) (a d : List X) : Iop.ev c f M (.mkf g a d) = some (.fn g (a.map (X.ev f)) (d.map (X.ev f)), M) := rfl
theorem ev_pu2 (g : PG) (x y : X) : Iop.ev c f M (.pu2 g x y) = o1 (puM g (x.ev f) (y.ev f)) M := by
  simp only [Iop.ev]; cases puM g (x.ev f) (y.ev f) <;> rfl
theorem ev_rdm (g : RG) (x y : X) : Iop.ev c f M (.rdm g x y) = o1 (rdF g M (x.ev f) (y.ev f)) M := by
  simp only [Iop.ev]; cases rdF g M (x.ev f) (y.ev f) <;> rfl
theorem bin_add (k : IntKind) (a b : Int) : binV .add (.i k a) (.i k b) = some (.i k (wrapF k (a + b))) := by cases k <;> rfl
theorem bin_sub (k : IntKind) (a b : Int) : binV .sub (.i k a) (.i k b) = some (.i k (wrapF k (a - b))) := by cases k <;> rfl
theorem bin_mul (k : IntKind) (a b : Int) : binV .mul (.i k a) (.i k b) = some (.i k (wrapF k (a * b))) := by cases k <;> rfl
theorem bin_eql (k : IntKind) (a b : Int) : binV .eql (.i k a) (.i k b) = some (.b (decide (a = b))) := by cases k <;> rfl
theorem bin_neq (k : IntKind) (a b : Int) : binV .neq (.i k a) (.i k b) = some (.b (decide (a ≠ b))) := by
  have : (a != b) = decide (a ≠ b) := by rw [Bool.eq_iff_iff]; simp
  cases k <;> exact congrArg (fun t => some (MV.b t)) this
theorem bin_lss (k : IntKind) (a b : Int) : binV .lss (.i k a) (.i k b) = some (.b (decide (a < b))) := by cases k <;> rfl
theorem bin_leq (k : IntKind) (a b : Int) : binV .leq (.i k a) (.i k b) = some (.b (decide (a ≤ b))) := by cases k <;> rfl
theorem bin_gtr (k : IntKind) (a b : Int) : binV .gtr (.i k a) (.i k b) = some (.b (decide (b < a))) := by cases k <;> rfl
theorem bin_geq (k : IntKind) (a b : Int) : binV .geq (.i k a) (.i k b) = some (.b (decide (b ≤ a))) := by cases k <;> rfl
theorem binB_eql (a b : Bool) : binBV .eql (.b a) (.b b) = some (.b (a == b)) := rfl
theorem binB_neq (a b : Bool) : binBV .neq (.b a) (.b b) = some (.b (!(a == b))) := rfl
theorem un_not (a : Bool) : unM .not (.b a) = some (.b (!a)) := rfl
theorem not_dec (p : Prop) [Decidable p] : (!decide p) = decide (¬ p) := by
  rw [Bool.eq_iff_iff]; simp
theorem pick_t (a b : MV) : pickV (.b true) a b = some a := rfl
theorem pick_f (a b : MV) : pickV (.b false) a b = some b := rfl
def isSl : MV → Bool
  | .nils => true
  | .sl _ _ _ _ => true
  | _ => false
def sid : MV → Nat
  | .sl id _ _ _ => id
  | _ => 0
def soff : MV → Nat
  | .sl _ o _ _ => o
  | _ => 0
def slen : MV → Nat
  | .sl _ _ n _ => n
  | _ => 0
theorem len_sl {v : MV} (h : isSl v = true) : lenV v = some (.i .i64 (slen v : Int)) := by cases v <;> first | rfl | cases h
theorem ix_sl {s : Nat} {v : MV} {k : IntKind} {i : Nat} (h : isSl v = true) (hi : i < slen v) : ixV s v (.i k (i : Int)) = some (.p (sid v) (soff v + i * s)) := by
  cases v <;> first | (simp [slen] at hi; done) | skip
  rename_i id off n e
  show (bif Nat.blt i n then some (MV.p id (off + i * s)) else none) = _
  rw [blt_t (show i < n from hi)]; rfl
theorem ixA_p {n s id off : Nat} {k : IntKind} {i : Nat} (hi : i < n) : ixAV n s (.p id off) (.i k (i : Int)) = some (.p id (off + i * s)) := by
  show (bif Nat.blt i n then some (MV.p id (off + i * s)) else none) = _
  rw [blt_t hi]; rfl
theorem fa_p (o id off : Nat) : faV o (.p id off) = some (.p id (off + o)) := rfl
theorem nck_p (id off : Nat) : nckV (.p id off) = some (.p id off) := rfl
theorem push_ok {m : MV} {o : MO} (h : M.lo ≤ M.n) : pushV M m o = some (m, M.push o) := by unfold pushV; rw [ble_t' h]; rfl
theorem hasB_of : ∀ {t : T MV} {n off : Nat}, (∀ j, j < n → (cget t (off + j)).isSome = true) → hasB t n off = true
  | t, 0, off, h => rfl
  | t, n + 1, off, h => by
    show (match cget t off with
      | some _ => hasB t n (off + 1)
      | none => false) = true
    have h0 := h 0 (by omega)
    rw [Nat.add_zero] at h0
    cases hc : cget t off with
    | none => rw [hc] at h0; cases h0
    | some v => exact hasB_of fun j hj => by rw [show off + 1 + j = off + (j + 1) from by omega]; exact h (j + 1) (by omega)
theorem At.has {t : T MV} {off : Nat} {l : List MV} (h : At t off l) : hasB t l.length off = true := hasB_of fun j hj => by rw [h j l[j] (List.getElem?_eq_getElem hj)]; rfl
noncomputable def stW (M : MH) (n id off : Nat) (y : MV) (o : Option MO) : Option (MV × MH) := match o with
  | some (.cs false sz c) => bif y.cells.length == n && !isU y && allOne y.cells && Nat.ble M.lo id && hasB c n off then some (.u, M.set id (some (.cs false sz (setN y.cells off c)))) else none
  | _ => none
theorem st_w (n id off : Nat) (y : MV) : stV M n (.p id off) y = stW M n id off y (M.get id) := rfl
theorem stW_cs {n id off sz : Nat} {t : T MV} {y : MV} (hlo : M.lo ≤ id) (hn : y.cells.length = n) (hu : isU y = false) (ho : allOne y.cells = true) (hb : hasB t n off = true) : stW M n id off y (some (.cs false sz t)) = some (.u, M.set id (some (.cs false sz (setN y.cells off t)))) := by
  simp only [stW, hn, beq_self_eq_true, hu, ho, ble_t' hlo, hb, Bool.not_false, Bool.and_true, cond_true]
noncomputable def ldW (off : Nat) (o : Option MO) : Option MV := match o with
  | some (.cs _ _ c) => cget c off
  | _ => none
noncomputable def ldNW (n off : Nat) (o : Option MO) : Option MV := match o with
  | some (.cs _ _ c) => (getN c n off).map .ag
  | _ => none
theorem ld1_w (id off : Nat) : ld1V M (.p id off) = ldW off (M.get id) := by
  simp only [ld1V, ldW]
theorem ldN_w (n id off : Nat) : ldNV M n (.p id off) = ldNW n off (M.get id) := by
  simp only [ldNV, ldNW]
  cases M.get id with
  | none => rfl
  | some o =>
    cases o with
    | mp _ _ => rfl
    | cs r s c => simp only; cases getN c n off <;> rfl
theorem ldW_cs (off : Nat) (r : Bool) (s : Nat) (t : T MV) : ldW off (some (.cs r s t)) = cget t off := rfl
theorem ldNW_cs (n off : Nat) (r : Bool) (s : Nat) (t : T MV) : ldNW n off (some (.cs r s t)) = (getN t n off).map .ag := rfl
theorem map_ag (l : List MV) : (some l).map MV.ag = some (.ag l) := rfl
theorem cells_ag (l : List MV) : (MV.ag l).cells = l := rfl
theorem at_setN (l : List MV) (off : Nat) (t : T MV) : At (setN l off t) off l := fun j x hj => by
  rw [cget_setN, if_pos ⟨by omega, by have := (List.getElem?_eq_some_iff.1 hj).1; omega⟩, show off + j - off = j from by omega, hj]
theorem getN_setN (l : List MV) (off : Nat) (t : T MV) : getN (setN l off t) l.length off = some l := (at_setN l off t).getN
theorem getN_setN' {l : List MV} {n off : Nat} {t : T MV} (h : l.length = n) : getN (setN l off t) n off = some l := by subst h; exact getN_setN l off t
theorem cells_i (k : IntKind) (z : Int) : (MV.i k z).cells = [.i k z] := rfl
theorem cells_b (t : Bool) : (MV.b t).cells = [.b t] := rfl
theorem cells_s (t : ByteArray) : (MV.s t).cells = [.s t] := rfl
theorem cells_p (a b : Nat) : (MV.p a b).cells = [.p a b] := rfl
theorem cells_nilp : (MV.nilp).cells = [.nilp] := rfl
theorem cells_nils : (MV.nils).cells = [.nils] := rfl
theorem cells_m (a : Nat) : (MV.m a).cells = [.m a] := rfl
theorem cells_sl (a b n d : Nat) : (MV.sl a b n d).cells = [.sl a b n d] := rfl
theorem cells_fn (g : Fn) (a b : List MV) : (MV.fn g a b).cells = [.fn g a b] := rfl
theorem one_i (k : IntKind) (z : Int) : (MV.i k z).one = true := rfl
theorem one_b (t : Bool) : (MV.b t).one = true := rfl
theorem one_s (t : ByteArray) : (MV.s t).one = true := rfl
theorem one_p (a b : Nat) : (MV.p a b).one = true := rfl
theorem one_nilp : (MV.nilp).one = true := rfl
theorem one_nils : (MV.nils).one = true := rfl
theorem one_m (a : Nat) : (MV.m a).one = true := rfl
theorem one_sl (a b n d : Nat) : (MV.sl a b n d).one = true := rfl
theorem one_fn (g : Fn) (a b : List MV) : (MV.fn g a b).one = true := rfl
theorem isU_i (k : IntKind) (z : Int) : isU (.i k z) = false := rfl
theorem isU_b (t : Bool) : isU (.b t) = false := rfl
theorem isU_s (t : ByteArray) : isU (.s t) = false := rfl
theorem isU_p (a b : Nat) : isU (.p a b) = false := rfl
theorem isU_nilp : isU .nilp = false := rfl
theorem isU_nils : isU .nils = false := rfl
theorem isU_m (a : Nat) : isU (.m a) = false := rfl
theorem isU_sl (a b n d : Nat) : isU (.sl a b n d) = false := rfl
theorem isU_ag (l : List MV) : isU (.ag l) = false := rfl
theorem isU_fn (g : Fn) (a b : List MV) : isU (.fn g a b) = false := rfl
theorem isSl_cells {v : MV} (h : isSl v = true) : v.cells = [v] := by cases v <;> first | rfl | cases h
theorem isSl_one {v : MV} (h : isSl v = true) : v.one = true := by cases v <;> first | rfl | cases h
theorem isSl_isU {v : MV} (h : isSl v = true) : isU v = false := by cases v <;> first | rfl | cases h
theorem all_nil : allOne [] = true := rfl
theorem all_cons (x : MV) (l : List MV) : allOne (x :: l) = (x.one && allOne l) := rfl
theorem has_ofL (l : List MV) (n off : Nat) (h : off + n ≤ l.length) : hasB (ofL l 0) n off = true := hasB_of fun j hj => by
  rw [cget_ofL, if_pos (Nat.zero_le _), List.getElem?_eq_getElem (by omega)]; rfl
theorem hasB_iff {t : T MV} : ∀ {n off : Nat}, hasB t n off = true → ∀ j, j < n → (cget t (off + j)).isSome = true
  | 0, off, h, j, hj => by omega
  | n + 1, off, h, j, hj => by
    have h' : (match cget t off with
      | some _ => hasB t n (off + 1)
      | none => false) = true := h
    cases hc : cget t off with
    | none => rw [hc] at h'; cases h'
    | some v =>
      rw [hc] at h'
      cases j with
      | zero => rw [Nat.add_zero, hc]; rfl
      | succ j => rw [show off + (j + 1) = off + 1 + j from by omega]; exact hasB_iff h' j (by omega)
theorem has_setN {t : T MV} (l : List MV) (o n off : Nat) (h : hasB t n off = true) : hasB (setN l o t) n off = true := hasB_of fun j hj => by
  rw [cget_setN]
  split
  · rw [List.getElem?_eq_getElem (by omega)]; rfl
  · exact hasB_iff h j hj
def stOk (n : Nat) (y : MV) : Bool := (y.cells.length == n) && (!isU y && allOne y.cells)
theorem stW_ok {n id off sz : Nat} {t : T MV} {y : MV} (hlo : M.lo ≤ id) (hy : stOk n y = true) (hb : hasB t n off = true) : stW M n id off y (some (.cs false sz t)) = some (.u, M.set id (some (.cs false sz (setN y.cells off t)))) := by
  unfold stOk at hy
  simp only [Bool.and_eq_true, Bool.not_eq_true'] at hy
  exact stW_cs hlo (by simpa using hy.1) hy.2.1 hy.2.2 hb
noncomputable def bslW (M : MH) (sz n : Nat) (o : Option (List MV)) : Option (MV × MH) := match o with
  | some l => pushV M (.sl M.n 0 n 0) (.cs false sz (ofL l 0))
  | none => none
theorem bslW_some (sz n : Nat) (l : List MV) : bslW M sz n (some l) = pushV M (.sl M.n 0 n 0) (.cs false sz (ofL l 0)) := rfl
theorem ev_bslW (sz n : Nat) (zs : List MV) (ps : List (Nat × Nat × X)) : Iop.ev c f M (.bsl sz n zs ps) = bslW M sz n (fillM (ps.map fun x => (x.1, x.2.1, x.2.2.ev f)) (zrow zs n)) := by
  simp only [ev_bsl, bslW, pushV]
  cases fillM (ps.map fun x => (x.1, x.2.1, x.2.2.ev f)) (zrow zs n) <;> cases Nat.ble M.lo M.n <;> rfl
theorem zrow_one (zs : List MV) : zrow zs 1 = zs := by
  rw [zrow_succ, zrow_zero, List.append_nil]
theorem fill_nil (l : List MV) : fillM [] l = some l := rfl
theorem fill_ag {n : Nat} {e zs : List MV} (h : e.length = n) (hz : zs.length = n) : fillM [(0, n, .ag e)] zs = some e := by
  rw [fillM_cons]
  simp only [cells_ag, h, beq_self_eq_true, Bool.true_and, Nat.zero_add, hz, ble_t' (Nat.le_refl n), isU, Bool.not_false, cond_true, fill_nil, splice, List.take_zero, List.nil_append]
  rw [List.drop_eq_nil_of_le (by omega), List.append_nil]
theorem fill_one {x z : MV} (h : x.cells = [x]) (hu : isU x = false) : fillM [(0, 1, x)] [z] = some [x] := by
  rw [fillM_cons, h, hu]
  rfl
theorem row_one {M : MH} {sz : Nat} {e : List MV} (he : e.length = sz) : RowAt (M.push (.cs false sz (ofL e 0))) sz (.sl M.n 0 1 0) [e] :=
  ⟨fun x hx => by rw [List.mem_singleton.1 hx]; exact he, .inr ⟨M.n, 0, 0, false, sz, ofL e 0, rfl, push_new _, Nat.lt_succ_self _, by simpa using at_ofL e⟩⟩
theorem puM_eqA (n : Nat) (neg : Bool) (a b : List MV) : puM (.eqA n neg) (.ag a) (.ag b) = bif a.length == n then (match eqAg a b with
    | some r => some (.b (bif neg then !r else r))
    | none => none) else none := rfl
theorem eqAg_nil : eqAg [] [] = some true := rfl
theorem eqAg_i (k : IntKind) (x y : Int) (a b : List MV) : eqAg (.i k x :: a) (.i k y :: b) = match eqAg a b with
    | some t => some (bif x == y then t else false)
    | none => none := by cases k <;> rfl
theorem resL_1 (r : IRes) : resL f M [r] = match r.ev f M with
    | some m => some [m]
    | none => none := by
  show (match r.ev f M, resL f M [] with
    | some m, some l => some (m :: l)
    | _, _ => none) = _
  cases r.ev f M <;> rfl
theorem RowAt.sl {sz : Nat} {v : MV} {es : List (List MV)} (h : RowAt M sz v es) : isSl v = true ∧ slen v = es.length := by
  obtain ⟨_, ⟨rfl, rfl⟩ | ⟨id, off, e, ro, s, c, rfl, _⟩⟩ := h <;> exact ⟨rfl, rfl⟩
theorem RowAt.read {sz : Nat} {v : MV} {es : List (List MV)} (h : RowAt M sz v es) {i : Nat} {e : List MV} (he : es[i]? = some e) : ∃ ro s c, M.get (sid v) = some (.cs ro s c) ∧ sid v < M.n ∧ At c (soff v + i * sz) e := by
  obtain ⟨hs, ⟨rfl, rfl⟩ | ⟨id, off, ed, ro, s, c, rfl, h2, h3, h4⟩⟩ := h
  · simp at he
  · exact ⟨ro, s, c, h2, h3, h4.elem hs he⟩
def consO : Option MV → Option (List MV) → Option (List MV)
  | some m, some l => some (m :: l)
  | _, _ => none
theorem resL_c (r s : IRes) (rs : List IRes) : resL f M (r :: s :: rs) = consO (r.ev f M) (resL f M (s :: rs)) := by
  show (match r.ev f M, resL f M (s :: rs) with
    | some m, some l => some (m :: l)
    | _, _ => none) = _
  cases r.ev f M <;> cases resL f M (s :: rs) <;> rfl
theorem consO_some (m : MV) (l : List MV) : consO (some m) (some l) = some (m :: l) := rfl
theorem pack1 (x : MV) : packM [x] = x := rfl
theorem pack2 (x y : MV) : packM [x, y] = .tp [x, y] := rfl
theorem pack3 (x y z : MV) : packM [x, y, z] = .tp [x, y, z] := rfl
theorem ext_tp (i : Nat) (l : List MV) : extV i (.tp l) = l[i]? := rfl
end Go.Proofs.Ytlmmmchkhaidjaa.Ev
set_option linter.unusedSimpArgs false
set_option linter.unusedVariables false
namespace Go.Proofs.Ytlmmmchkhaidjaa.Ev
open Go Go.Deep
def TypedFs (T : TypeId → List MV → Prop) : List Field → List MV → Prop
  | [], cs => cs = []
  | f :: fs, cs => ∃ a b, cs = a ++ b ∧ T f.type a ∧ TypedFs T fs b
def TypedN (T : TypeId → List MV → Prop) (e : TypeId) : Nat → List MV → Prop
  | 0, cs => cs = []
  | n + 1, cs => ∃ a b, cs = a ++ b ∧ T e a ∧ TypedN T e n b
def Typed (P : Program) (M : MH) : Nat → TypeId → List MV → Prop
  | 0, _, _ => False
  | n + 1, t, cs => match P.underlying t with
    | some .bool => ∃ b, cs = [.b b]
    | some (.int k) => ∃ z, cs = [.i k z] ∧ (Lit.int k z).wf = true
    | some .string => ∃ s, cs = [.s s] ∧ s.size ≤ maxLen
    | some (.slice e) => ∃ v es, cs = [v] ∧ RowAt M (P.cellsOf e) v es ∧ es.length ≤ maxLen ∧ ∀ x ∈ es, Typed P M n e x
    | some (.struct fs) => TypedFs (Typed P M n) fs.toList cs
    | some (.array m e) => TypedN (Typed P M n) e m cs
    | _ => False
theorem TypedFs.mono {T T' : TypeId → List MV → Prop} (h : ∀ t cs, T t cs → T' t cs) : ∀ {fs : List Field} {cs : List MV}, TypedFs T fs cs → TypedFs T' fs cs
  | [], cs, k => k
  | f :: fs, cs, ⟨a, b, h1, h2, h3⟩ => ⟨a, b, h1, h _ _ h2, TypedFs.mono h h3⟩
theorem TypedN.mono {T T' : TypeId → List MV → Prop} (h : ∀ t cs, T t cs → T' t cs) {e : TypeId} : ∀ {n : Nat} {cs : List MV}, TypedN T e n cs → TypedN T' e n cs
  | 0, cs, k => k
  | n + 1, cs, ⟨a, b, h1, h2, h3⟩ => ⟨a, b, h1, h _ _ h2, TypedN.mono h h3⟩
theorem Typed.ext {P : Program} {M M' : MH} (k : Ext M M') : ∀ {n : Nat} {t : TypeId} {cs : List MV}, Typed P M n t cs → Typed P M' n t cs
  | 0, t, cs, h => h
  | n + 1, t, cs, h => by
    have ih : ∀ t cs, Typed P M n t cs → Typed P M' n t cs := fun t cs h => Typed.ext k h
    unfold Typed at h ⊢
    cases hu : P.underlying t with
    | none => rw [hu] at h; exact h.elim
    | some d =>
      rw [hu] at h
      cases d <;> simp only at h ⊢ <;> first | exact h | skip
      · obtain ⟨v, es, h1, h2, h3, h4⟩ := h
        exact ⟨v, es, h1, h2.ext k, h3, fun x hx => ih _ _ (h4 x hx)⟩
      · exact h.mono ih
      · exact h.mono ih
def fieldsOk (P : Program) (S : List TypeId) : List Field → Nat → Bool
  | [], _ => true
  | f :: r, o => (S.contains f.type && Nat.beq f.offset o) && fieldsOk P S r (o + P.cellsOf f.type)
def sumF (P : Program) : List Field → Nat → Nat
  | [], o => o
  | f :: r, o => sumF P r (o + P.cellsOf f.type)
def typeOk (P : Program) (S : List TypeId) (t : TypeId) : Bool := match P.underlying t with
  | some .bool => Nat.beq (P.cellsOf t) 1
  | some (.int _) => Nat.beq (P.cellsOf t) 1
  | some .string => Nat.beq (P.cellsOf t) 1
  | some (.slice e) => (S.contains e && Nat.blt 0 (P.cellsOf e)) && Nat.beq (P.cellsOf t) 1
  | some (.struct fs) => fieldsOk P S fs.toList 0 && Nat.beq (sumF P fs.toList 0) (P.cellsOf t)
  | some (.array m e) => S.contains e && Nat.beq (m * P.cellsOf e) (P.cellsOf t)
  | _ => false
def Closed (P : Program) (S : List TypeId) : Prop := ∀ t ∈ S, typeOk P S t = true
structure Opened (P : Program) (w : World) (β : BM) (M : MH) : Prop where
  inv : Inv β M w
  glob : GlobOk β
  ro : ∀ id o, M.get id = some o → o.rw = false
  lo : M.lo ≤ M.n
  zero : 0 < w.heap.size ∨ (M.get 0 = some thinO ∧ 0 < M.n ∧ β 0 = some ⟨0, 0, 0⟩)
theorem DenL.take {β : BM} {l : List MV} {vs : List Value} (h : DenL β l vs) (n : Nat) : DenL β (l.take n) (vs.take n) := by
  refine ⟨by rw [List.length_take, List.length_take, h.1], fun j x hj => ?_⟩
  rw [List.getElem?_take] at hj
  split at hj
  · rename_i hlt
    obtain ⟨v, h1, h2⟩ := h.2 j x hj
    exact ⟨v, by rw [List.getElem?_take, if_pos hlt]; exact h1, h2⟩
  · cases hj
theorem Opened.push {P : Program} {w : World} {β : BM} {M : MH} (h : Opened P w β M) (sz : Nat) (c : T MV) (B : Bl) (hB : B.blk < w.heap.size) (hc : ∀ i x, cget c i = some x → ∃ v, w.cell? ⟨B.blk, B.off + i, none⟩ = some v ∧ Den β x v) :
    ∃ β', Opened P w β' (M.push (.cs true sz c)) ∧ β.le β' ∧ β' M.n = some B := by
  have hle : β.le fun id => if id = M.n then some B else β id := fun id B' e => by
    by_cases h1 : id = M.n
    · subst h1; rw [h.inv.fresh M.n (Nat.le_refl _)] at e; cases e
    · show (if id = M.n then some B else β id) = some B'
      rw [if_neg h1]; exact e
  refine ⟨fun id => if id = M.n then some B else β id, ⟨⟨fun id hid => ?_, fun id B' e => ?_, fun id o ho => ?_, fun id id' o o' B1 B2 ho ho' hr e1 e2 hne => ?_⟩, h.glob.mono hle, fun id o ho => ?_, ?_, ?_⟩, hle, if_pos rfl⟩
  · have hid : M.n + 1 ≤ id := hid
    show (if id = M.n then some B else β id) = none
    rw [if_neg (by omega)]
    exact h.inv.fresh id (by omega)
  · by_cases h1 : id = M.n
    · have e' : some B = some B' := by rw [← e]; exact (if_pos h1).symm
      injection e' with e'; subst e'; exact .inl hB
    · have e' : β id = some B' := by rw [← e]; exact (if_neg h1).symm
      rcases h.inv.old id B' e' with h2 | ⟨rfl, h2⟩
      · exact .inl h2
      · exact .inr ⟨rfl, by rw [MH.get_push, if_neg fun x => h1 x.symm]; exact h2⟩
  · rw [MH.get_push] at ho
    by_cases h1 : M.n = id
    · rw [if_pos h1] at ho
      injection ho with ho
      subst ho
      exact ⟨B, if_pos h1.symm, fun i x hx => let ⟨v, a, b⟩ := hc i x hx; ⟨v, a, b.mono hle⟩⟩
    · rw [if_neg h1] at ho
      obtain ⟨B', e, hk⟩ := h.inv.obj id o ho
      exact ⟨B', hle _ _ e, hk.mono hle rfl⟩
  · exfalso
    rw [MH.get_push] at ho
    by_cases h1 : M.n = id
    · rw [if_pos h1] at ho; injection ho with ho; subst ho; cases hr
    · rw [if_neg h1] at ho; rw [h.ro id o ho] at hr; cases hr
  · rw [MH.get_push] at ho
    by_cases h1 : M.n = id
    · rw [if_pos h1] at ho; injection ho with ho; subst ho; rfl
    · rw [if_neg h1] at ho; exact h.ro id o ho
  · exact Nat.le_succ_of_le h.lo
  · exact .inl (Nat.lt_of_le_of_lt (Nat.zero_le _) hB)
def OpenAs (P : Program) (w : World) (n : Nat) (t : TypeId) (vs : List Value) : Prop := ∀ β M, Opened P w β M → ∃ β' M' cs, Opened P w β' M' ∧ β.le β' ∧ Ext M M' ∧ DenL β' cs vs ∧ Typed P M' n t cs
variable {H : Type} {enc : TypeId × Value → H} {P : Program} {w : World} {held : Bool}
theorem open_fields {T : TypeId → List Value → Prop} {n : Nat} {S : List TypeId} (hT : ∀ t vs, t ∈ S → T t vs → OpenAs P w n t vs) : ∀ (fs : List Field) (o : Nat) (vs : List Value), fieldsOk P S fs o = true → o + vs.length = sumF P fs o → (∀ f ∈ fs, T f.type (((vs.drop (f.offset - o)).take (P.cellsOf f.type)))) →
    ∀ β M, Opened P w β M → ∃ β' M' cs, Opened P w β' M' ∧ β.le β' ∧ Ext M M' ∧ DenL β' cs vs ∧ TypedFs (Typed P M' n) fs cs
  | [], o, vs, hk, hl, hf, β, M, hO => by
    have : vs = [] := List.length_eq_zero_iff.1 (by have : o + vs.length = o := hl; omega)
    subst this
    exact ⟨β, M, [], hO, .refl β, .refl M, .nil β, rfl⟩
  | f :: fs, o, vs, hk, hl, hf, β, M, hO => by
    simp only [fieldsOk, Bool.and_eq_true] at hk
    obtain ⟨⟨hS, ho⟩, hr⟩ := hk
    have ho : f.offset = o := Nat.eq_of_beq_eq_true ho
    have hS : f.type ∈ S := by simpa using hS
    have hle : ∀ (fs : List Field) (o : Nat), o ≤ sumF P fs o := by
      intro fs
      induction fs with
      | nil => exact fun o => Nat.le_refl _
      | cons f fs ih => exact fun o => Nat.le_trans (Nat.le_add_right _ _) (ih (o + P.cellsOf f.type))
    have hl' : o + vs.length = sumF P fs (o + P.cellsOf f.type) := hl
    have h0 := hle fs (o + P.cellsOf f.type)
    have hoff : ∀ (fs : List Field) (o : Nat), fieldsOk P S fs o = true → ∀ f ∈ fs, o ≤ f.offset := by
      intro fs
      induction fs with
      | nil => exact fun o _ f hf => by cases hf
      | cons f fs ih =>
        intro o hk g hg
        simp only [fieldsOk, Bool.and_eq_true] at hk
        rcases List.mem_cons.1 hg with rfl | hg
        · exact Nat.le_of_eq (Nat.eq_of_beq_eq_true hk.1.2).symm
        · exact Nat.le_trans (Nat.le_add_right _ _) (ih _ hk.2 g hg)
    have h1 := hf f List.mem_cons_self
    rw [ho, Nat.sub_self, List.drop_zero] at h1
    obtain ⟨β1, M1, a, hO1, hb1, hx1, hd1, ht1⟩ := hT _ _ hS h1 β M hO
    obtain ⟨β2, M2, b, hO2, hb2, hx2, hd2, ht2⟩ := open_fields hT fs (o + P.cellsOf f.type) (vs.drop (P.cellsOf f.type)) hr (by rw [List.length_drop]; omega) (fun g hg => by
      have := hf g (List.mem_cons_of_mem _ hg)
      have hge := hoff fs _ hr g hg
      rw [List.drop_drop, show P.cellsOf f.type + (g.offset - (o + P.cellsOf f.type)) = g.offset - o from by omega]
      exact this) β1 M1 hO1
    refine ⟨β2, M2, a ++ b, hO2, hb1.trans hb2, hx1.trans hx2, ?_, a, b, rfl, Typed.ext hx2 ht1, ht2⟩
    have := (hd1.mono hb2).append hd2
    rwa [List.take_append_drop] at this
theorem open_cells {T : TypeId → List Value → Prop} {n : Nat} {e : TypeId} (hT : ∀ vs, T e vs → OpenAs P w n e vs) : ∀ (m : Nat) (vs : List Value), vs.length = m * P.cellsOf e → (∀ i, i < m → T e ((vs.drop (i * P.cellsOf e)).take (P.cellsOf e))) →
    ∀ β M, Opened P w β M → ∃ β' M' cs, Opened P w β' M' ∧ β.le β' ∧ Ext M M' ∧ DenL β' cs vs ∧ TypedN (Typed P M' n) e m cs
  | 0, vs, hl, hf, β, M, hO => by
    have : vs = [] := List.length_eq_zero_iff.1 (by rw [hl, Nat.zero_mul])
    subst this
    exact ⟨β, M, [], hO, .refl β, .refl M, .nil β, rfl⟩
  | m + 1, vs, hl, hf, β, M, hO => by
    have h1 := hf 0 (Nat.succ_pos _)
    rw [Nat.zero_mul, List.drop_zero] at h1
    rw [Nat.succ_mul] at hl
    obtain ⟨β1, M1, a, hO1, hb1, hx1, hd1, ht1⟩ := hT _ h1 β M hO
    obtain ⟨β2, M2, b, hO2, hb2, hx2, hd2, ht2⟩ := open_cells hT m (vs.drop (P.cellsOf e)) (by rw [List.length_drop]; omega) (fun i hi => by
      have := hf (i + 1) (by omega)
      rw [List.drop_drop, show P.cellsOf e + i * P.cellsOf e = (i + 1) * P.cellsOf e from by rw [Nat.succ_mul]; omega]
      exact this) β1 M1 hO1
    refine ⟨β2, M2, a ++ b, hO2, hb1.trans hb2, hx1.trans hx2, ?_, a, b, rfl, Typed.ext hx2 ht1, ht2⟩
    have := (hd1.mono hb2).append hd2
    rwa [List.take_append_drop] at this
theorem open_elems {n L : Nat} {e : TypeId} {a : Addr} (hT : ∀ i, i < L → OpenAs P w n e ((w.cells? 0 (a.add (i * P.cellsOf e)) (P.cellsOf e)).getD [])) : ∀ (m i : Nat), i + m ≤ L → ∀ β M, Opened P w β M → ∃ (β' : BM) (M' : MH) (es : List (List MV)), Opened P w β' M' ∧ β.le β' ∧ Ext M M' ∧ es.length = m ∧ (∀ x ∈ es, Typed P M' n e x) ∧ ∀ j x, es[j]? = some x → DenL β' x ((w.cells? 0 (a.add ((i + j) * P.cellsOf e)) (P.cellsOf e)).getD [])
  | 0, i, _, β, M, hO => ⟨β, M, [], hO, .refl β, .refl M, rfl, fun x hx => (by cases hx), fun j x hj => (by simp at hj)⟩
  | m + 1, i, hL, β, M, hO => by
    obtain ⟨β1, M1, c, hO1, hb1, hx1, hd1, ht1⟩ := hT i (by omega) β M hO
    obtain ⟨β2, M2, es, hO2, hb2, hx2, hl2, ht2, hd2⟩ := open_elems hT m (i + 1) (by omega) β1 M1 hO1
    refine ⟨β2, M2, c :: es, hO2, hb1.trans hb2, hx1.trans hx2, by rw [List.length_cons, hl2], fun x hx => ?_, fun j x hj => ?_⟩
    · rcases List.mem_cons.1 hx with rfl | hx
      · exact Typed.ext hx2 ht1
      · exact ht2 x hx
    · cases j with
      | zero =>
        simp only [List.getElem?_cons_zero, Option.some.injEq] at hj
        subst hj
        exact hd1.mono hb2
      | succ j =>
        rw [show i + (j + 1) = i + 1 + j from by omega]
        exact hd2 j x (by simpa using hj)
theorem add_at (a : Addr) (k : Nat) (h : a.spot = none) : a.add k = ⟨a.block, a.off + k, none⟩ := by
  obtain ⟨b, o, s⟩ := a
  simp only at h
  subst h
  unfold Addr.add
  split
  · rename_i hk; subst hk; rfl
  · rfl
theorem spot_none {a : Addr} {v : Value} (h : w.cell? a = some v) : a.spot = none := by
  obtain ⟨B, o, sp⟩ := a
  cases sp with
  | none => rfl
  | some q =>
    simp only [World.cell?, Option.isSome_some, if_true] at h
    split at h <;> simp at h
theorem Sized.at {sz : Nat} : ∀ {es : List (List MV)} {i : Nat} {x : MV}, Sized sz es → es.flatten[i]? = some x → ∃ j r c, i = j * sz + r ∧ r < sz ∧ es[j]? = some c ∧ c[r]? = some x
  | [], i, x, hs, h => by simp at h
  | e :: es, i, x, hs, h => by
    have he : e.length = sz := hs e List.mem_cons_self
    rw [List.flatten_cons] at h
    by_cases hi : i < e.length
    · rw [List.getElem?_append_left hi] at h
      exact ⟨0, i, e, by omega, by omega, rfl, h⟩
    · rw [List.getElem?_append_right (by omega)] at h
      obtain ⟨j, r, c, h1, h2, h3, h4⟩ := Sized.at (fun y hy => hs y (List.mem_cons_of_mem _ hy)) h
      exact ⟨j + 1, r, c, by rw [Nat.succ_mul]; omega, h2, by simpa using h3, h4⟩
theorem open_any {S : List TypeId} (hS : Closed P S) : ∀ (n : Nat) (t : TypeId) (vs : List Value) (x : DataW H × List MemPlace), t ∈ S → DataW.trod enc P w 0 (fun _ => true) held n t vs = some x → OpenAs P w n t vs
  | 0, t, vs, x, ht, h => by simp [DataW.trod] at h
  | n + 1, t, vs, x, ht, h => by
    have ih : ∀ t vs x, t ∈ S → DataW.trod enc P w 0 (fun _ => true) held n t vs = some x → OpenAs P w n t vs := open_any hS n
    have hk := hS t ht
    unfold typeOk at hk
    intro β M hO
    cases hu : P.underlying t with
    | none => rw [hu] at hk; cases hk
    | some d =>
      rw [hu] at hk
      cases d <;> simp only [Bool.and_eq_true] at hk <;> first | (cases hk; done) | skip
      · obtain ⟨b, rfl, _⟩ := DataW.trod_bool hu h
        exact ⟨β, M, [.b b], hO, .refl β, .refl M, .cons (.b b) (.nil β), by simp only [Typed, hu]; exact ⟨b, rfl⟩⟩
      · obtain ⟨z, rfl, _, hz⟩ := DataW.trod_int hu h
        exact ⟨β, M, [.i _ z], hO, .refl β, .refl M, .cons (.i _ z) (.nil β), by simp only [Typed, hu]; exact ⟨z, rfl, hz⟩⟩
      · obtain ⟨s, rfl, _, hs⟩ := DataW.trod_string hu h
        exact ⟨β, M, [.s s], hO, .refl β, .refl M, .cons (.s s) (.nil β), by simp only [Typed, hu]; exact ⟨s, rfl, hs⟩⟩
      · rename_i e
        obtain ⟨⟨hc, hz⟩, h1⟩ := hk
        have hc : e ∈ S := by simpa using hc
        have hz : 0 < P.cellsOf e := Nat.le_of_ble_eq_true hz
        rcases DataW.trod_slice hu h with ⟨rfl, _⟩ | ⟨a, len, cap, elems, rest, q, e1, rfl, _, hb, hl, hm, hlen, hel, hsp, hns⟩
        · exact ⟨β, M, [.nils], hO, .refl β, .refl M, .cons .nils (.nil β), by simp only [Typed, hu]; exact ⟨.nils, [], rfl, ⟨fun x hx => (by cases hx), .inl ⟨rfl, rfl⟩⟩, Nat.zero_le _, fun x hx => (by cases hx)⟩⟩
        injection e1 with e1
        subst e1
        have hone : ∀ i, i < len → ∃ cs, w.cells? 0 (a.add (i * P.cellsOf e)) (P.cellsOf e) = some cs ∧ OpenAs P w n e cs := fun i hi => by
          have := hel i hi
          rw [List.getElem?_eq_getElem (by omega), Option.bind_eq_some_iff] at this
          obtain ⟨cs, g1, g2⟩ := this
          exact ⟨cs, g1, ih e cs _ hc g2⟩
        have hcap : 0 < cap → a.spot = none ∧ a.block < w.heap.size := fun hcap => by
          have hfirst : ∃ cs, w.cells? 0 a (P.cellsOf e) = some cs := by
            by_cases h0 : 0 < len
            · obtain ⟨cs, g, _⟩ := hone 0 h0
              rw [Nat.zero_mul] at g
              exact ⟨cs, g⟩
            · have := (hsp rfl).2 0 (by omega)
              rw [List.getElem?_eq_getElem (by have := (hsp rfl).1; omega), Option.bind_eq_some_iff] at this
              obtain ⟨cs, g, _⟩ := this
              rw [show len + 0 = 0 from by omega, Nat.zero_mul] at g
              exact ⟨cs, g⟩
          obtain ⟨cs, g⟩ := hfirst
          obtain ⟨_, gl, gat⟩ := World.cells?_some g
          have g0 := gat 0 hz
          have : cs[0]? = some cs[0] := List.getElem?_eq_getElem (by omega)
          rw [this] at g0
          exact ⟨spot_none (a := a) g0, World.block_lt_of_cell? w a g0⟩
        obtain ⟨β1, M1, es, hO1, hb1, hx1, hl1, ht1, hd1⟩ := open_elems (P := P) (w := w) (n := n) (L := len) (e := e) (a := a) (fun i hi => by
          obtain ⟨cs, g1, g2⟩ := hone i hi
          rw [g1]
          exact g2) len 0 (by omega) β M hO
        have hsz : Sized (P.cellsOf e) es := fun x hx => by
          obtain ⟨j, hj, rfl⟩ := List.mem_iff_getElem.1 hx
          obtain ⟨cs, g1, g2⟩ := hone j (by omega)
          have := hd1 j _ (List.getElem?_eq_getElem hj)
          rw [Nat.zero_add, g1] at this
          rw [this.1]
          exact (World.cells?_some g1).2.1
        have hcell : ∀ i x, cget (ofL es.flatten 0) i = some x → ∃ v, w.cell? ⟨a.block, a.off + i, none⟩ = some v ∧ Den β1 x v := fun i x hx => by
          rw [cget_ofL, if_pos (Nat.zero_le _), Nat.sub_zero] at hx
          obtain ⟨j, r, c, rfl, hr, hj, hcr⟩ := hsz.at hx
          have hjl : j < len := by have := (List.getElem?_eq_some_iff.1 hj).1; omega
          obtain ⟨cs, g1, g2⟩ := hone j hjl
          have hd := hd1 j c hj
          rw [Nat.zero_add, g1] at hd
          obtain ⟨v, g3, g4⟩ := hd.2 r x hcr
          obtain ⟨_, gl, gat⟩ := World.cells?_some g1
          have g5 := gat r hr
          have hsp0 := (hcap (by omega)).1
          rw [add_at a _ hsp0, add_at _ _ rfl] at g5
          rw [← Nat.add_assoc]
          exact ⟨v, g5.trans g3, g4⟩
        by_cases h0 : 0 < cap
        · obtain ⟨hsp0, hblk⟩ := hcap h0
          obtain ⟨β2, hO2, hb2, hβ⟩ := hO1.push (P.cellsOf e) (ofL es.flatten 0) ⟨a.block, a.off, cap⟩ hblk hcell
          refine ⟨β2, _, [.sl M1.n 0 len 0], hO2, hb1.trans hb2, hx1.trans (.push M1 _), .cons (.sl M1.n 0 len 0 _ a hβ (by simpa using hl) fun _ => ?_) (.nil _), ?_⟩
          · obtain ⟨b, o, sp⟩ := a
            simp only at hsp0
            subst hsp0
            rfl
          · simp only [Typed, hu]
            refine ⟨_, es, rfl, ⟨hsz, .inr ⟨M1.n, 0, 0, true, _, _, by rw [hl1], push_new _, Nat.lt_succ_self _, at_ofL _⟩⟩, by rw [hl1]; omega, fun x hx => Typed.ext (.push M1 _) (ht1 x hx)⟩
        · have hc0 : cap = 0 := by omega
          have hl0 : len = 0 := by omega
          subst hc0 hl0
          have he0 : es = [] := List.length_eq_zero_iff.1 hl1
          subst he0
          rcases hO1.zero with hw | ⟨z1, z2, z3⟩
          · obtain ⟨β2, hO2, hb2, hβ⟩ := hO1.push (P.cellsOf e) (ofL [] 0) ⟨0, 0, 0⟩ hw (fun i x hx => by rw [cget_ofL] at hx; simp at hx)
            refine ⟨β2, _, [.sl M1.n 0 0 0], hO2, hb1.trans hb2, hx1.trans (.push M1 _), .cons (.sl M1.n 0 0 0 _ a hβ (Nat.le_refl _) fun h => absurd h (Nat.lt_irrefl _)) (.nil _), ?_⟩
            simp only [Typed, hu]
            exact ⟨_, [], rfl, ⟨hsz, .inr ⟨M1.n, 0, 0, true, _, _, rfl, push_new _, Nat.lt_succ_self _, at_ofL _⟩⟩, Nat.zero_le _, fun x hx => (by cases hx)⟩
          · refine ⟨β1, M1, [.sl 0 0 0 0], hO1, hb1, hx1, .cons (.sl 0 0 0 0 ⟨0, 0, 0⟩ a z3 (Nat.le_refl _) fun h => absurd h (Nat.lt_irrefl _)) (.nil _), ?_⟩
            simp only [Typed, hu]
            exact ⟨_, [], rfl, ⟨hsz, .inr ⟨0, 0, 0, true, 0, .lf, rfl, z1, z2, .nil _ _⟩⟩, Nat.zero_le _, fun x hx => (by cases hx)⟩
      · rename_i m e
        obtain ⟨hc, hz⟩ := hk
        obtain ⟨xs, q, e1, _, hl, hlen, hf⟩ := DataW.trod_array hu h
        injection e1 with e1
        subst e1
        have hz := Nat.eq_of_beq_eq_true hz
        have hc : e ∈ S := by simpa using hc
        obtain ⟨β', M', cs, k1, k2, k3, k4, k5⟩ := open_cells (P := P) (w := w) (n := n) (e := e) (T := fun t vs => ∃ x, DataW.trod enc P w 0 (fun _ => true) held n t vs = some x) (fun vs ⟨x, hx⟩ => ih e vs x hc hx) m vs (by rw [hl, hz]) (fun i hi => by
          have := hf i hi
          rw [List.getElem?_eq_getElem (by omega)] at this
          exact ⟨_, this⟩) β M hO
        exact ⟨β', M', cs, k1, k2, k3, k4, by simp only [Typed, hu]; exact k5⟩
      · rename_i fs
        obtain ⟨hf, hz⟩ := hk
        have hz := Nat.eq_of_beq_eq_true hz
        obtain ⟨xs, q, e1, _, hl, hlen, hg⟩ := DataW.trod_struct hu h
        injection e1 with e1
        subst e1
        obtain ⟨β', M', cs, k1, k2, k3, k4, k5⟩ := open_fields (P := P) (w := w) (n := n) (S := S) (T := fun t vs => ∃ x, DataW.trod enc P w 0 (fun _ => true) held n t vs = some x) (fun t vs ht ⟨x, hx⟩ => ih t vs x ht hx) fs.toList 0 vs hf (by rw [Nat.zero_add, hl, hz]) (fun f hf => by
          obtain ⟨i, hi, rfl⟩ := List.mem_iff_getElem.1 hf
          have := hg i fs.toList[i] (by simp)
          rw [List.getElem?_eq_getElem (by rw [hlen]; simpa using hi)] at this
          rw [Nat.sub_zero]
          exact ⟨_, this⟩) β M hO
        exact ⟨β', M', cs, k1, k2, k3, k4, by simp only [Typed, hu]; exact k5⟩
end Go.Proofs.Ytlmmmchkhaidjaa.Ev
set_option linter.unusedSimpArgs false
set_option linter.unusedVariables false
namespace Go.Proofs.Ytlmmmchkhaidjaa.Ev
open Go Go.Deep Go.RowKit Go.WideShapes Kit
def ArgTyped (P : Program) (M : MH) (t : TypeId) (m : MV) : Prop := ∃ n cs, Typed P M n t cs ∧ match P.underlying t with
  | some (.struct _) => m = .ag cs
  | some (.array _ _) => m = .ag cs
  | _ => cs = [m]
def ArgsTyped (P : Program) (M : MH) : List TypeId → List MV → Prop
  | [], ms => ms = []
  | t :: ts, ms => ∃ m r, ms = m :: r ∧ ArgTyped P M t m ∧ ArgsTyped P M ts r
theorem ArgTyped.ext {P : Program} {M M' : MH} (k : Ext M M') {t : TypeId} {m : MV} (h : ArgTyped P M t m) : ArgTyped P M' t m :=
  let ⟨n, cs, h1, h2⟩ := h
  ⟨n, cs, Typed.ext k h1, h2⟩
variable {H : Type} {enc : TypeId × Value → H} {P : Program} {w : World}
theorem open_arg {S : List TypeId} (hS : Closed P S) {t : TypeId} {v : Value} {d : DataW H} {ps : List MemPlace} {r : Reach} {base : Nat} (ht : t ∈ S) (h : DataW.Trod enc P w 0 (fun _ => true) true t v d ps) (hv : Value.okWide P w r base t v) :
    ∀ β M, Opened P w β M → ∃ β' M' m, Opened P w β' M' ∧ β.le β' ∧ Ext M M' ∧ Den β' m v ∧ ArgTyped P M' t m := by
  intro β M hO
  obtain ⟨n, hn⟩ := h
  obtain ⟨β', M', cs, h1, h2, h3, h4, h5⟩ := open_any hS n t v.cells.toList _ ht hn β M hO
  have hk := hS t ht
  unfold typeOk at hk
  have one : (∀ xs, v ≠ .agg xs) → (∀ cs, Typed P M' n t cs → ∃ x, cs = [x]) → ∃ m, Den β' m v ∧ cs = [m] := fun hne hc => by
    obtain ⟨x, rfl⟩ := hc cs h5
    have hcell : v.cells.toList = [v] := by
      cases v <;> first | rfl | exact absurd rfl (hne _)
    rw [hcell] at h4
    obtain ⟨v', ws, e, hd, hr⟩ := h4.inv
    injection e with e1 e2
    subst e1
    exact ⟨x, hd, rfl⟩
  cases n with
  | zero => exact h5.elim
  | succ n =>
  cases hu : P.underlying t with
  | none => rw [hu] at hk; cases hk
  | some k =>
    rw [hu] at hk
    cases k <;> simp only [Bool.and_eq_true] at hk <;> first | (cases hk; done) | skip
    · obtain ⟨b, rfl⟩ := okWide_bool hu hv
      obtain ⟨m, hm, rfl⟩ := one (fun xs e => by cases e) fun cs hc => by simp only [Typed, hu] at hc; obtain ⟨b, rfl⟩ := hc; exact ⟨_, rfl⟩
      exact ⟨β', M', m, h1, h2, h3, hm, n + 1, [m], h5, by simp only [hu]⟩
    · obtain ⟨b, rfl⟩ := okWide_int hu hv
      obtain ⟨m, hm, rfl⟩ := one (fun xs e => by cases e) fun cs hc => by simp only [Typed, hu] at hc; obtain ⟨b, rfl, _⟩ := hc; exact ⟨_, rfl⟩
      exact ⟨β', M', m, h1, h2, h3, hm, n + 1, [m], h5, by simp only [hu]⟩
    · obtain ⟨b, rfl⟩ := okWide_string hu hv
      obtain ⟨m, hm, rfl⟩ := one (fun xs e => by cases e) fun cs hc => by simp only [Typed, hu] at hc; obtain ⟨b, rfl, _⟩ := hc; exact ⟨_, rfl⟩
      exact ⟨β', M', m, h1, h2, h3, hm, n + 1, [m], h5, by simp only [hu]⟩
    · obtain ⟨a, l, c, rfl⟩ := okWide_slice hu hv
      obtain ⟨m, hm, rfl⟩ := one (fun xs e => by cases e) fun cs hc => by simp only [Typed, hu] at hc; obtain ⟨v, es, rfl, _⟩ := hc; exact ⟨_, rfl⟩
      exact ⟨β', M', m, h1, h2, h3, hm, n + 1, [m], h5, by simp only [hu]⟩
    · unfold Value.okWide at hv
      rw [hu] at hv
      obtain ⟨xs, rfl, _⟩ := hv
      exact ⟨β', M', .ag cs, h1, h2, h3, DenL.agg h4, n + 1, cs, h5, by simp only [hu]⟩
    · obtain ⟨xs, rfl, _⟩ := okWide_struct hu hv
      exact ⟨β', M', .ag cs, h1, h2, h3, DenL.agg h4, n + 1, cs, h5, by simp only [hu]⟩
theorem open_args {S : List TypeId} (hS : Closed P S) {r : Reach} {base : Nat} : ∀ (ts : List TypeId) (vs : List Value) (ds : List (DataW H)) (ps : List MemPlace), (∀ t ∈ ts, t ∈ S) → DataW.TrodAll enc P w 0 (fun _ => true) true ts vs ds ps → (∀ (j : Nat) t v, ts[j]? = some t → vs[j]? = some v → Value.okWide P w r base t v) →
    ∀ β M, Opened P w β M → ∃ β' M' ms, Opened P w β' M' ∧ β.le β' ∧ Ext M M' ∧ DenL β' ms vs ∧ ArgsTyped P M' ts ms
  | [], [], [], ps, hin, h, hv, β, M, hO => ⟨β, M, [], hO, .refl β, .refl M, .nil β, rfl⟩
  | t :: ts, v :: vs, d :: ds, ps, hin, h, hv, β, M, hO => by
    obtain ⟨p, q, h1, h2, _⟩ := h
    obtain ⟨β1, M1, m, a1, a2, a3, a4, a5⟩ := open_arg hS (hin t List.mem_cons_self) h1 (hv 0 t v rfl rfl) β M hO
    obtain ⟨β2, M2, ms, b1, b2, b3, b4, b5⟩ := open_args hS ts vs ds q (fun t ht => hin t (List.mem_cons_of_mem _ ht)) h2 (fun j t v h h' => hv (j + 1) t v (by simpa using h) (by simpa using h')) β1 M1 a1
    exact ⟨β2, M2, m :: ms, b1, a2.trans b2, a3.trans b3, .cons (a4.mono b2) b4, m, ms, rfl, a5.ext b3, b5⟩
theorem law_in (hm : P.follows .mixedOrders = true) {fns : Nat → Option IFn} (hfns : ∀ g fn, fns g = some fn → FitsF P g fn) {S : List TypeId} (hS : Closed P S) {r : Reach} {base g : Nat} {ts : List TypeId} {vs : List Value} {ds : List (DataW H)} {ps : List MemPlace} (hin : ∀ t ∈ ts, t ∈ S)
    (h : DataW.TrodAll enc P w 0 (fun _ => true) true ts vs ds ps) (hv : ∀ (j : Nat) t v, ts[j]? = some t → vs[j]? = some v → Value.okWide P w r base t v) {β0 : BM} {M0 : MH} (hO : Opened P w β0 M0)
    (law : ∀ M ms, Ext M0 M → M.lo ≤ M.n → ArgsTyped P M ts ms → Cp fns g ms M fun m _ => m = .b true) :
    Calls P g vs.toArray w fun e w' => e = .returned (.bool true) ∧ Kept w w' := by
  obtain ⟨β, M, ms, h1, h2, h3, h4, h5⟩ := open_args hS ts vs ds ps hin h hv β0 M0 hO
  obtain ⟨m, M', h6, rfl⟩ := law M ms h3 h1.lo h5
  obtain ⟨n, h7⟩ := callA_ex h6
  refine (calls_run_at hm hfns n g ms vs (.b true) β M M' w h1.glob h1.inv h1.ro h7 h4).mono ?_
  rintro e w' ⟨v, β', rfl, hd, hk⟩
  cases hd
  exact ⟨rfl, hk⟩
theorem callF_inv {fns : Nat → Option IFn} {n g : Nat} {fn : IFn} {args : List MV} {M M' : MH} {m : MV} (hg : fns g = some fn) (h : callF fns n g args M = some (m, M')) : args.length ≤ fn.sz ∧ Wp fns fn.body (argsF args 0 .lf) M (retQ fn fun m' M3 => m' = m ∧ M3 = M') := by
  unfold callF at h
  rw [hg] at h
  simp only at h
  cases hb : Nat.ble args.length fn.sz with
  | false => rw [hb] at h; cases h
  | true =>
    rw [hb] at h
    simp only [cond_true] at h
    refine ⟨Nat.le_of_ble_eq_true hb, ?_⟩
    cases h1 : run fns n fn.body (argsF args 0 .lf) M with
    | none => rw [h1] at h; cases h
    | some x =>
      obtain ⟨ex, f, M1⟩ := x
      rw [h1] at h
      refine ⟨n, ex, f, M1, h1, ?_⟩
      cases ex with
      | exit i => cases h
      | norm =>
        simp only at h
        cases h2 : resL f M1 fn.res with
        | none => rw [h2] at h; cases h
        | some l =>
          rw [h2] at h
          injection h with h; injection h with h3 h4
          exact ⟨l, h2, h3, h4⟩
      | ret =>
        simp only at h
        cases h2 : resL f M1 fn.res with
        | none => rw [h2] at h; cases h
        | some l =>
          rw [h2] at h
          injection h with h; injection h with h3 h4
          exact ⟨l, h2, h3, h4⟩
theorem Step.of_kept {β : BM} {M : MH} {w w' : World} (h : Inv β M w) (k : Kept w w') : Step β β M M w w' := by
  obtain ⟨k1, k2, k3, k4, k5⟩ := k
  refine ⟨⟨h.fresh, fun id B e => (h.old id B e).imp (fun x => Nat.lt_of_lt_of_le x k4) (fun x => x), fun id o ho => h.keep (.refl β) (fun b hb => k5 b hb) ho, h.inj⟩, .refl β, k4, k1, k2, k3, fun b hb _ => k5 b hb, fun b hb => .inl hb, Nat.le_refl _, rfl, fun _ _ => rfl, fun _ _ h => h, fun _ _ => rfl, fun _ _ h _ => h⟩
def Ftrue : IFn := ⟨0, [.tmp (.k1 .d0)], .reg [⟨some (.k1 .d0), none, .mov (.c (.b true))⟩]⟩
theorem sem_true {g : Nat} {fn : Func} {c : Code} (h1 : P.funcs[g]? = some fn) (h2 : (fn.name == "runtime.NumGoroutine") = false) (h3 : fn.body = some c) (h : ∀ w, Calls P g #[] w fun e w' => e = .returned (.bool true) ∧ Kept w w') : SemF P g Ftrue := by
  intro fns n hg _ args M M' m hc
  refine ⟨⟨fn, c, h1, h2, h3⟩, fun β w vs hgl hi hd => ?_⟩
  obtain ⟨ha, hW⟩ := callF_inv hg hc
  have ha : args = [] := List.length_eq_zero_iff.1 (Nat.le_zero.1 ha)
  subst ha
  cases hd.inv0
  have hW : Wp fns (.reg [⟨some (.k1 .d0), none, .mov (.c (.b true))⟩]) (argsF [] 0 .lf) M (retQ Ftrue fun m' M3 => m' = m ∧ M3 = M') := hW
  simp only [Wp_reg_iff, Wl_op_iff, Wl_nil_iff, bindP_some, ev_mov, ev_c, setD_some, ev_args, retQ_norm, show Ftrue.res = [.tmp (.k1 .d0)] from rfl, resL_1, res_set, if_true] at hW
  obtain ⟨rfl, rfl⟩ := hW
  refine (h w).mono ?_
  rintro e w' ⟨rfl, hk⟩
  exact ⟨_, β, rfl, .b true, Step.of_kept hi hk⟩
noncomputable def Mz : MH := ⟨T.set (path 0) (some thinO) .lf, 1, 0⟩
def Bz : BM := fun id => if id = 0 then some ⟨0, 0, 0⟩ else none
theorem Mz_get (id : Nat) : Mz.get id = if id = 0 then some thinO else none := by
  unfold Mz MH.get
  show (T.set (path 0) (some thinO) .lf).get (path id) = _
  rw [T.get_set]
  by_cases h : id = 0
  · subst h; simp
  · have hp : ¬ path 0 = path id := fun e => h (path_inj e).symm
    simp [h, hp, T.get_lf]
theorem opened_none (hg : ∀ g, gtab g = none) : Opened P w Bz Mz := by
  refine ⟨⟨fun id hid => ?_, fun id B hB => ?_, fun id o ho => ?_, fun id id' o o' B B' ho _ hr => ?_⟩, fun g id cap e => ?_, fun id o ho => ?_, Nat.zero_le _, .inr ⟨by rw [Mz_get, if_pos rfl], Nat.one_pos, rfl⟩⟩
  · have : (1 : Nat) ≤ id := hid
    unfold Bz; rw [if_neg (by omega)]
  · unfold Bz at hB
    split at hB
    · rename_i h
      exact .inr ⟨h, by rw [Mz_get, if_pos rfl]⟩
    · cases hB
  · rw [Mz_get] at ho
    split at ho
    · rename_i e
      subst e
      injection ho with ho
      subst ho
      exact ⟨⟨0, 0, 0⟩, rfl, .thin _ _ _⟩
    · cases ho
  · rw [Mz_get] at ho
    split at ho
    · injection ho with ho
      subst ho
      cases hr
    · cases ho
  · rw [hg g] at e; cases e
  · rw [Mz_get] at ho
    split at ho
    · injection ho with ho
      subst ho
      rfl
    · cases ho
end Go.Proofs.Ytlmmmchkhaidjaa.Ev
set_option linter.unusedSimpArgs false
set_option linter.unusedVariables false
namespace Go.Proofs.Ytlmmmchkhaidjaa.Ev
open Go
theorem At.set {c : T MV} {off : Nat} {l : List MV} (h : At c off l) (j : Nat) (x : MV) (hj : j < l.length) : At (setN [x] (off + j) c) off (l.set j x) := fun i y hi => by
  rw [cget_setN]
  rw [List.getElem?_set] at hi
  by_cases e : j = i
  · subst e
    rw [if_pos rfl, if_pos hj] at hi
    rw [if_pos ⟨Nat.le_refl _, by simp⟩, Nat.sub_self]
    exact hi
  · rw [if_neg e] at hi
    rw [if_neg (by simp only [List.length_singleton]; omega)]
    exact h i y hi
theorem At.set' {c : T MV} {off k : Nat} {l : List MV} (h : At c off l) (j : Nat) (x : MV) (hj : j < l.length) (hk : k = off + j) : At (setN [x] k c) off (l.set j x) := by subst hk; exact h.set j x hj
theorem Sized.set {sz : Nat} {es : List (List MV)} (h : Sized sz es) (i : Nat) {e : List MV} (he : e.length = sz) : Sized sz (es.set i e) := fun x hx => by
  rcases List.mem_or_eq_of_mem_set hx with h1 | h1
  · exact h x h1
  · rw [h1]; exact he
theorem has_at {c : T MV} {off : Nat} {l : List MV} (h : At c off l) {k n : Nat} (hk : off ≤ k) (hn : k + n ≤ off + l.length) : hasB c n k = true := hasB_of fun j hj => by
  rw [show k + j = off + (k - off + j) from by omega, h (k - off + j) _ (List.getElem?_eq_getElem (by omega))]
  rfl
theorem OwnRow.keep {lo : Nat} {M M' : MH} {sz : Nat} {v : MV} {es : List (List MV)} (h : OwnRow lo M sz v es) (hn : M.n ≤ M'.n) (k : ∀ a b n d, v = .sl a b n d → M'.get a = M.get a) : OwnRow lo M' sz v es := by
  obtain ⟨hs, h | ⟨id, c, h1, h2, h3, h4, h5⟩⟩ := h
  · exact ⟨hs, .inl h⟩
  · exact ⟨hs, .inr ⟨id, c, h1, (k _ _ _ _ h1).trans h2, h3, Nat.lt_of_lt_of_le h4 hn, h5⟩⟩
end Go.Proofs.Ytlmmmchkhaidjaa.Ev
set_option linter.unusedSimpArgs false
set_option linter.unusedVariables false
namespace Go.Proofs.Ytlmmmchkhaidjaa.Ev
open Go
def ints (l : List Int) : List (List MV) := l.map fun z => [.i .i64 z]
theorem ints_len (l : List Int) : (ints l).length = l.length := by unfold ints; rw [List.length_map]
theorem ints_at {l : List Int} {i : Nat} {z : Int} (h : l[i]? = some z) : (ints l)[i]? = some [.i .i64 z] := by unfold ints; rw [List.getElem?_map, h]; rfl
def IntRow (M : MH) (v : MV) (l : List Int) : Prop := RowAt M 1 v (ints l)
theorem IntRow.ext {M M' : MH} {v : MV} {l : List Int} (h : IntRow M v l) (k : Ext M M') : IntRow M' v l := RowAt.ext h k
theorem IntRow.sl {M : MH} {v : MV} {l : List Int} (h : IntRow M v l) : isSl v = true ∧ slen v = l.length := by
  obtain ⟨a, b⟩ := RowAt.sl h
  exact ⟨a, b.trans (ints_len l)⟩
theorem IntRow.read {M : MH} {v : MV} {l : List Int} (h : IntRow M v l) {i : Nat} {z : Int} (hz : l[i]? = some z) : ∃ ro s c, M.get (sid v) = some (.cs ro s c) ∧ sid v < M.n ∧ cget c (soff v + i * 1) = some (.i .i64 z) := by
  obtain ⟨ro, s, c, h1, h2, h3⟩ := RowAt.read h (ints_at hz)
  exact ⟨ro, s, c, h1, h2, h3 0 _ rfl⟩
structure Gr where
  names : Int
  kinds : Int
  start : Int
  rules : List (Int × List Int × Int)
  forbid : List (Int × Int × Int)
  rc : List Int
  kc : List Int
def RuleAt (M : MH) (e : List MV) (r : Int × List Int × Int) : Prop := ∃ v, e = [.i .i64 r.1, v, .i .i64 r.2.2] ∧ IntRow M v r.2.1
theorem RuleAt.ext {M M' : MH} {e : List MV} {r : Int × List Int × Int} (h : RuleAt M e r) (k : Ext M M') : RuleAt M' e r := let ⟨v, h1, h2⟩ := h; ⟨v, h1, h2.ext k⟩
def trip (f : Int × Int × Int) : List MV := [.i .i64 f.1, .i .i64 f.2.1, .i .i64 f.2.2]
structure RulesAt (M : MH) (v : MV) (es : List (List MV)) (l : List (Int × List Int × Int)) : Prop where
  row : RowAt M 3 v es
  len : es.length = l.length
  at_ : ∀ (i : Nat) e r, es[i]? = some e → l[i]? = some r → RuleAt M e r
theorem RulesAt.ext {M M' : MH} {v : MV} {es : List (List MV)} {l : List (Int × List Int × Int)} (h : RulesAt M v es l) (k : Ext M M') : RulesAt M' v es l := ⟨h.row.ext k, h.len, fun i e r h1 h2 => (h.at_ i e r h1 h2).ext k⟩
theorem RulesAt.get {M : MH} {v : MV} {es : List (List MV)} {l : List (Int × List Int × Int)} (h : RulesAt M v es l) {i : Nat} {r : Int × List Int × Int} (hr : l[i]? = some r) : ∃ uu, es[i]? = some [.i .i64 r.1, uu, .i .i64 r.2.2] ∧ IntRow M uu r.2.1 := by
  have hi := (List.getElem?_eq_some_iff.1 hr).1
  have hi' : i < es.length := by rw [h.len]; exact hi
  have he : es[i]? = some es[i] := List.getElem?_eq_getElem hi'
  obtain ⟨uu, h1, h2⟩ := h.at_ i _ r he hr
  exact ⟨uu, by rw [he, h1], h2⟩
def Wf64 (z : Int) : Prop := -9223372036854775808 ≤ z ∧ z ≤ 9223372036854775807
structure GrWf (g : Gr) : Prop where
  names : Wf64 g.names
  kinds : Wf64 g.kinds
  start : Wf64 g.start
  rules : ∀ r ∈ g.rules, Wf64 r.1 ∧ (∀ z ∈ r.2.1, Wf64 z) ∧ Wf64 r.2.2 ∧ r.2.1.length ≤ 9223372036854775807
  forbid : ∀ f ∈ g.forbid, Wf64 f.1 ∧ Wf64 f.2.1 ∧ Wf64 f.2.2
  rc : ∀ z ∈ g.rc, Wf64 z
  kc : ∀ z ∈ g.kc, Wf64 z
  lens : g.rules.length ≤ 9223372036854775807 ∧ g.forbid.length ≤ 9223372036854775807 ∧ g.rc.length ≤ 9223372036854775807 ∧ g.kc.length ≤ 9223372036854775807
structure GrAt (M : MH) (vr vf vc vk : MV) (es : List (List MV)) (g : Gr) : Prop where
  rules : RulesAt M vr es g.rules
  forbid : RowAt M 3 vf (g.forbid.map trip)
  rc : IntRow M vc g.rc
  kc : IntRow M vk g.kc
  wf : GrWf g
theorem GrAt.ext {M M' : MH} {vr vf vc vk : MV} {es : List (List MV)} {g : Gr} (h : GrAt M vr vf vc vk es g) (k : Ext M M') : GrAt M' vr vf vc vk es g := ⟨h.rules.ext k, h.forbid.ext k, h.rc.ext k, h.kc.ext k, h.wf⟩
def gcs (g : Gr) (vr vf vc vk : MV) : List MV := [.i .i64 g.names, .i .i64 g.kinds, .i .i64 g.start, vr, vf, vc, vk]
def symB (g : Gr) (s : Int) : Bool := if s < 0 then decide (-1 - s < g.kinds) else decide (s < g.names)
def clsB (l : List Int) : Bool := l.all fun z => decide (0 ≤ z) && decide (z ≤ 100)
def okR (g : Gr) (r : Int × List Int × Int) : Bool := (decide (0 ≤ r.1) && decide (r.1 < g.names)) && r.2.1.all (symB g)
def ruleE (g : Gr) (r : Int × List Int × Int) : Option Int :=
  if okR g r = false then some 6 else if (8 : Int) < (r.2.1.length : Int) then some 3 else if r.2.2 < -1000 ∨ 1000 < r.2.2 then some 1 else none
def findE {α : Type} (f : α → Option Int) : List α → Nat → Option (Nat × Int)
  | [], _ => none
  | r :: l, i => match f r with
    | some e => some (i, e)
    | none => findE f l (i + 1)
def badF (g : Gr) (f : Int × Int × Int) : Bool :=
  if f.1 < 0 ∨ (g.rules.length : Int) ≤ f.1 ∨ f.2.2 < 0 ∨ (g.rules.length : Int) ≤ f.2.2 then true
  else match g.rules[f.1.toNat]?, g.rules[f.2.2.toNat]? with
    | some a, some b => if f.2.1 < 0 ∨ (a.2.1.length : Int) ≤ f.2.1 then true else match a.2.1[f.2.1.toNat]? with
      | some s => decide (s ≠ b.1)
      | none => true
    | _, _ => true
def headE (g : Gr) : Option Int :=
  if g.names < 1 ∨ 40 < g.names ∨ g.kinds < 0 ∨ 40 < g.kinds ∨ (60 : Int) < (g.rules.length : Int) ∨ (200 : Int) < (g.forbid.length : Int) then some 3
  else if g.start < 0 ∨ g.names ≤ g.start then some 6
  else if (g.rules.length : Int) < (g.rc.length : Int) ∨ g.kinds < (g.kc.length : Int) ∨ clsB g.rc = false ∨ clsB g.kc = false then some 1
  else none
def formP (g : Gr) : Int × Int := match headE g with
  | some e => (-1, e)
  | none => match findE (ruleE g) g.rules 0 with
    | some (i, e) => (i, e)
    | none => if g.forbid.any (badF g) = true then (-1, 6) else (-1, 0)
theorem findE_drop {α : Type} {f : α → Option Int} {l : List α} {i : Nat} {r : α} (h : l[i]? = some r) : findE f (l.drop i) i = match f r with
    | some e => some (i, e)
    | none => findE f (l.drop (i + 1)) (i + 1) := by
  have hi := (List.getElem?_eq_some_iff.1 h).1
  rw [List.drop_eq_getElem_cons hi, (List.getElem?_eq_some_iff.1 h).2]
  rfl
end Go.Proofs.Ytlmmmchkhaidjaa.Ev
set_option linter.unusedSimpArgs false
set_option linter.unusedVariables false
namespace Go.Proofs.Ytlmmmchkhaidjaa.Ev
open Go
noncomputable def idK {α : Type} (h : T α) (id : Nat) : Option α := h.get (path id)
noncomputable def mkT (l : List (Nat × IFn)) : T IFn := List.rec (motive := fun _ => T IFn) .lf (fun x _ ih => T.set (path x.1) (some x.2) ih) l
theorem mkT_get : ∀ (l : List (Nat × IFn)) (g : Nat) (fn : IFn), (mkT l).get (path g) = some fn → (g, fn) ∈ l
  | [], g, fn, h => by cases (T.get_lf (α := IFn) (path g)).symm.trans h
  | (n, F) :: l, g, fn, h => by
    have e : mkT ((n, F) :: l) = T.set (path n) (some F) (mkT l) := rfl
    rw [e, T.get_set] at h
    by_cases hp : path n = path g
    · rw [if_pos hp] at h
      injection h with h
      rw [← h, path_inj hp]
      exact List.mem_cons_self
    · rw [if_neg hp] at h
      exact List.mem_cons_of_mem _ (mkT_get l g fn h)
theorem fits_of {P : Program} {l : List (Nat × IFn)} {t : T IFn} (ht : t = mkT l) (h : ∀ x ∈ l, FitsF P x.1 x.2) : ∀ g fn, idK t g = some fn → FitsF P g fn := fun g fn e => by
  subst ht
  unfold idK at e
  exact h (g, fn) (mkT_get l g fn e)
def q0 : Ky := .k1 .d0
def q1 : Ky := .k1 .d1
def q2 : Ky := .k1 .d2
def q3 : Ky := .k1 .d3
def q4 : Ky := .k1 .d4
def q5 : Ky := .k1 .d5
def q6 : Ky := .k1 .d6
def q7 : Ky := .k1 .d7
def q8 : Ky := .k1 .d8
def q9 : Ky := .k1 .d9
def q10 : Ky := .k1 .d10
def q11 : Ky := .k1 .d11
def q12 : Ky := .k1 .d12
def q13 : Ky := .k1 .d13
def q14 : Ky := .k1 .d14
def q15 : Ky := .k1 .d15
def q16 : Ky := .k2 .d1 .d0
def q17 : Ky := .k2 .d1 .d1
def q18 : Ky := .k2 .d1 .d2
def q19 : Ky := .k2 .d1 .d3
def q20 : Ky := .k2 .d1 .d4
def q21 : Ky := .k2 .d1 .d5
def q22 : Ky := .k2 .d1 .d6
def q23 : Ky := .k2 .d1 .d7
def q24 : Ky := .k2 .d1 .d8
def q25 : Ky := .k2 .d1 .d9
def q26 : Ky := .k2 .d1 .d10
def q27 : Ky := .k2 .d1 .d11
def q28 : Ky := .k2 .d1 .d12
def q29 : Ky := .k2 .d1 .d13
def q30 : Ky := .k2 .d1 .d14
def q31 : Ky := .k2 .d1 .d15
def q32 : Ky := .k2 .d2 .d0
def q33 : Ky := .k2 .d2 .d1
def q34 : Ky := .k2 .d2 .d2
def q35 : Ky := .k2 .d2 .d3
def q36 : Ky := .k2 .d2 .d4
def q37 : Ky := .k2 .d2 .d5
def q38 : Ky := .k2 .d2 .d6
def q39 : Ky := .k2 .d2 .d7
def q40 : Ky := .k2 .d2 .d8
def q41 : Ky := .k2 .d2 .d9
def q42 : Ky := .k2 .d2 .d10
def q43 : Ky := .k2 .d2 .d11
def q44 : Ky := .k2 .d2 .d12
def q45 : Ky := .k2 .d2 .d13
def q46 : Ky := .k2 .d2 .d14
def q47 : Ky := .k2 .d2 .d15
def q48 : Ky := .k2 .d3 .d0
def q49 : Ky := .k2 .d3 .d1
def q50 : Ky := .k2 .d3 .d2
def q51 : Ky := .k2 .d3 .d3
def q52 : Ky := .k2 .d3 .d4
def q53 : Ky := .k2 .d3 .d5
def q54 : Ky := .k2 .d3 .d6
def q55 : Ky := .k2 .d3 .d7
def q56 : Ky := .k2 .d3 .d8
def q57 : Ky := .k2 .d3 .d9
def q58 : Ky := .k2 .d3 .d10
def q59 : Ky := .k2 .d3 .d11
def q60 : Ky := .k2 .d3 .d12
def q61 : Ky := .k2 .d3 .d13
def q62 : Ky := .k2 .d3 .d14
def q63 : Ky := .k2 .d3 .d15
def q64 : Ky := .k2 .d4 .d0
def q65 : Ky := .k2 .d4 .d1
def q66 : Ky := .k2 .d4 .d2
def q67 : Ky := .k2 .d4 .d3
def q68 : Ky := .k2 .d4 .d4
def q69 : Ky := .k2 .d4 .d5
def q70 : Ky := .k2 .d4 .d6
def q71 : Ky := .k2 .d4 .d7
def q72 : Ky := .k2 .d4 .d8
def q73 : Ky := .k2 .d4 .d9
def q74 : Ky := .k2 .d4 .d10
def q75 : Ky := .k2 .d4 .d11
def q76 : Ky := .k2 .d4 .d12
def q77 : Ky := .k2 .d4 .d13
def q78 : Ky := .k2 .d4 .d14
def q79 : Ky := .k2 .d4 .d15
def q80 : Ky := .k2 .d5 .d0
def q81 : Ky := .k2 .d5 .d1
def q82 : Ky := .k2 .d5 .d2
def q83 : Ky := .k2 .d5 .d3
def q84 : Ky := .k2 .d5 .d4
def q85 : Ky := .k2 .d5 .d5
def q86 : Ky := .k2 .d5 .d6
def q87 : Ky := .k2 .d5 .d7
def q88 : Ky := .k2 .d5 .d8
def q89 : Ky := .k2 .d5 .d9
def q90 : Ky := .k2 .d5 .d10
def q91 : Ky := .k2 .d5 .d11
def q92 : Ky := .k2 .d5 .d12
def q93 : Ky := .k2 .d5 .d13
def q94 : Ky := .k2 .d5 .d14
def q95 : Ky := .k2 .d5 .d15
def q96 : Ky := .k2 .d6 .d0
def q97 : Ky := .k2 .d6 .d1
def q98 : Ky := .k2 .d6 .d2
def q99 : Ky := .k2 .d6 .d3
def q100 : Ky := .k2 .d6 .d4
def q101 : Ky := .k2 .d6 .d5
def q102 : Ky := .k2 .d6 .d6
def q103 : Ky := .k2 .d6 .d7
def q104 : Ky := .k2 .d6 .d8
def q105 : Ky := .k2 .d6 .d9
def q106 : Ky := .k2 .d6 .d10
def q107 : Ky := .k2 .d6 .d11
def q108 : Ky := .k2 .d6 .d12
def q109 : Ky := .k2 .d6 .d13
def q110 : Ky := .k2 .d6 .d14
def q111 : Ky := .k2 .d6 .d15
def q112 : Ky := .k2 .d7 .d0
def q113 : Ky := .k2 .d7 .d1
def q114 : Ky := .k2 .d7 .d2
def q115 : Ky := .k2 .d7 .d3
def q116 : Ky := .k2 .d7 .d4
def q117 : Ky := .k2 .d7 .d5
def q118 : Ky := .k2 .d7 .d6
def q119 : Ky := .k2 .d7 .d7
def q120 : Ky := .k2 .d7 .d8
def q121 : Ky := .k2 .d7 .d9
def q122 : Ky := .k2 .d7 .d10
def q123 : Ky := .k2 .d7 .d11
def q124 : Ky := .k2 .d7 .d12
def q125 : Ky := .k2 .d7 .d13
def q126 : Ky := .k2 .d7 .d14
def q127 : Ky := .k2 .d7 .d15
def q128 : Ky := .k2 .d8 .d0
def q129 : Ky := .k2 .d8 .d1
def q130 : Ky := .k2 .d8 .d2
def q131 : Ky := .k2 .d8 .d3
def q132 : Ky := .k2 .d8 .d4
def q133 : Ky := .k2 .d8 .d5
def q134 : Ky := .k2 .d8 .d6
def q135 : Ky := .k2 .d8 .d7
def q136 : Ky := .k2 .d8 .d8
def q137 : Ky := .k2 .d8 .d9
def q138 : Ky := .k2 .d8 .d10
def q139 : Ky := .k2 .d8 .d11
def q140 : Ky := .k2 .d8 .d12
def q141 : Ky := .k2 .d8 .d13
def q142 : Ky := .k2 .d8 .d14
def q143 : Ky := .k2 .d8 .d15
def q144 : Ky := .k2 .d9 .d0
def q145 : Ky := .k2 .d9 .d1
def q146 : Ky := .k2 .d9 .d2
def q147 : Ky := .k2 .d9 .d3
def q148 : Ky := .k2 .d9 .d4
def q149 : Ky := .k2 .d9 .d5
def q150 : Ky := .k2 .d9 .d6
def q151 : Ky := .k2 .d9 .d7
def q152 : Ky := .k2 .d9 .d8
def q153 : Ky := .k2 .d9 .d9
def q154 : Ky := .k2 .d9 .d10
def q155 : Ky := .k2 .d9 .d11
def q156 : Ky := .k2 .d9 .d12
def q157 : Ky := .k2 .d9 .d13
def q158 : Ky := .k2 .d9 .d14
def q159 : Ky := .k2 .d9 .d15
def q160 : Ky := .k2 .d10 .d0
def q161 : Ky := .k2 .d10 .d1
def q162 : Ky := .k2 .d10 .d2
def q163 : Ky := .k2 .d10 .d3
def q164 : Ky := .k2 .d10 .d4
def q165 : Ky := .k2 .d10 .d5
def q166 : Ky := .k2 .d10 .d6
def q167 : Ky := .k2 .d10 .d7
def q168 : Ky := .k2 .d10 .d8
def q169 : Ky := .k2 .d10 .d9
def q170 : Ky := .k2 .d10 .d10
def q171 : Ky := .k2 .d10 .d11
def q172 : Ky := .k2 .d10 .d12
def q173 : Ky := .k2 .d10 .d13
def q174 : Ky := .k2 .d10 .d14
def q175 : Ky := .k2 .d10 .d15
def q176 : Ky := .k2 .d11 .d0
def q177 : Ky := .k2 .d11 .d1
def q178 : Ky := .k2 .d11 .d2
def q179 : Ky := .k2 .d11 .d3
def q180 : Ky := .k2 .d11 .d4
def q181 : Ky := .k2 .d11 .d5
def q182 : Ky := .k2 .d11 .d6
def q183 : Ky := .k2 .d11 .d7
def q184 : Ky := .k2 .d11 .d8
def q185 : Ky := .k2 .d11 .d9
def q186 : Ky := .k2 .d11 .d10
def q187 : Ky := .k2 .d11 .d11
def q188 : Ky := .k2 .d11 .d12
def q189 : Ky := .k2 .d11 .d13
def q190 : Ky := .k2 .d11 .d14
def q191 : Ky := .k2 .d11 .d15
def q192 : Ky := .k2 .d12 .d0
def q193 : Ky := .k2 .d12 .d1
def q194 : Ky := .k2 .d12 .d2
def q195 : Ky := .k2 .d12 .d3
def q196 : Ky := .k2 .d12 .d4
def q197 : Ky := .k2 .d12 .d5
def q198 : Ky := .k2 .d12 .d6
def q199 : Ky := .k2 .d12 .d7
def q200 : Ky := .k2 .d12 .d8
def q201 : Ky := .k2 .d12 .d9
def q202 : Ky := .k2 .d12 .d10
def q203 : Ky := .k2 .d12 .d11
def q204 : Ky := .k2 .d12 .d12
def q205 : Ky := .k2 .d12 .d13
def q206 : Ky := .k2 .d12 .d14
def q207 : Ky := .k2 .d12 .d15
def q208 : Ky := .k2 .d13 .d0
def q209 : Ky := .k2 .d13 .d1
def q210 : Ky := .k2 .d13 .d2
def q211 : Ky := .k2 .d13 .d3
def q212 : Ky := .k2 .d13 .d4
def q213 : Ky := .k2 .d13 .d5
def q214 : Ky := .k2 .d13 .d6
def q215 : Ky := .k2 .d13 .d7
def q216 : Ky := .k2 .d13 .d8
def q217 : Ky := .k2 .d13 .d9
def q218 : Ky := .k2 .d13 .d10
def q219 : Ky := .k2 .d13 .d11
def q220 : Ky := .k2 .d13 .d12
def q221 : Ky := .k2 .d13 .d13
def q222 : Ky := .k2 .d13 .d14
def q223 : Ky := .k2 .d13 .d15
def q224 : Ky := .k2 .d14 .d0
def q225 : Ky := .k2 .d14 .d1
def q226 : Ky := .k2 .d14 .d2
def q227 : Ky := .k2 .d14 .d3
def q228 : Ky := .k2 .d14 .d4
def q229 : Ky := .k2 .d14 .d5
end Go.Proofs.Ytlmmmchkhaidjaa.Ev
set_option maxRecDepth 100000
namespace Go.Proofs.Ytlmmmchkhaidjaa.K
open Go Ev
def K4_0 : IC := .reg [⟨some q72, none, .mov (.t q12)⟩, ⟨some q73, none, .binI .add (.t q72) (.c (.i .i64 1))⟩, ⟨some q12, none, .mov (.t q73)⟩]
def K4_1 : IC := .seq (.block 3 (.block 4 (.seq (.reg [⟨some q85, none, .fa 1 (.t q10)⟩, ⟨some q86, none, .ld1 (.t q85)⟩, ⟨some q87, none, .mov (.t q12)⟩, ⟨some q88, none, .ixS 1 (.t q86) (.t q87)⟩, ⟨some q89, none, .ld1 (.t q88)⟩, ⟨some q90, none, .binI .lss (.t q89) (.c (.i .i64 0))⟩, ⟨some q84, none, .mov (.t q90)⟩]) (.cond (.t q84) (.reg [⟨some q91, none, .mov (.t q11)⟩, ⟨some q92, none, .binI .add (.t q91) (.c (.i .i64 1))⟩, ⟨some q11, none, .mov (.t q92)⟩]) (.seq (.reg [⟨some q94, none, .mov (.t q6)⟩, ⟨some q95, none, .fa 1 (.t q10)⟩, ⟨some q96, none, .ld1 (.t q95)⟩, ⟨some q97, none, .mov (.t q12)⟩, ⟨some q98, none, .ixS 1 (.t q96) (.t q97)⟩, ⟨some q99, none, .ld1 (.t q98)⟩, ⟨some q100, none, .ixS 1 (.t q94) (.t q99)⟩, ⟨some q101, none, .ld1 (.t q100)⟩, ⟨some q102, none, .binI .lss (.t q101) (.c (.i .i64 0))⟩, ⟨some q93, none, .mov (.t q102)⟩]) (.cond (.t q93) (.reg [⟨some q11, none, .mov (.c (.i .i64 (.negSucc 0)))⟩]) (.reg [⟨some q74, none, .mov (.t q11)⟩, ⟨some q75, none, .mov (.t q6)⟩, ⟨some q76, none, .fa 1 (.t q10)⟩, ⟨some q77, none, .ld1 (.t q76)⟩, ⟨some q78, none, .mov (.t q12)⟩, ⟨some q79, none, .ixS 1 (.t q77) (.t q78)⟩, ⟨some q80, none, .ld1 (.t q79)⟩, ⟨some q81, none, .ixS 1 (.t q75) (.t q80)⟩, ⟨some q82, none, .ld1 (.t q81)⟩, ⟨some q83, none, .binI .add (.t q74) (.t q82)⟩, ⟨some q11, none, .mov (.t q83)⟩]))))))) K4_0
def L4_2 : IC := .seq (.seq (.reg [⟨some q63, none, .mov (.t q12)⟩, ⟨some q64, none, .fa 1 (.t q10)⟩, ⟨some q65, none, .ld1 (.t q64)⟩, ⟨some q66, none, .len (.t q65)⟩, ⟨some q67, none, .binI .lss (.t q63) (.t q66)⟩, ⟨some q68, none, .mov (.t q67)⟩, ⟨some q69, some (q68, true), .mov (.t q11)⟩, ⟨some q70, some (q68, true), .binI .geq (.t q69) (.c (.i .i64 0))⟩, ⟨some q71, none, .pick (.t q68) (.t q70) (.c (.b false))⟩]) (.cond (.t q71) .skip (.exit 2))) K4_1
def K4_3 : IC := .dreg 0 [(⟨some q124, none, .mov (.t q8)⟩, .pu), (⟨some q125, none, .fa 0 (.t q10)⟩, .pu), (⟨some q126, none, .ld1 (.t q125)⟩, .rd 0), (⟨some q127, none, .mov (.t q8)⟩, .pu), (⟨some q128, none, .fa 0 (.t q10)⟩, .pu), (⟨some q129, none, .ld1 (.t q128)⟩, .rd 0), (⟨some q130, none, .ixS 1 (.t q127) (.t q129)⟩, .pu), (⟨some q131, none, .ld1 (.t q130)⟩, .rd 0), (⟨some q132, none, .mov (.t q131)⟩, .pu), (⟨some q133, some (q132, false), .mov (.t q11)⟩, .pu), (⟨some q134, some (q132, false), .binI .geq (.t q133) (.c (.i .i64 0))⟩, .pu), (⟨some q135, some (q132, false), .mov (.t q134)⟩, .pu), (⟨some q136, some (q135, true), .mov (.t q11)⟩, .pu), (⟨some q137, some (q135, true), .mov (.t q6)⟩, .pu), (⟨some q138, some (q135, true), .fa 0 (.t q10)⟩, .pu), (⟨some q139, some (q135, true), .ld1 (.t q138)⟩, .rd 0), (⟨some q140, some (q135, true), .ixS 1 (.t q137) (.t q139)⟩, .pu), (⟨some q141, some (q135, true), .ld1 (.t q140)⟩, .rd 0), (⟨some q142, some (q135, true), .binI .eql (.t q136) (.t q141)⟩, .pu), (⟨some q143, some (q132, false), .pick (.t q135) (.t q142) (.c (.b false))⟩, .pu), (⟨some q144, none, .pick (.t q132) (.c (.b true)) (.t q143)⟩, .pu)] [⟨some q145, none, .ixS 1 (.t q124) (.t q126)⟩, ⟨none, none, .st 1 (.t q145) (.t q144)⟩] []
def K4_4 : IC := .seq (.seq (.reg [⟨some q105, none, .mov (.t q11)⟩, ⟨some q106, none, .binI .geq (.t q105) (.c (.i .i64 0))⟩, ⟨some q107, none, .mov (.t q106)⟩, ⟨some q108, some (q107, true), .mov (.t q6)⟩, ⟨some q109, some (q107, true), .fa 0 (.t q10)⟩, ⟨some q110, some (q107, true), .ld1 (.t q109)⟩, ⟨some q111, some (q107, true), .ixS 1 (.t q108) (.t q110)⟩, ⟨some q112, some (q107, true), .ld1 (.t q111)⟩, ⟨some q113, some (q107, true), .binI .lss (.t q112) (.c (.i .i64 0))⟩, ⟨some q114, some (q107, true), .mov (.t q113)⟩, ⟨some q115, some (q114, false), .mov (.t q11)⟩, ⟨some q116, some (q114, false), .mov (.t q6)⟩, ⟨some q117, some (q114, false), .fa 0 (.t q10)⟩, ⟨some q118, some (q114, false), .ld1 (.t q117)⟩, ⟨some q119, some (q114, false), .ixS 1 (.t q116) (.t q118)⟩, ⟨some q120, some (q114, false), .ld1 (.t q119)⟩, ⟨some q121, some (q114, false), .binI .lss (.t q115) (.t q120)⟩, ⟨some q122, some (q107, true), .pick (.t q114) (.c (.b true)) (.t q121)⟩, ⟨some q123, none, .pick (.t q107) (.t q122) (.c (.b false))⟩]) (.cond (.t q123) (.seq (.reg [⟨some q2, none, .mov (.c (.b false))⟩]) .ret) .skip)) K4_3
def K4_5 : IC := .seq (.seq (.reg [⟨some q103, none, .mov (.t q11)⟩, ⟨some q104, none, .binI .gtr (.t q103) (.c (.i .i64 1000000000))⟩]) (.cond (.t q104) (.reg [⟨some q11, none, .mov (.c (.i .i64 1000000000))⟩]) .skip)) K4_4
def K4_6 : IC := .reg [⟨some q56, none, .mov (.t q9)⟩, ⟨some q57, none, .binI .add (.t q56) (.c (.i .i64 1))⟩, ⟨some q9, none, .mov (.t q57)⟩]
def K4_7 : IC := .seq (.block 1 (.seq (.reg [⟨some q58, none, .fa 3 (.t q1)⟩, ⟨some q59, none, .ld1 (.t q58)⟩, ⟨some q60, none, .mov (.t q9)⟩, ⟨some q61, none, .ixS 3 (.t q59) (.t q60)⟩, ⟨some q62, none, .ldN 3 (.t q61)⟩, ⟨some q10, none, .new [.i .i64 0, .nils, .i .i64 0]⟩, ⟨none, none, .st 3 (.t q10) (.t q62)⟩]) (.seq (.reg [⟨some q11, none, .mov (.c (.i .i64 0))⟩]) (.seq (.seq (.reg [⟨some q12, none, .mov (.c (.i .i64 0))⟩]) (.block 2 (.loop L4_2))) K4_5)))) K4_6
def L4_8 : IC := .seq (.seq (.reg [⟨some q51, none, .mov (.t q9)⟩, ⟨some q52, none, .fa 3 (.t q1)⟩, ⟨some q53, none, .ld1 (.t q52)⟩, ⟨some q54, none, .len (.t q53)⟩, ⟨some q55, none, .binI .lss (.t q51) (.t q54)⟩]) (.cond (.t q55) .skip (.exit 0))) K4_7
def K4_9 : IC := .cond (.t q174) (.seq (.reg [⟨some q2, none, .mov (.c (.b false))⟩]) .ret) .skip
def K4_10 : IC := .reg [⟨some q150, none, .mov (.t q13)⟩, ⟨some q151, none, .binI .add (.t q150) (.c (.i .i64 1))⟩, ⟨some q13, none, .mov (.t q151)⟩]
def K4_11 : IC := .seq (.block 6 (.seq (.dreg 0 [(⟨some q152, none, .mov (.t q7)⟩, .pu), (⟨some q153, none, .mov (.t q13)⟩, .pu), (⟨some q154, none, .ixS 1 (.t q152) (.t q153)⟩, .pu), (⟨some q155, none, .ld1 (.t q154)⟩, .rd 0), (⟨some q156, none, .mov (.t q6)⟩, .pu), (⟨some q157, none, .mov (.t q13)⟩, .pu), (⟨some q158, none, .ixS 1 (.t q156) (.t q157)⟩, .pu), (⟨some q159, none, .ld1 (.t q158)⟩, .rd 0), (⟨some q160, none, .binI .geq (.t q159) (.c (.i .i64 0))⟩, .pu), (⟨some q161, none, .binB .neq (.t q155) (.t q160)⟩, .pu), (⟨some q162, none, .mov (.t q161)⟩, .pu), (⟨some q163, some (q162, false), .mov (.t q7)⟩, .pu), (⟨some q164, some (q162, false), .mov (.t q13)⟩, .pu), (⟨some q165, some (q162, false), .ixS 1 (.t q163) (.t q164)⟩, .pu), (⟨some q166, some (q162, false), .ld1 (.t q165)⟩, .rd 0), (⟨some q167, some (q162, false), .mov (.t q166)⟩, .pu), (⟨some q168, some (q167, true), .mov (.t q8)⟩, .pu), (⟨some q169, some (q167, true), .mov (.t q13)⟩, .pu)] [⟨some q170, some (q167, true), .ixS 1 (.t q168) (.t q169)⟩, ⟨some q171, some (q167, true), .ld1 (.t q170)⟩, ⟨some q172, some (q167, true), .un .not (.t q171)⟩, ⟨some q173, some (q162, false), .pick (.t q167) (.t q172) (.c (.b false))⟩, ⟨some q174, none, .pick (.t q162) (.c (.b true)) (.t q173)⟩] []) K4_9)) K4_10
def L4_12 : IC := .seq (.seq (.reg [⟨some q146, none, .mov (.t q13)⟩, ⟨some q147, none, .fa 0 (.t q1)⟩, ⟨some q148, none, .ld1 (.t q147)⟩, ⟨some q149, none, .binI .lss (.t q146) (.t q148)⟩]) (.cond (.t q149) .skip (.exit 5))) K4_11
def K4_13 : IC := .seq (.reg [⟨some q2, none, .mov (.c (.b true))⟩]) .ret
def K4_14 : IC := .seq (.seq (.reg [⟨some q13, none, .mov (.c (.i .i64 0))⟩]) (.block 5 (.loop L4_12))) K4_13
def K4_15 : IC := .seq (.reg [⟨some q48, none, .fa 0 (.t q1)⟩, ⟨some q49, none, .ld1 (.t q48)⟩, ⟨some q50, none, .mks 1 1 [.b false] (.t q49) (.t q49)⟩, ⟨some q8, none, .mov (.t q50)⟩]) (.seq (.seq (.reg [⟨some q9, none, .mov (.c (.i .i64 0))⟩]) (.block 0 (.loop L4_8))) K4_14)
def K4_16 : IC := .seq (.reg [⟨some q32, none, .ldN 7 (.t q1)⟩, ⟨some q33, none, .call 14 [.t q32]⟩, ⟨some q6, none, .mov (.t q33)⟩]) (.seq (.reg [⟨some q34, none, .ldN 7 (.t q1)⟩, ⟨some q35, none, .call 11 [.t q34]⟩, ⟨some q7, none, .mov (.t q35)⟩]) (.seq (.seq (.reg [⟨some q36, none, .mov (.t q6)⟩, ⟨some q37, none, .len (.t q36)⟩, ⟨some q38, none, .fa 0 (.t q1)⟩, ⟨some q39, none, .ld1 (.t q38)⟩, ⟨some q40, none, .binI .neq (.t q37) (.t q39)⟩, ⟨some q41, none, .mov (.t q40)⟩, ⟨some q42, some (q41, false), .mov (.t q7)⟩, ⟨some q43, some (q41, false), .len (.t q42)⟩, ⟨some q44, some (q41, false), .fa 0 (.t q1)⟩, ⟨some q45, some (q41, false), .ld1 (.t q44)⟩, ⟨some q46, some (q41, false), .binI .neq (.t q43) (.t q45)⟩, ⟨some q47, none, .pick (.t q41) (.c (.b true)) (.t q46)⟩]) (.cond (.t q47) (.seq (.reg [⟨some q2, none, .mov (.c (.b false))⟩]) .ret) .skip)) K4_15))
def B4 : IC := .seq (.reg [⟨some q1, none, .box (.t q0)⟩, ⟨some q2, none, .mov (.c (.b false))⟩]) (.seq (.reg [⟨some q14, none, .call 6 []⟩, ⟨some q3, none, .mov (.t q14)⟩]) (.seq (.reg [⟨some q16, none, .ldN 7 (.t q1)⟩, ⟨some q17, none, .call 16 [.t q16]⟩, ⟨some q15, none, .mov (.t q17)⟩, ⟨some q18, none, .ext (.t q15) 0⟩, ⟨some q19, none, .ext (.t q15) 1⟩, ⟨some q4, none, .mov (.t q18)⟩, ⟨some q5, none, .mov (.t q19)⟩]) (.seq (.seq (.reg [⟨some q20, none, .mov (.t q3)⟩, ⟨some q21, none, .un .not (.t q20)⟩, ⟨some q22, none, .mov (.t q21)⟩, ⟨some q23, some (q22, false), .ldN 7 (.t q1)⟩, ⟨some q24, some (q22, false), .call 7 [.t q23]⟩, ⟨some q25, some (q22, false), .un .not (.t q24)⟩, ⟨some q26, none, .pick (.t q22) (.c (.b true)) (.t q25)⟩, ⟨some q27, none, .mov (.t q26)⟩, ⟨some q28, some (q27, false), .mov (.t q5)⟩, ⟨some q29, some (q27, false), .binI .neq (.t q28) (.c (.i .i64 0))⟩, ⟨some q30, none, .pick (.t q27) (.c (.b true)) (.t q29)⟩]) (.cond (.t q30) (.seq (.reg [⟨some q31, none, .mov (.t q3)⟩, ⟨some q2, none, .mov (.t q31)⟩]) .ret) .skip)) K4_16)))
def F4 : IFn := ⟨175, [.tmp q2], B4⟩
theorem R4 : F4.res = [.tmp q2] := rfl
theorem fits4 : FitsF Try.prog 4 F4 := cmpF_fits (pol := fun _ => false) Try.func4 (by kernel_rfl)
def B6 : IC := .seq (.reg [⟨some q0, none, .mov (.c (.b false))⟩]) (.seq (.reg [⟨some q3, none, .build [.i .i64 0, .i .i64 0, .i .i64 0, .nils, .nils, .nils, .nils] [(0, 1, .c (.i .i64 1))]⟩, ⟨some q4, none, .call 9 [.t q3]⟩, ⟨some q1, none, .mov (.t q4)⟩]) (.seq (.reg [⟨some q5, none, .bsl 1 2 [.i .i64 0] [(0, 1, .c (.i .i64 (.negSucc 0))), (1, 1, .c (.i .i64 (.negSucc 0)))]⟩, ⟨some q6, none, .build [.i .i64 0, .nils, .i .i64 0] [(1, 1, .t q5)]⟩, ⟨some q7, none, .bsl 3 1 [.i .i64 0, .nils, .i .i64 0] [(0, 3, .t q6)]⟩, ⟨some q8, none, .build [.i .i64 0, .i .i64 0, .i .i64 0, .nils, .nils, .nils, .nils] [(0, 1, .c (.i .i64 1)), (1, 1, .c (.i .i64 1)), (3, 1, .t q7)]⟩, ⟨some q9, none, .call 14 [.t q8]⟩, ⟨some q2, none, .mov (.t q9)⟩]) (.seq (.reg [⟨some q10, none, .mov (.t q1)⟩, ⟨some q11, none, .len (.t q10)⟩, ⟨some q12, none, .binI .eql (.t q11) (.c (.i .i64 1))⟩, ⟨some q13, none, .mov (.t q12)⟩, ⟨some q14, some (q13, true), .mov (.t q1)⟩, ⟨some q15, some (q13, true), .ixS 1 (.t q14) (.c (.i .i64 0))⟩, ⟨some q16, some (q13, true), .ld1 (.t q15)⟩, ⟨some q17, none, .pick (.t q13) (.t q16) (.c (.b false))⟩, ⟨some q18, none, .mov (.t q17)⟩, ⟨some q19, some (q18, true), .mov (.t q2)⟩, ⟨some q20, some (q18, true), .len (.t q19)⟩, ⟨some q21, some (q18, true), .binI .eql (.t q20) (.c (.i .i64 1))⟩, ⟨some q22, none, .pick (.t q18) (.t q21) (.c (.b false))⟩, ⟨some q23, none, .mov (.t q22)⟩, ⟨some q24, some (q23, true), .mov (.t q2)⟩, ⟨some q25, some (q23, true), .ixS 1 (.t q24) (.c (.i .i64 0))⟩, ⟨some q26, some (q23, true), .ld1 (.t q25)⟩, ⟨some q27, some (q23, true), .binI .eql (.t q26) (.c (.i .i64 2))⟩, ⟨some q28, none, .pick (.t q23) (.t q27) (.c (.b false))⟩, ⟨some q0, none, .mov (.t q28)⟩]) .ret)))
def F6 : IFn := ⟨29, [.tmp q0], B6⟩
theorem fits6 : FitsF Try.prog 6 F6 := cmpF_fits (pol := fun _ => false) Try.func6 (by kernel_rfl)
def B7 : IC := .seq (.reg [⟨some q1, none, .box (.t q0)⟩, ⟨some q2, none, .mov (.c (.b false))⟩]) (.seq (.reg [⟨some q3, none, .fa 3 (.t q1)⟩, ⟨some q4, none, .ld1 (.t q3)⟩, ⟨some q5, none, .len (.t q4)⟩, ⟨some q6, none, .binI .leq (.t q5) (.c (.i .i64 70))⟩, ⟨some q7, none, .mov (.t q6)⟩, ⟨some q8, some (q7, true), .fa 4 (.t q1)⟩, ⟨some q9, some (q7, true), .ld1 (.t q8)⟩, ⟨some q10, some (q7, true), .len (.t q9)⟩, ⟨some q11, some (q7, true), .binI .leq (.t q10) (.c (.i .i64 250))⟩, ⟨some q12, none, .pick (.t q7) (.t q11) (.c (.b false))⟩, ⟨some q13, none, .mov (.t q12)⟩, ⟨some q14, some (q13, true), .fa 5 (.t q1)⟩, ⟨some q15, some (q13, true), .ld1 (.t q14)⟩, ⟨some q16, some (q13, true), .len (.t q15)⟩, ⟨some q17, some (q13, true), .binI .leq (.t q16) (.c (.i .i64 100))⟩, ⟨some q18, none, .pick (.t q13) (.t q17) (.c (.b false))⟩, ⟨some q19, none, .mov (.t q18)⟩, ⟨some q20, some (q19, true), .fa 6 (.t q1)⟩, ⟨some q21, some (q19, true), .ld1 (.t q20)⟩, ⟨some q22, some (q19, true), .len (.t q21)⟩, ⟨some q23, some (q19, true), .binI .leq (.t q22) (.c (.i .i64 100))⟩, ⟨some q24, none, .pick (.t q19) (.t q23) (.c (.b false))⟩, ⟨some q2, none, .mov (.t q24)⟩]) .ret)
def F7 : IFn := ⟨25, [.tmp q2], B7⟩
theorem R7 : F7.res = [.tmp q2] := rfl
theorem fits7 : FitsF Try.prog 7 F7 := cmpF_fits (pol := fun _ => false) Try.func7 (by kernel_rfl)
def K8_0 : IC := .cond (.t q25) (.seq (.reg [⟨some q4, none, .mov (.c (.b false))⟩]) .ret) .skip
def K8_1 : IC := .reg [⟨some q15, none, .mov (.t q5)⟩, ⟨some q16, none, .binI .add (.t q15) (.c (.i .i64 1))⟩, ⟨some q5, none, .mov (.t q16)⟩]
def K8_2 : IC := .seq (.block 1 (.seq (.dreg 0 [(⟨some q17, none, .mov (.t q0)⟩, .pu), (⟨some q18, none, .mov (.t q5)⟩, .pu), (⟨some q19, none, .ixS 1 (.t q17) (.t q18)⟩, .pu), (⟨some q20, none, .ld1 (.t q19)⟩, .rd 0), (⟨some q21, none, .mov (.t q1)⟩, .pu), (⟨some q22, none, .mov (.t q5)⟩, .pu), (⟨some q23, none, .ixS 1 (.t q21) (.t q22)⟩, .pu), (⟨some q24, none, .ld1 (.t q23)⟩, .rd 0)] [⟨some q25, none, .binB .neq (.t q20) (.t q24)⟩] []) K8_0)) K8_1
def L8_3 : IC := .seq (.seq (.reg [⟨some q11, none, .mov (.t q5)⟩, ⟨some q12, none, .mov (.t q0)⟩, ⟨some q13, none, .len (.t q12)⟩, ⟨some q14, none, .binI .lss (.t q11) (.t q13)⟩]) (.cond (.t q14) .skip (.exit 0))) K8_2
def K8_4 : IC := .seq (.reg [⟨some q4, none, .mov (.c (.b true))⟩]) .ret
def K8_5 : IC := .seq (.seq (.reg [⟨some q5, none, .mov (.c (.i .i64 0))⟩]) (.block 0 (.loop L8_3))) K8_4
def B8 : IC := .seq (.reg [⟨some q4, none, .mov (.c (.b false))⟩]) (.seq (.seq (.reg [⟨some q6, none, .mov (.t q0)⟩, ⟨some q7, none, .len (.t q6)⟩, ⟨some q8, none, .mov (.t q1)⟩, ⟨some q9, none, .len (.t q8)⟩, ⟨some q10, none, .binI .neq (.t q7) (.t q9)⟩]) (.cond (.t q10) (.seq (.reg [⟨some q4, none, .mov (.c (.b false))⟩]) .ret) .skip)) K8_5)
def F8 : IFn := ⟨26, [.tmp q4], B8⟩
theorem R8 : F8.res = [.tmp q4] := rfl
theorem fits8 : FitsF Try.prog 8 F8 := cmpF_fits (pol := fun _ => false) Try.func8 (by kernel_rfl)
def K9_0 : IC := .reg [⟨some q39, none, .binI .add (.t q21) (.c (.i .i64 1))⟩, ⟨some q21, none, .mov (.t q39)⟩]
def K9_1 : IC := .seq (.block 3 (.seq (.reg [⟨some q23, none, .ixS 3 (.t q19) (.t q21)⟩, ⟨some q24, none, .ldN 3 (.t q23)⟩, ⟨some q6, none, .new [.i .i64 0, .nils, .i .i64 0]⟩, ⟨none, none, .st 3 (.t q6) (.t q24)⟩]) (.reg [⟨some q25, none, .mov (.t q3)⟩, ⟨some q26, none, .fa 0 (.t q6)⟩, ⟨some q27, none, .ld1 (.t q26)⟩, ⟨some q28, none, .ixS 1 (.t q25) (.t q27)⟩, ⟨some q29, none, .ld1 (.t q28)⟩, ⟨some q30, none, .mov (.t q29)⟩, ⟨some q31, some (q30, true), .mov (.t q3)⟩, ⟨some q32, some (q30, true), .fa 1 (.t q6)⟩, ⟨some q33, some (q30, true), .ld1 (.t q32)⟩, ⟨some q34, some (q30, true), .call 18 [.t q31, .t q33]⟩, ⟨some q35, none, .pick (.t q30) (.t q34) (.c (.b false))⟩, ⟨some q36, none, .mov (.t q35)⟩, ⟨some q37, some (q36, false), .mov (.t q4)⟩, ⟨some q38, none, .pick (.t q36) (.c (.b true)) (.t q37)⟩, ⟨some q4, none, .mov (.t q38)⟩]))) K9_0
def L9_2 : IC := .seq (.reg [⟨some q22, none, .binI .lss (.t q21) (.t q20)⟩]) (.seq (.cond (.t q22) .skip (.exit 2)) K9_1)
def K9_3 : IC := .block 1 (.seq (.reg [⟨some q4, none, .mov (.c (.b false))⟩]) (.seq (.reg [⟨some q18, none, .fa 3 (.t q1)⟩, ⟨some q19, none, .ld1 (.t q18)⟩, ⟨some q20, none, .len (.t q19)⟩, ⟨some q21, none, .mov (.c (.i .i64 0))⟩]) (.block 2 (.loop L9_2))))
def L9_4 : IC := .seq (.seq (.reg [⟨some q17, none, .mov (.t q4)⟩]) (.cond (.t q17) .skip (.exit 0))) K9_3
def K9_5 : IC := .seq (.reg [⟨some q40, none, .mov (.t q3)⟩, ⟨some q2, none, .mov (.t q40)⟩]) .ret
def K9_6 : IC := .seq (.reg [⟨some q10, none, .fa 0 (.t q1)⟩, ⟨some q11, none, .ld1 (.t q10)⟩, ⟨some q12, none, .mks 1 1 [.b false] (.t q11) (.t q11)⟩, ⟨some q3, none, .mov (.t q12)⟩]) (.seq (.reg [⟨some q13, none, .mov (.t q3)⟩, ⟨some q14, none, .fa 2 (.t q1)⟩, ⟨some q15, none, .ld1 (.t q14)⟩, ⟨some q16, none, .ixS 1 (.t q13) (.t q15)⟩, ⟨none, none, .st 1 (.t q16) (.c (.b true))⟩]) (.seq (.seq (.reg [⟨some q4, none, .mov (.c (.b true))⟩]) (.block 0 (.loop L9_4))) K9_5))
def B9 : IC := .seq (.reg [⟨some q1, none, .box (.t q0)⟩, ⟨some q2, none, .mov (.c .nils)⟩]) (.seq (.seq (.reg [⟨some q7, none, .ldN 7 (.t q1)⟩, ⟨some q8, none, .call 17 [.t q7]⟩, ⟨some q9, none, .un .not (.t q8)⟩]) (.cond (.t q9) (.seq (.reg [⟨some q2, none, .mov (.c .nils)⟩]) .ret) .skip)) K9_6)
def F9 : IFn := ⟨41, [.tmp q2], B9⟩
theorem R9 : F9.res = [.tmp q2] := rfl
theorem fits9 : FitsF Try.prog 9 F9 := cmpF_fits (pol := fun _ => false) Try.func9 (by kernel_rfl)
def K10_0 : IC := .reg [⟨some q43, none, .mov (.t q7)⟩, ⟨some q44, none, .binI .add (.t q43) (.c (.i .i64 1))⟩, ⟨some q7, none, .mov (.t q44)⟩]
def K10_1 : IC := .seq (.block 5 (.seq (.reg [⟨some q45, none, .fa 1 (.t q6)⟩, ⟨some q46, none, .ld1 (.t q45)⟩, ⟨some q47, none, .mov (.t q7)⟩, ⟨some q48, none, .ixS 1 (.t q46) (.t q47)⟩, ⟨some q49, none, .ld1 (.t q48)⟩, ⟨some q50, none, .binI .geq (.t q49) (.c (.i .i64 0))⟩, ⟨some q51, none, .mov (.t q50)⟩, ⟨some q52, some (q51, true), .mov (.t q3)⟩, ⟨some q53, some (q51, true), .fa 1 (.t q6)⟩, ⟨some q54, some (q51, true), .ld1 (.t q53)⟩, ⟨some q55, some (q51, true), .mov (.t q7)⟩, ⟨some q56, some (q51, true), .ixS 1 (.t q54) (.t q55)⟩, ⟨some q57, some (q51, true), .ld1 (.t q56)⟩, ⟨some q58, some (q51, true), .ixS 1 (.t q52) (.t q57)⟩, ⟨some q59, some (q51, true), .ld1 (.t q58)⟩, ⟨some q60, some (q51, true), .un .not (.t q59)⟩, ⟨some q61, none, .pick (.t q51) (.t q60) (.c (.b false))⟩]) (.cond (.t q61) (.seq (.reg [⟨some q62, none, .mov (.t q3)⟩, ⟨some q63, none, .fa 1 (.t q6)⟩, ⟨some q64, none, .ld1 (.t q63)⟩, ⟨some q65, none, .mov (.t q7)⟩, ⟨some q66, none, .ixS 1 (.t q64) (.t q65)⟩, ⟨some q67, none, .ld1 (.t q66)⟩, ⟨some q68, none, .ixS 1 (.t q62) (.t q67)⟩, ⟨none, none, .st 1 (.t q68) (.c (.b true))⟩]) (.reg [⟨some q4, none, .mov (.c (.b true))⟩])) .skip))) K10_0
def L10_2 : IC := .seq (.seq (.reg [⟨some q31, none, .mov (.t q7)⟩, ⟨some q32, none, .fa 1 (.t q6)⟩, ⟨some q33, none, .ld1 (.t q32)⟩, ⟨some q34, none, .len (.t q33)⟩, ⟨some q35, none, .binI .lss (.t q31) (.t q34)⟩, ⟨some q36, none, .mov (.t q35)⟩, ⟨some q37, some (q36, true), .mov (.t q3)⟩, ⟨some q38, some (q36, true), .fa 0 (.t q6)⟩, ⟨some q39, some (q36, true), .ld1 (.t q38)⟩, ⟨some q40, some (q36, true), .ixS 1 (.t q37) (.t q39)⟩, ⟨some q41, some (q36, true), .ld1 (.t q40)⟩, ⟨some q42, none, .pick (.t q36) (.t q41) (.c (.b false))⟩]) (.cond (.t q42) .skip (.exit 4))) K10_1
def K10_3 : IC := .reg [⟨some q24, none, .mov (.t q5)⟩, ⟨some q25, none, .binI .add (.t q24) (.c (.i .i64 1))⟩, ⟨some q5, none, .mov (.t q25)⟩]
def K10_4 : IC := .seq (.block 3 (.seq (.reg [⟨some q26, none, .fa 3 (.t q1)⟩, ⟨some q27, none, .ld1 (.t q26)⟩, ⟨some q28, none, .mov (.t q5)⟩, ⟨some q29, none, .ixS 3 (.t q27) (.t q28)⟩, ⟨some q30, none, .ldN 3 (.t q29)⟩, ⟨some q6, none, .new [.i .i64 0, .nils, .i .i64 0]⟩, ⟨none, none, .st 3 (.t q6) (.t q30)⟩]) (.seq (.reg [⟨some q7, none, .mov (.c (.i .i64 0))⟩]) (.block 4 (.loop L10_2))))) K10_3
def L10_5 : IC := .seq (.seq (.reg [⟨some q19, none, .mov (.t q5)⟩, ⟨some q20, none, .fa 3 (.t q1)⟩, ⟨some q21, none, .ld1 (.t q20)⟩, ⟨some q22, none, .len (.t q21)⟩, ⟨some q23, none, .binI .lss (.t q19) (.t q22)⟩]) (.cond (.t q23) .skip (.exit 2))) K10_4
def K10_6 : IC := .block 1 (.seq (.reg [⟨some q4, none, .mov (.c (.b false))⟩]) (.seq (.reg [⟨some q5, none, .mov (.c (.i .i64 0))⟩]) (.block 2 (.loop L10_5))))
def L10_7 : IC := .seq (.seq (.reg [⟨some q18, none, .mov (.t q4)⟩]) (.cond (.t q18) .skip (.exit 0))) K10_6
def K10_8 : IC := .seq (.reg [⟨some q69, none, .mov (.t q3)⟩, ⟨some q2, none, .mov (.t q69)⟩]) .ret
def K10_9 : IC := .seq (.reg [⟨some q11, none, .fa 0 (.t q1)⟩, ⟨some q12, none, .ld1 (.t q11)⟩, ⟨some q13, none, .mks 1 1 [.b false] (.t q12) (.t q12)⟩, ⟨some q3, none, .mov (.t q13)⟩]) (.seq (.reg [⟨some q14, none, .mov (.t q3)⟩, ⟨some q15, none, .fa 2 (.t q1)⟩, ⟨some q16, none, .ld1 (.t q15)⟩, ⟨some q17, none, .ixS 1 (.t q14) (.t q16)⟩, ⟨none, none, .st 1 (.t q17) (.c (.b true))⟩]) (.seq (.seq (.reg [⟨some q4, none, .mov (.c (.b true))⟩]) (.block 0 (.loop L10_7))) K10_8))
def B10 : IC := .seq (.reg [⟨some q1, none, .box (.t q0)⟩, ⟨some q2, none, .mov (.c .nils)⟩]) (.seq (.seq (.reg [⟨some q8, none, .ldN 7 (.t q1)⟩, ⟨some q9, none, .call 19 [.t q8]⟩, ⟨some q10, none, .un .not (.t q9)⟩]) (.cond (.t q10) (.seq (.reg [⟨some q2, none, .mov (.c .nils)⟩]) .ret) .skip)) K10_9)
def F10 : IFn := ⟨70, [.tmp q2], B10⟩
theorem R10 : F10.res = [.tmp q2] := rfl
theorem fits10 : FitsF Try.prog 10 F10 := cmpF_fits (pol := fun _ => false) Try.func10 (by kernel_rfl)
def K11_0 : IC := .reg [⟨some q25, none, .binI .add (.t q15) (.c (.i .i64 1))⟩, ⟨some q15, none, .mov (.t q25)⟩]
def K11_1 : IC := .seq (.block 1 (.seq (.reg [⟨some q17, none, .mov (.t q15)⟩, ⟨some q18, none, .ixS 1 (.t q13) (.t q15)⟩, ⟨some q19, none, .ld1 (.t q18)⟩, ⟨some q4, none, .mov (.t q17)⟩, ⟨some q5, none, .mov (.t q19)⟩]) (.reg [⟨some q20, none, .mov (.t q3)⟩, ⟨some q21, none, .mov (.t q4)⟩, ⟨some q22, none, .mov (.t q5)⟩, ⟨some q23, none, .binI .neq (.t q22) (.c (.i .i64 (.negSucc 0)))⟩, ⟨some q24, none, .ixS 1 (.t q20) (.t q21)⟩, ⟨none, none, .st 1 (.t q24) (.t q23)⟩]))) K11_0
def L11_2 : IC := .seq (.reg [⟨some q16, none, .binI .lss (.t q15) (.t q14)⟩]) (.seq (.cond (.t q16) .skip (.exit 0)) K11_1)
def K11_3 : IC := .seq (.reg [⟨some q26, none, .mov (.t q3)⟩, ⟨some q2, none, .mov (.t q26)⟩]) .ret
def K11_4 : IC := .seq (.reg [⟨some q9, none, .fa 0 (.t q1)⟩, ⟨some q10, none, .ld1 (.t q9)⟩, ⟨some q11, none, .mks 1 1 [.b false] (.t q10) (.t q10)⟩, ⟨some q3, none, .mov (.t q11)⟩]) (.seq (.seq (.reg [⟨some q12, none, .ldN 7 (.t q1)⟩, ⟨some q13, none, .call 20 [.t q12]⟩, ⟨some q14, none, .len (.t q13)⟩, ⟨some q15, none, .mov (.c (.i .i64 0))⟩]) (.block 0 (.loop L11_2))) K11_3)
def B11 : IC := .seq (.reg [⟨some q1, none, .box (.t q0)⟩, ⟨some q2, none, .mov (.c .nils)⟩]) (.seq (.seq (.reg [⟨some q6, none, .ldN 7 (.t q1)⟩, ⟨some q7, none, .call 17 [.t q6]⟩, ⟨some q8, none, .un .not (.t q7)⟩]) (.cond (.t q8) (.seq (.reg [⟨some q2, none, .mov (.c .nils)⟩]) .ret) .skip)) K11_4)
def F11 : IFn := ⟨27, [.tmp q2], B11⟩
theorem R11 : F11.res = [.tmp q2] := rfl
theorem fits11 : FitsF Try.prog 11 F11 := cmpF_fits (pol := fun _ => false) Try.func11 (by kernel_rfl)
def K12_0 : IC := .reg [⟨some q15, none, .mov (.t q5)⟩, ⟨some q16, none, .binI .add (.t q15) (.c (.i .i64 1))⟩, ⟨some q5, none, .mov (.t q16)⟩]
def K12_1 : IC := .seq (.block 1 (.reg [⟨some q17, none, .mov (.t q4)⟩, ⟨some q18, none, .mov (.t q3)⟩, ⟨some q19, none, .mov (.t q5)⟩, ⟨some q20, none, .ixS 1 (.t q18) (.t q19)⟩, ⟨some q21, none, .ld1 (.t q20)⟩, ⟨some q22, none, .binI .geq (.t q21) (.c (.i .i64 0))⟩, ⟨some q23, none, .bsl 1 1 [.b false] [(0, 1, .t q22)]⟩, ⟨some q24, none, .app 1 1 (.t q17) (.t q23)⟩, ⟨some q4, none, .mov (.t q24)⟩])) K12_0
def L12_2 : IC := .seq (.seq (.reg [⟨some q11, none, .mov (.t q5)⟩, ⟨some q12, none, .mov (.t q3)⟩, ⟨some q13, none, .len (.t q12)⟩, ⟨some q14, none, .binI .lss (.t q11) (.t q13)⟩]) (.cond (.t q14) .skip (.exit 0))) K12_1
def K12_3 : IC := .seq (.reg [⟨some q25, none, .mov (.t q4)⟩, ⟨some q2, none, .mov (.t q25)⟩]) .ret
def K12_4 : IC := .seq (.reg [⟨some q9, none, .ldN 7 (.t q1)⟩, ⟨some q10, none, .call 15 [.t q9]⟩, ⟨some q3, none, .mov (.t q10)⟩]) (.seq (.reg [⟨some q4, none, .mov (.c .nils)⟩]) (.seq (.seq (.reg [⟨some q5, none, .mov (.c (.i .i64 0))⟩]) (.block 0 (.loop L12_2))) K12_3))
def B12 : IC := .seq (.reg [⟨some q1, none, .box (.t q0)⟩, ⟨some q2, none, .mov (.c .nils)⟩]) (.seq (.seq (.reg [⟨some q6, none, .ldN 7 (.t q1)⟩, ⟨some q7, none, .call 19 [.t q6]⟩, ⟨some q8, none, .un .not (.t q7)⟩]) (.cond (.t q8) (.seq (.reg [⟨some q2, none, .mov (.c .nils)⟩]) .ret) .skip)) K12_4)
def F12 : IFn := ⟨26, [.tmp q2], B12⟩
theorem R12 : F12.res = [.tmp q2] := rfl
theorem fits12 : FitsF Try.prog 12 F12 := cmpF_fits (pol := fun _ => false) Try.func12 (by kernel_rfl)
def K13_0 : IC := .cond (.t q25) (.seq (.reg [⟨some q4, none, .mov (.c (.b false))⟩]) .ret) .skip
def K13_1 : IC := .reg [⟨some q15, none, .mov (.t q5)⟩, ⟨some q16, none, .binI .add (.t q15) (.c (.i .i64 1))⟩, ⟨some q5, none, .mov (.t q16)⟩]
def K13_2 : IC := .seq (.block 1 (.seq (.dreg 0 [(⟨some q17, none, .mov (.t q0)⟩, .pu), (⟨some q18, none, .mov (.t q5)⟩, .pu), (⟨some q19, none, .ixS 1 (.t q17) (.t q18)⟩, .pu), (⟨some q20, none, .ld1 (.t q19)⟩, .rd 0), (⟨some q21, none, .mov (.t q1)⟩, .pu), (⟨some q22, none, .mov (.t q5)⟩, .pu), (⟨some q23, none, .ixS 1 (.t q21) (.t q22)⟩, .pu), (⟨some q24, none, .ld1 (.t q23)⟩, .rd 0)] [⟨some q25, none, .binI .neq (.t q20) (.t q24)⟩] []) K13_0)) K13_1
def L13_3 : IC := .seq (.seq (.reg [⟨some q11, none, .mov (.t q5)⟩, ⟨some q12, none, .mov (.t q0)⟩, ⟨some q13, none, .len (.t q12)⟩, ⟨some q14, none, .binI .lss (.t q11) (.t q13)⟩]) (.cond (.t q14) .skip (.exit 0))) K13_2
def K13_4 : IC := .seq (.reg [⟨some q4, none, .mov (.c (.b true))⟩]) .ret
def K13_5 : IC := .seq (.seq (.reg [⟨some q5, none, .mov (.c (.i .i64 0))⟩]) (.block 0 (.loop L13_3))) K13_4
def B13 : IC := .seq (.reg [⟨some q4, none, .mov (.c (.b false))⟩]) (.seq (.seq (.reg [⟨some q6, none, .mov (.t q0)⟩, ⟨some q7, none, .len (.t q6)⟩, ⟨some q8, none, .mov (.t q1)⟩, ⟨some q9, none, .len (.t q8)⟩, ⟨some q10, none, .binI .neq (.t q7) (.t q9)⟩]) (.cond (.t q10) (.seq (.reg [⟨some q4, none, .mov (.c (.b false))⟩]) .ret) .skip)) K13_5)
def F13 : IFn := ⟨26, [.tmp q4], B13⟩
theorem R13 : F13.res = [.tmp q4] := rfl
theorem fits13 : FitsF Try.prog 13 F13 := cmpF_fits (pol := fun _ => false) Try.func13 (by kernel_rfl)
def K14_0 : IC := .seq (.reg [⟨some q6, none, .ldN 7 (.t q1)⟩, ⟨some q7, none, .call 20 [.t q6]⟩, ⟨some q2, none, .mov (.t q7)⟩]) .ret
def B14 : IC := .seq (.reg [⟨some q1, none, .box (.t q0)⟩, ⟨some q2, none, .mov (.c .nils)⟩]) (.seq (.seq (.reg [⟨some q3, none, .ldN 7 (.t q1)⟩, ⟨some q4, none, .call 17 [.t q3]⟩, ⟨some q5, none, .un .not (.t q4)⟩]) (.cond (.t q5) (.seq (.reg [⟨some q2, none, .mov (.c .nils)⟩]) .ret) .skip)) K14_0)
def F14 : IFn := ⟨8, [.tmp q2], B14⟩
theorem R14 : F14.res = [.tmp q2] := rfl
theorem fits14 : FitsF Try.prog 14 F14 := cmpF_fits (pol := fun _ => false) Try.func14 (by kernel_rfl)
def K15_0 : IC := .reg [⟨some q20, none, .mov (.t q4)⟩, ⟨some q21, none, .binI .add (.t q20) (.c (.i .i64 1))⟩, ⟨some q4, none, .mov (.t q21)⟩]
def K15_1 : IC := .seq (.block 1 (.reg [⟨some q22, none, .mov (.t q3)⟩, ⟨some q23, none, .mov (.t q4)⟩, ⟨some q24, none, .ixS 1 (.t q22) (.t q23)⟩, ⟨none, none, .st 1 (.t q24) (.c (.i .i64 (.negSucc 0)))⟩])) K15_0
def L15_2 : IC := .seq (.seq (.reg [⟨some q16, none, .mov (.t q4)⟩, ⟨some q17, none, .fa 0 (.t q1)⟩, ⟨some q18, none, .ld1 (.t q17)⟩, ⟨some q19, none, .binI .lss (.t q16) (.t q18)⟩]) (.cond (.t q19) .skip (.exit 0))) K15_1
def K15_3 : IC := .reg [⟨some q47, none, .mov (.t q9)⟩, ⟨some q48, none, .binI .add (.t q47) (.c (.i .i64 1))⟩, ⟨some q9, none, .mov (.t q48)⟩]
def K15_4 : IC := .seq (.block 7 (.block 8 (.seq (.reg [⟨some q60, none, .fa 1 (.t q7)⟩, ⟨some q61, none, .ld1 (.t q60)⟩, ⟨some q62, none, .mov (.t q9)⟩, ⟨some q63, none, .ixS 1 (.t q61) (.t q62)⟩, ⟨some q64, none, .ld1 (.t q63)⟩, ⟨some q65, none, .binI .lss (.t q64) (.c (.i .i64 0))⟩, ⟨some q59, none, .mov (.t q65)⟩]) (.cond (.t q59) (.reg [⟨some q66, none, .mov (.t q8)⟩, ⟨some q67, none, .binI .add (.t q66) (.c (.i .i64 1))⟩, ⟨some q8, none, .mov (.t q67)⟩]) (.seq (.reg [⟨some q69, none, .mov (.t q3)⟩, ⟨some q70, none, .fa 1 (.t q7)⟩, ⟨some q71, none, .ld1 (.t q70)⟩, ⟨some q72, none, .mov (.t q9)⟩, ⟨some q73, none, .ixS 1 (.t q71) (.t q72)⟩, ⟨some q74, none, .ld1 (.t q73)⟩, ⟨some q75, none, .ixS 1 (.t q69) (.t q74)⟩, ⟨some q76, none, .ld1 (.t q75)⟩, ⟨some q77, none, .binI .lss (.t q76) (.c (.i .i64 0))⟩, ⟨some q68, none, .mov (.t q77)⟩]) (.cond (.t q68) (.reg [⟨some q8, none, .mov (.c (.i .i64 (.negSucc 0)))⟩]) (.reg [⟨some q49, none, .mov (.t q8)⟩, ⟨some q50, none, .mov (.t q3)⟩, ⟨some q51, none, .fa 1 (.t q7)⟩, ⟨some q52, none, .ld1 (.t q51)⟩, ⟨some q53, none, .mov (.t q9)⟩, ⟨some q54, none, .ixS 1 (.t q52) (.t q53)⟩, ⟨some q55, none, .ld1 (.t q54)⟩, ⟨some q56, none, .ixS 1 (.t q50) (.t q55)⟩, ⟨some q57, none, .ld1 (.t q56)⟩, ⟨some q58, none, .binI .add (.t q49) (.t q57)⟩, ⟨some q8, none, .mov (.t q58)⟩]))))))) K15_3
def L15_5 : IC := .seq (.seq (.reg [⟨some q38, none, .mov (.t q9)⟩, ⟨some q39, none, .fa 1 (.t q7)⟩, ⟨some q40, none, .ld1 (.t q39)⟩, ⟨some q41, none, .len (.t q40)⟩, ⟨some q42, none, .binI .lss (.t q38) (.t q41)⟩, ⟨some q43, none, .mov (.t q42)⟩, ⟨some q44, some (q43, true), .mov (.t q8)⟩, ⟨some q45, some (q43, true), .binI .geq (.t q44) (.c (.i .i64 0))⟩, ⟨some q46, none, .pick (.t q43) (.t q45) (.c (.b false))⟩]) (.cond (.t q46) .skip (.exit 6))) K15_4
def K15_6 : IC := .seq (.reg [⟨some q80, none, .mov (.t q8)⟩, ⟨some q81, none, .binI .geq (.t q80) (.c (.i .i64 0))⟩, ⟨some q82, none, .mov (.t q81)⟩, ⟨some q83, some (q82, true), .mov (.t q3)⟩, ⟨some q84, some (q82, true), .fa 0 (.t q7)⟩, ⟨some q85, some (q82, true), .ld1 (.t q84)⟩, ⟨some q86, some (q82, true), .ixS 1 (.t q83) (.t q85)⟩, ⟨some q87, some (q82, true), .ld1 (.t q86)⟩, ⟨some q88, some (q82, true), .binI .lss (.t q87) (.c (.i .i64 0))⟩, ⟨some q89, some (q82, true), .mov (.t q88)⟩, ⟨some q90, some (q89, false), .mov (.t q8)⟩, ⟨some q91, some (q89, false), .mov (.t q3)⟩, ⟨some q92, some (q89, false), .fa 0 (.t q7)⟩, ⟨some q93, some (q89, false), .ld1 (.t q92)⟩, ⟨some q94, some (q89, false), .ixS 1 (.t q91) (.t q93)⟩, ⟨some q95, some (q89, false), .ld1 (.t q94)⟩, ⟨some q96, some (q89, false), .binI .lss (.t q90) (.t q95)⟩, ⟨some q97, some (q82, true), .pick (.t q89) (.c (.b true)) (.t q96)⟩, ⟨some q98, none, .pick (.t q82) (.t q97) (.c (.b false))⟩]) (.cond (.t q98) (.seq (.reg [⟨some q99, none, .mov (.t q3)⟩, ⟨some q100, none, .fa 0 (.t q7)⟩, ⟨some q101, none, .ld1 (.t q100)⟩, ⟨some q102, none, .mov (.t q8)⟩, ⟨some q103, none, .ixS 1 (.t q99) (.t q101)⟩, ⟨none, none, .st 1 (.t q103) (.t q102)⟩]) (.reg [⟨some q5, none, .mov (.c (.b true))⟩])) .skip)
def K15_7 : IC := .seq (.seq (.reg [⟨some q78, none, .mov (.t q8)⟩, ⟨some q79, none, .binI .gtr (.t q78) (.c (.i .i64 1000000000))⟩]) (.cond (.t q79) (.reg [⟨some q8, none, .mov (.c (.i .i64 1000000000))⟩]) .skip)) K15_6
def K15_8 : IC := .reg [⟨some q31, none, .mov (.t q6)⟩, ⟨some q32, none, .binI .add (.t q31) (.c (.i .i64 1))⟩, ⟨some q6, none, .mov (.t q32)⟩]
def K15_9 : IC := .seq (.block 5 (.seq (.reg [⟨some q33, none, .fa 3 (.t q1)⟩, ⟨some q34, none, .ld1 (.t q33)⟩, ⟨some q35, none, .mov (.t q6)⟩, ⟨some q36, none, .ixS 3 (.t q34) (.t q35)⟩, ⟨some q37, none, .ldN 3 (.t q36)⟩, ⟨some q7, none, .new [.i .i64 0, .nils, .i .i64 0]⟩, ⟨none, none, .st 3 (.t q7) (.t q37)⟩]) (.seq (.reg [⟨some q8, none, .mov (.c (.i .i64 0))⟩]) (.seq (.seq (.reg [⟨some q9, none, .mov (.c (.i .i64 0))⟩]) (.block 6 (.loop L15_5))) K15_7)))) K15_8
def L15_10 : IC := .seq (.seq (.reg [⟨some q26, none, .mov (.t q6)⟩, ⟨some q27, none, .fa 3 (.t q1)⟩, ⟨some q28, none, .ld1 (.t q27)⟩, ⟨some q29, none, .len (.t q28)⟩, ⟨some q30, none, .binI .lss (.t q26) (.t q29)⟩]) (.cond (.t q30) .skip (.exit 4))) K15_9
def K15_11 : IC := .block 3 (.seq (.reg [⟨some q5, none, .mov (.c (.b false))⟩]) (.seq (.reg [⟨some q6, none, .mov (.c (.i .i64 0))⟩]) (.block 4 (.loop L15_10))))
def L15_12 : IC := .seq (.seq (.reg [⟨some q25, none, .mov (.t q5)⟩]) (.cond (.t q25) .skip (.exit 2))) K15_11
def K15_13 : IC := .seq (.reg [⟨some q104, none, .mov (.t q3)⟩, ⟨some q2, none, .mov (.t q104)⟩]) .ret
def K15_14 : IC := .seq (.seq (.reg [⟨some q5, none, .mov (.c (.b true))⟩]) (.block 2 (.loop L15_12))) K15_13
def K15_15 : IC := .seq (.reg [⟨some q13, none, .fa 0 (.t q1)⟩, ⟨some q14, none, .ld1 (.t q13)⟩, ⟨some q15, none, .mks 1 8 [.i .i64 0] (.t q14) (.t q14)⟩, ⟨some q3, none, .mov (.t q15)⟩]) (.seq (.seq (.reg [⟨some q4, none, .mov (.c (.i .i64 0))⟩]) (.block 0 (.loop L15_2))) K15_14)
def B15 : IC := .seq (.reg [⟨some q1, none, .box (.t q0)⟩, ⟨some q2, none, .mov (.c .nils)⟩]) (.seq (.seq (.reg [⟨some q10, none, .ldN 7 (.t q1)⟩, ⟨some q11, none, .call 19 [.t q10]⟩, ⟨some q12, none, .un .not (.t q11)⟩]) (.cond (.t q12) (.seq (.reg [⟨some q2, none, .mov (.c .nils)⟩]) .ret) .skip)) K15_15)
def F15 : IFn := ⟨105, [.tmp q2], B15⟩
theorem R15 : F15.res = [.tmp q2] := rfl
theorem fits15 : FitsF Try.prog 15 F15 := cmpF_fits (pol := fun _ => false) Try.func15 (by kernel_rfl)
def K16_0 : IC := .reg [⟨some q107, none, .mov (.t q7)⟩, ⟨some q108, none, .binI .add (.t q107) (.c (.i .i64 1))⟩, ⟨some q7, none, .mov (.t q108)⟩]
def K16_1 : IC := .seq (.block 3 (.dreg 0 [(⟨some q109, none, .ldN 7 (.t q1)⟩, .rd 0), (⟨some q110, none, .fa 1 (.t q5)⟩, .pu), (⟨some q111, none, .ld1 (.t q110)⟩, .rd 0), (⟨some q112, none, .mov (.t q7)⟩, .pu), (⟨some q113, none, .ixS 1 (.t q111) (.t q112)⟩, .pu), (⟨some q114, none, .ld1 (.t q113)⟩, .rd 0)] [⟨some q115, none, .call 22 [.t q109, .t q114]⟩, ⟨some q6, none, .mov (.t q115)⟩] [])) K16_0
def L16_2 : IC := .seq (.seq (.reg [⟨some q99, none, .mov (.t q7)⟩, ⟨some q100, none, .fa 1 (.t q5)⟩, ⟨some q101, none, .ld1 (.t q100)⟩, ⟨some q102, none, .len (.t q101)⟩, ⟨some q103, none, .binI .lss (.t q99) (.t q102)⟩, ⟨some q104, none, .mov (.t q103)⟩, ⟨some q105, some (q104, true), .mov (.t q6)⟩, ⟨some q106, none, .pick (.t q104) (.t q105) (.c (.b false))⟩]) (.cond (.t q106) .skip (.exit 2))) K16_1
def K16_3 : IC := .block 4 (.seq (.reg [⟨some q117, none, .mov (.t q6)⟩, ⟨some q118, none, .un .not (.t q117)⟩, ⟨some q116, none, .mov (.t q118)⟩]) (.cond (.t q116) (.seq (.reg [⟨some q119, none, .mov (.t q4)⟩, ⟨some q2, none, .mov (.t q119)⟩, ⟨some q3, none, .mov (.c (.i .i64 6))⟩]) .ret) (.seq (.reg [⟨some q121, none, .fa 1 (.t q5)⟩, ⟨some q122, none, .ld1 (.t q121)⟩, ⟨some q123, none, .len (.t q122)⟩, ⟨some q124, none, .binI .gtr (.t q123) (.c (.i .i64 8))⟩, ⟨some q120, none, .mov (.t q124)⟩]) (.cond (.t q120) (.seq (.reg [⟨some q125, none, .mov (.t q4)⟩, ⟨some q2, none, .mov (.t q125)⟩, ⟨some q3, none, .mov (.c (.i .i64 3))⟩]) .ret) (.seq (.reg [⟨some q127, none, .fa 2 (.t q5)⟩, ⟨some q128, none, .ld1 (.t q127)⟩, ⟨some q129, none, .binI .lss (.t q128) (.c (.i .i64 (.negSucc 999)))⟩, ⟨some q130, none, .mov (.t q129)⟩, ⟨some q131, some (q130, false), .fa 2 (.t q5)⟩, ⟨some q132, some (q130, false), .ld1 (.t q131)⟩, ⟨some q133, some (q130, false), .binI .gtr (.t q132) (.c (.i .i64 1000))⟩, ⟨some q134, none, .pick (.t q130) (.c (.b true)) (.t q133)⟩, ⟨some q126, none, .mov (.t q134)⟩]) (.cond (.t q126) (.seq (.reg [⟨some q135, none, .mov (.t q4)⟩, ⟨some q2, none, .mov (.t q135)⟩, ⟨some q3, none, .mov (.c (.i .i64 1))⟩]) .ret) .skip))))))
def K16_4 : IC := .reg [⟨some q82, none, .mov (.t q4)⟩, ⟨some q83, none, .binI .add (.t q82) (.c (.i .i64 1))⟩, ⟨some q4, none, .mov (.t q83)⟩]
def K16_5 : IC := .seq (.block 1 (.seq (.reg [⟨some q84, none, .fa 3 (.t q1)⟩, ⟨some q85, none, .ld1 (.t q84)⟩, ⟨some q86, none, .mov (.t q4)⟩, ⟨some q87, none, .ixS 3 (.t q85) (.t q86)⟩, ⟨some q88, none, .ldN 3 (.t q87)⟩, ⟨some q5, none, .new [.i .i64 0, .nils, .i .i64 0]⟩, ⟨none, none, .st 3 (.t q5) (.t q88)⟩]) (.seq (.reg [⟨some q89, none, .fa 0 (.t q5)⟩, ⟨some q90, none, .ld1 (.t q89)⟩, ⟨some q91, none, .binI .geq (.t q90) (.c (.i .i64 0))⟩, ⟨some q92, none, .mov (.t q91)⟩, ⟨some q93, some (q92, true), .fa 0 (.t q5)⟩, ⟨some q94, some (q92, true), .ld1 (.t q93)⟩, ⟨some q95, some (q92, true), .fa 0 (.t q1)⟩, ⟨some q96, some (q92, true), .ld1 (.t q95)⟩, ⟨some q97, some (q92, true), .binI .lss (.t q94) (.t q96)⟩, ⟨some q98, none, .pick (.t q92) (.t q97) (.c (.b false))⟩, ⟨some q6, none, .mov (.t q98)⟩]) (.seq (.seq (.reg [⟨some q7, none, .mov (.c (.i .i64 0))⟩]) (.block 2 (.loop L16_2))) K16_3)))) K16_4
def L16_6 : IC := .seq (.seq (.reg [⟨some q77, none, .mov (.t q4)⟩, ⟨some q78, none, .fa 3 (.t q1)⟩, ⟨some q79, none, .ld1 (.t q78)⟩, ⟨some q80, none, .len (.t q79)⟩, ⟨some q81, none, .binI .lss (.t q77) (.t q80)⟩]) (.cond (.t q81) .skip (.exit 0))) K16_5
def K16_7 : IC := .cond (.t q210) (.seq (.reg [⟨some q2, none, .mov (.c (.i .i64 (.negSucc 0)))⟩, ⟨some q3, none, .mov (.c (.i .i64 6))⟩]) .ret) .skip
def K16_8 : IC := .reg [⟨some q141, none, .mov (.t q8)⟩, ⟨some q142, none, .binI .add (.t q141) (.c (.i .i64 1))⟩, ⟨some q8, none, .mov (.t q142)⟩]
def K16_9 : IC := .seq (.block 6 (.seq (.reg [⟨some q143, none, .fa 4 (.t q1)⟩, ⟨some q144, none, .ld1 (.t q143)⟩, ⟨some q145, none, .mov (.t q8)⟩, ⟨some q146, none, .ixS 3 (.t q144) (.t q145)⟩, ⟨some q147, none, .ldN 3 (.t q146)⟩, ⟨some q9, none, .new [.i .i64 0, .i .i64 0, .i .i64 0]⟩, ⟨none, none, .st 3 (.t q9) (.t q147)⟩]) (.seq (.dreg 0 [(⟨some q148, none, .ixA 3 1 (.t q9) (.c (.i .i64 0))⟩, .pu), (⟨some q149, none, .ld1 (.t q148)⟩, .rd 0), (⟨some q150, none, .binI .lss (.t q149) (.c (.i .i64 0))⟩, .pu), (⟨some q151, none, .mov (.t q150)⟩, .pu), (⟨some q152, some (q151, false), .ixA 3 1 (.t q9) (.c (.i .i64 0))⟩, .pu), (⟨some q153, some (q151, false), .ld1 (.t q152)⟩, .rd 0), (⟨some q154, some (q151, false), .fa 3 (.t q1)⟩, .pu), (⟨some q155, some (q151, false), .ld1 (.t q154)⟩, .rd 0), (⟨some q156, some (q151, false), .len (.t q155)⟩, .pu), (⟨some q157, some (q151, false), .binI .geq (.t q153) (.t q156)⟩, .pu), (⟨some q158, none, .pick (.t q151) (.c (.b true)) (.t q157)⟩, .pu), (⟨some q159, none, .mov (.t q158)⟩, .pu), (⟨some q160, some (q159, false), .ixA 3 1 (.t q9) (.c (.i .i64 2))⟩, .pu), (⟨some q161, some (q159, false), .ld1 (.t q160)⟩, .rd 0), (⟨some q162, some (q159, false), .binI .lss (.t q161) (.c (.i .i64 0))⟩, .pu), (⟨some q163, none, .pick (.t q159) (.c (.b true)) (.t q162)⟩, .pu), (⟨some q164, none, .mov (.t q163)⟩, .pu), (⟨some q165, some (q164, false), .ixA 3 1 (.t q9) (.c (.i .i64 2))⟩, .pu), (⟨some q166, some (q164, false), .ld1 (.t q165)⟩, .rd 0), (⟨some q167, some (q164, false), .fa 3 (.t q1)⟩, .pu), (⟨some q168, some (q164, false), .ld1 (.t q167)⟩, .rd 0), (⟨some q169, some (q164, false), .len (.t q168)⟩, .pu), (⟨some q170, some (q164, false), .binI .geq (.t q166) (.t q169)⟩, .pu), (⟨some q171, none, .pick (.t q164) (.c (.b true)) (.t q170)⟩, .pu), (⟨some q172, none, .mov (.t q171)⟩, .pu), (⟨some q173, some (q172, false), .ixA 3 1 (.t q9) (.c (.i .i64 1))⟩, .pu), (⟨some q174, some (q172, false), .ld1 (.t q173)⟩, .rd 0), (⟨some q175, some (q172, false), .binI .lss (.t q174) (.c (.i .i64 0))⟩, .pu), (⟨some q176, none, .pick (.t q172) (.c (.b true)) (.t q175)⟩, .pu), (⟨some q177, none, .mov (.t q176)⟩, .pu), (⟨some q178, some (q177, false), .ixA 3 1 (.t q9) (.c (.i .i64 1))⟩, .pu), (⟨some q179, some (q177, false), .ld1 (.t q178)⟩, .rd 0), (⟨some q180, some (q177, false), .fa 3 (.t q1)⟩, .pu), (⟨some q181, some (q177, false), .ld1 (.t q180)⟩, .rd 0), (⟨some q182, some (q177, false), .ixA 3 1 (.t q9) (.c (.i .i64 0))⟩, .pu), (⟨some q183, some (q177, false), .ld1 (.t q182)⟩, .rd 0), (⟨some q184, some (q177, false), .ixS 3 (.t q181) (.t q183)⟩, .pu), (⟨some q185, some (q177, false), .fa 1 (.t q184)⟩, .pu), (⟨some q186, some (q177, false), .ld1 (.t q185)⟩, .rd 0), (⟨some q187, some (q177, false), .len (.t q186)⟩, .pu), (⟨some q188, some (q177, false), .binI .geq (.t q179) (.t q187)⟩, .pu), (⟨some q189, none, .pick (.t q177) (.c (.b true)) (.t q188)⟩, .pu), (⟨some q190, none, .mov (.t q189)⟩, .pu), (⟨some q191, some (q190, false), .fa 3 (.t q1)⟩, .pu), (⟨some q192, some (q190, false), .ld1 (.t q191)⟩, .rd 0), (⟨some q193, some (q190, false), .ixA 3 1 (.t q9) (.c (.i .i64 0))⟩, .pu), (⟨some q194, some (q190, false), .ld1 (.t q193)⟩, .rd 0), (⟨some q195, some (q190, false), .ixS 3 (.t q192) (.t q194)⟩, .pu), (⟨some q196, some (q190, false), .fa 1 (.t q195)⟩, .pu), (⟨some q197, some (q190, false), .ld1 (.t q196)⟩, .rd 0), (⟨some q198, some (q190, false), .ixA 3 1 (.t q9) (.c (.i .i64 1))⟩, .pu), (⟨some q199, some (q190, false), .ld1 (.t q198)⟩, .rd 0), (⟨some q200, some (q190, false), .ixS 1 (.t q197) (.t q199)⟩, .pu), (⟨some q201, some (q190, false), .ld1 (.t q200)⟩, .rd 0), (⟨some q202, some (q190, false), .fa 3 (.t q1)⟩, .pu), (⟨some q203, some (q190, false), .ld1 (.t q202)⟩, .rd 0), (⟨some q204, some (q190, false), .ixA 3 1 (.t q9) (.c (.i .i64 2))⟩, .pu), (⟨some q205, some (q190, false), .ld1 (.t q204)⟩, .rd 0), (⟨some q206, some (q190, false), .ixS 3 (.t q203) (.t q205)⟩, .pu), (⟨some q207, some (q190, false), .fa 0 (.t q206)⟩, .pu), (⟨some q208, some (q190, false), .ld1 (.t q207)⟩, .rd 0)] [⟨some q209, some (q190, false), .binI .neq (.t q201) (.t q208)⟩, ⟨some q210, none, .pick (.t q190) (.c (.b true)) (.t q209)⟩] []) K16_7))) K16_8
def L16_10 : IC := .seq (.seq (.reg [⟨some q136, none, .mov (.t q8)⟩, ⟨some q137, none, .fa 4 (.t q1)⟩, ⟨some q138, none, .ld1 (.t q137)⟩, ⟨some q139, none, .len (.t q138)⟩, ⟨some q140, none, .binI .lss (.t q136) (.t q139)⟩]) (.cond (.t q140) .skip (.exit 5))) K16_9
def K16_11 : IC := .seq (.reg [⟨some q2, none, .mov (.c (.i .i64 (.negSucc 0)))⟩, ⟨some q3, none, .mov (.c (.i .i64 0))⟩]) .ret
def K16_12 : IC := .seq (.seq (.reg [⟨some q8, none, .mov (.c (.i .i64 0))⟩]) (.block 5 (.loop L16_10))) K16_11
def K16_13 : IC := .seq (.seq (.reg [⟨some q4, none, .mov (.c (.i .i64 0))⟩]) (.block 0 (.loop L16_6))) K16_12
def K16_14 : IC := .seq (.seq (.reg [⟨some q50, none, .fa 5 (.t q1)⟩, ⟨some q51, none, .ld1 (.t q50)⟩, ⟨some q52, none, .len (.t q51)⟩, ⟨some q53, none, .fa 3 (.t q1)⟩, ⟨some q54, none, .ld1 (.t q53)⟩, ⟨some q55, none, .len (.t q54)⟩, ⟨some q56, none, .binI .gtr (.t q52) (.t q55)⟩, ⟨some q57, none, .mov (.t q56)⟩, ⟨some q58, some (q57, false), .fa 6 (.t q1)⟩, ⟨some q59, some (q57, false), .ld1 (.t q58)⟩, ⟨some q60, some (q57, false), .len (.t q59)⟩, ⟨some q61, some (q57, false), .fa 1 (.t q1)⟩, ⟨some q62, some (q57, false), .ld1 (.t q61)⟩, ⟨some q63, some (q57, false), .binI .gtr (.t q60) (.t q62)⟩, ⟨some q64, none, .pick (.t q57) (.c (.b true)) (.t q63)⟩, ⟨some q65, none, .mov (.t q64)⟩, ⟨some q66, some (q65, false), .fa 5 (.t q1)⟩, ⟨some q67, some (q65, false), .ld1 (.t q66)⟩, ⟨some q68, some (q65, false), .call 21 [.t q67]⟩, ⟨some q69, some (q65, false), .un .not (.t q68)⟩, ⟨some q70, none, .pick (.t q65) (.c (.b true)) (.t q69)⟩, ⟨some q71, none, .mov (.t q70)⟩, ⟨some q72, some (q71, false), .fa 6 (.t q1)⟩, ⟨some q73, some (q71, false), .ld1 (.t q72)⟩, ⟨some q74, some (q71, false), .call 21 [.t q73]⟩, ⟨some q75, some (q71, false), .un .not (.t q74)⟩, ⟨some q76, none, .pick (.t q71) (.c (.b true)) (.t q75)⟩]) (.cond (.t q76) (.seq (.reg [⟨some q2, none, .mov (.c (.i .i64 (.negSucc 0)))⟩, ⟨some q3, none, .mov (.c (.i .i64 1))⟩]) .ret) .skip)) K16_13
def K16_15 : IC := .seq (.seq (.reg [⟨some q40, none, .fa 2 (.t q1)⟩, ⟨some q41, none, .ld1 (.t q40)⟩, ⟨some q42, none, .binI .lss (.t q41) (.c (.i .i64 0))⟩, ⟨some q43, none, .mov (.t q42)⟩, ⟨some q44, some (q43, false), .fa 2 (.t q1)⟩, ⟨some q45, some (q43, false), .ld1 (.t q44)⟩, ⟨some q46, some (q43, false), .fa 0 (.t q1)⟩, ⟨some q47, some (q43, false), .ld1 (.t q46)⟩, ⟨some q48, some (q43, false), .binI .geq (.t q45) (.t q47)⟩, ⟨some q49, none, .pick (.t q43) (.c (.b true)) (.t q48)⟩]) (.cond (.t q49) (.seq (.reg [⟨some q2, none, .mov (.c (.i .i64 (.negSucc 0)))⟩, ⟨some q3, none, .mov (.c (.i .i64 6))⟩]) .ret) .skip)) K16_14
def B16 : IC := .seq (.reg [⟨some q1, none, .box (.t q0)⟩, ⟨some q2, none, .mov (.c (.i .i64 0))⟩, ⟨some q3, none, .mov (.c (.i .i64 0))⟩]) (.seq (.seq (.reg [⟨some q10, none, .fa 0 (.t q1)⟩, ⟨some q11, none, .ld1 (.t q10)⟩, ⟨some q12, none, .binI .lss (.t q11) (.c (.i .i64 1))⟩, ⟨some q13, none, .mov (.t q12)⟩, ⟨some q14, some (q13, false), .fa 0 (.t q1)⟩, ⟨some q15, some (q13, false), .ld1 (.t q14)⟩, ⟨some q16, some (q13, false), .binI .gtr (.t q15) (.c (.i .i64 40))⟩, ⟨some q17, none, .pick (.t q13) (.c (.b true)) (.t q16)⟩, ⟨some q18, none, .mov (.t q17)⟩, ⟨some q19, some (q18, false), .fa 1 (.t q1)⟩, ⟨some q20, some (q18, false), .ld1 (.t q19)⟩, ⟨some q21, some (q18, false), .binI .lss (.t q20) (.c (.i .i64 0))⟩, ⟨some q22, none, .pick (.t q18) (.c (.b true)) (.t q21)⟩, ⟨some q23, none, .mov (.t q22)⟩, ⟨some q24, some (q23, false), .fa 1 (.t q1)⟩, ⟨some q25, some (q23, false), .ld1 (.t q24)⟩, ⟨some q26, some (q23, false), .binI .gtr (.t q25) (.c (.i .i64 40))⟩, ⟨some q27, none, .pick (.t q23) (.c (.b true)) (.t q26)⟩, ⟨some q28, none, .mov (.t q27)⟩, ⟨some q29, some (q28, false), .fa 3 (.t q1)⟩, ⟨some q30, some (q28, false), .ld1 (.t q29)⟩, ⟨some q31, some (q28, false), .len (.t q30)⟩, ⟨some q32, some (q28, false), .binI .gtr (.t q31) (.c (.i .i64 60))⟩, ⟨some q33, none, .pick (.t q28) (.c (.b true)) (.t q32)⟩, ⟨some q34, none, .mov (.t q33)⟩, ⟨some q35, some (q34, false), .fa 4 (.t q1)⟩, ⟨some q36, some (q34, false), .ld1 (.t q35)⟩, ⟨some q37, some (q34, false), .len (.t q36)⟩, ⟨some q38, some (q34, false), .binI .gtr (.t q37) (.c (.i .i64 200))⟩, ⟨some q39, none, .pick (.t q34) (.c (.b true)) (.t q38)⟩]) (.cond (.t q39) (.seq (.reg [⟨some q2, none, .mov (.c (.i .i64 (.negSucc 0)))⟩, ⟨some q3, none, .mov (.c (.i .i64 3))⟩]) .ret) .skip)) K16_15)
def F16 : IFn := ⟨211, [.tmp q2, .tmp q3], B16⟩
theorem R16 : F16.res = [.tmp q2, .tmp q3] := rfl
theorem fits16 : FitsF Try.prog 16 F16 := cmpF_fits (pol := fun _ => false) Try.func16 (by kernel_rfl)
def B17 : IC := .seq (.reg [⟨some q1, none, .box (.t q0)⟩, ⟨some q2, none, .mov (.c (.b false))⟩]) (.seq (.reg [⟨some q6, none, .ldN 7 (.t q1)⟩, ⟨some q7, none, .call 23 [.t q6]⟩, ⟨some q5, none, .mov (.t q7)⟩, ⟨some q8, none, .ext (.t q5) 0⟩, ⟨some q9, none, .ext (.t q5) 1⟩, ⟨some q3, none, .mov (.t q8)⟩, ⟨some q4, none, .mov (.t q9)⟩]) (.seq (.reg [⟨some q10, none, .mov (.t q4)⟩, ⟨some q11, none, .binI .eql (.t q10) (.c (.i .i64 0))⟩, ⟨some q2, none, .mov (.t q11)⟩]) .ret))
def F17 : IFn := ⟨12, [.tmp q2], B17⟩
theorem R17 : F17.res = [.tmp q2] := rfl
theorem fits17 : FitsF Try.prog 17 F17 := cmpF_fits (pol := fun _ => false) Try.func17 (by kernel_rfl)
def K18_0 : IC := .reg [⟨some q26, none, .binI .add (.t q10) (.c (.i .i64 1))⟩, ⟨some q10, none, .mov (.t q26)⟩]
def K18_1 : IC := .seq (.block 1 (.seq (.reg [⟨some q12, none, .ixS 1 (.t q8) (.t q10)⟩, ⟨some q13, none, .ld1 (.t q12)⟩, ⟨some q7, none, .mov (.t q13)⟩]) (.seq (.reg [⟨some q14, none, .mov (.t q7)⟩, ⟨some q15, none, .binI .geq (.t q14) (.c (.i .i64 0))⟩, ⟨some q16, none, .mov (.t q15)⟩, ⟨some q17, some (q16, true), .mov (.t q0)⟩, ⟨some q18, some (q16, true), .mov (.t q7)⟩, ⟨some q19, some (q16, true), .ixS 1 (.t q17) (.t q18)⟩, ⟨some q20, some (q16, true), .ld1 (.t q19)⟩, ⟨some q21, some (q16, true), .un .not (.t q20)⟩, ⟨some q22, none, .pick (.t q16) (.t q21) (.c (.b false))⟩]) (.cond (.t q22) (.reg [⟨some q23, none, .mov (.t q0)⟩, ⟨some q24, none, .mov (.t q7)⟩, ⟨some q25, none, .ixS 1 (.t q23) (.t q24)⟩, ⟨none, none, .st 1 (.t q25) (.c (.b true))⟩, ⟨some q5, none, .mov (.c (.b true))⟩]) .skip)))) K18_0
def L18_2 : IC := .seq (.reg [⟨some q11, none, .binI .lss (.t q10) (.t q9)⟩]) (.seq (.cond (.t q11) .skip (.exit 0)) K18_1)
def K18_3 : IC := .seq (.reg [⟨some q27, none, .mov (.t q5)⟩, ⟨some q4, none, .mov (.t q27)⟩]) .ret
def B18 : IC := .seq (.reg [⟨some q4, none, .mov (.c (.b false))⟩]) (.seq (.reg [⟨some q5, none, .mov (.c (.b false))⟩]) (.seq (.seq (.reg [⟨some q8, none, .mov (.t q1)⟩, ⟨some q9, none, .len (.t q8)⟩, ⟨some q10, none, .mov (.c (.i .i64 0))⟩]) (.block 0 (.loop L18_2))) K18_3))
def F18 : IFn := ⟨28, [.tmp q4], B18⟩
theorem R18 : F18.res = [.tmp q4] := rfl
theorem fits18 : FitsF Try.prog 18 F18 := cmpF_fits (pol := fun _ => false) Try.func18 (by kernel_rfl)
def B19 : IC := .seq (.reg [⟨some q1, none, .box (.t q0)⟩, ⟨some q2, none, .mov (.c (.b false))⟩]) (.seq (.reg [⟨some q6, none, .ldN 7 (.t q1)⟩, ⟨some q7, none, .call 16 [.t q6]⟩, ⟨some q5, none, .mov (.t q7)⟩, ⟨some q8, none, .ext (.t q5) 0⟩, ⟨some q9, none, .ext (.t q5) 1⟩, ⟨some q3, none, .mov (.t q8)⟩, ⟨some q4, none, .mov (.t q9)⟩]) (.seq (.reg [⟨some q10, none, .mov (.t q4)⟩, ⟨some q11, none, .binI .eql (.t q10) (.c (.i .i64 0))⟩, ⟨some q2, none, .mov (.t q11)⟩]) .ret))
def F19 : IFn := ⟨12, [.tmp q2], B19⟩
theorem R19 : F19.res = [.tmp q2] := rfl
theorem fits19 : FitsF Try.prog 19 F19 := cmpF_fits (pol := fun _ => false) Try.func19 (by kernel_rfl)
def K20_0 : IC := .reg [⟨some q48, none, .binI .add (.t q16) (.c (.i .i64 1))⟩, ⟨some q16, none, .mov (.t q48)⟩]
def K20_1 : IC := .seq (.block 3 (.seq (.reg [⟨some q18, none, .ixS 3 (.t q14) (.t q16)⟩, ⟨some q19, none, .ldN 3 (.t q18)⟩, ⟨some q6, none, .new [.i .i64 0, .nils, .i .i64 0]⟩, ⟨none, none, .st 3 (.t q6) (.t q19)⟩]) (.seq (.reg [⟨some q20, none, .mov (.t q3)⟩, ⟨some q21, none, .fa 1 (.t q6)⟩, ⟨some q22, none, .ld1 (.t q21)⟩, ⟨some q23, none, .call 25 [.t q20, .t q22]⟩, ⟨some q7, none, .mov (.t q23)⟩]) (.seq (.reg [⟨some q24, none, .mov (.t q7)⟩, ⟨some q25, none, .binI .neq (.t q24) (.c (.i .i64 (.negSucc 0)))⟩, ⟨some q26, none, .mov (.t q25)⟩, ⟨some q27, some (q26, true), .mov (.t q3)⟩, ⟨some q28, some (q26, true), .fa 0 (.t q6)⟩, ⟨some q29, some (q26, true), .ld1 (.t q28)⟩, ⟨some q30, some (q26, true), .ixS 1 (.t q27) (.t q29)⟩, ⟨some q31, some (q26, true), .ld1 (.t q30)⟩, ⟨some q32, some (q26, true), .binI .eql (.t q31) (.c (.i .i64 (.negSucc 0)))⟩, ⟨some q33, some (q26, true), .mov (.t q32)⟩, ⟨some q34, some (q33, false), .mov (.t q7)⟩, ⟨some q35, some (q33, false), .mov (.t q3)⟩, ⟨some q36, some (q33, false), .fa 0 (.t q6)⟩, ⟨some q37, some (q33, false), .ld1 (.t q36)⟩, ⟨some q38, some (q33, false), .ixS 1 (.t q35) (.t q37)⟩, ⟨some q39, some (q33, false), .ld1 (.t q38)⟩, ⟨some q40, some (q33, false), .binI .lss (.t q34) (.t q39)⟩, ⟨some q41, some (q26, true), .pick (.t q33) (.c (.b true)) (.t q40)⟩, ⟨some q42, none, .pick (.t q26) (.t q41) (.c (.b false))⟩]) (.cond (.t q42) (.reg [⟨some q43, none, .mov (.t q3)⟩, ⟨some q44, none, .fa 0 (.t q6)⟩, ⟨some q45, none, .ld1 (.t q44)⟩, ⟨some q46, none, .mov (.t q7)⟩, ⟨some q47, none, .ixS 1 (.t q43) (.t q45)⟩, ⟨none, none, .st 1 (.t q47) (.t q46)⟩, ⟨some q4, none, .mov (.c (.b true))⟩]) .skip))))) K20_0
def L20_2 : IC := .seq (.reg [⟨some q17, none, .binI .lss (.t q16) (.t q15)⟩]) (.seq (.cond (.t q17) .skip (.exit 2)) K20_1)
def K20_3 : IC := .block 1 (.seq (.reg [⟨some q4, none, .mov (.c (.b false))⟩]) (.seq (.reg [⟨some q13, none, .fa 3 (.t q1)⟩, ⟨some q14, none, .ld1 (.t q13)⟩, ⟨some q15, none, .len (.t q14)⟩, ⟨some q16, none, .mov (.c (.i .i64 0))⟩]) (.block 2 (.loop L20_2))))
def L20_4 : IC := .seq (.seq (.reg [⟨some q12, none, .mov (.t q4)⟩]) (.cond (.t q12) .skip (.exit 0))) K20_3
def K20_5 : IC := .seq (.reg [⟨some q49, none, .mov (.t q3)⟩, ⟨some q2, none, .mov (.t q49)⟩]) .ret
def B20 : IC := .seq (.reg [⟨some q1, none, .box (.t q0)⟩, ⟨some q2, none, .mov (.c .nils)⟩]) (.seq (.reg [⟨some q8, none, .bsl 1 1 [.i .i64 0] [(0, 1, .c (.i .i64 (.negSucc 0)))]⟩, ⟨some q9, none, .fa 0 (.t q1)⟩, ⟨some q10, none, .ld1 (.t q9)⟩, ⟨some q11, none, .call 24 [.t q8, .t q10]⟩, ⟨some q3, none, .mov (.t q11)⟩]) (.seq (.seq (.reg [⟨some q4, none, .mov (.c (.b true))⟩]) (.block 0 (.loop L20_4))) K20_5))
def F20 : IFn := ⟨50, [.tmp q2], B20⟩
theorem R20 : F20.res = [.tmp q2] := rfl
theorem fits20 : FitsF Try.prog 20 F20 := cmpF_fits (pol := fun _ => false) Try.func20 (by kernel_rfl)
def K21_0 : IC := .reg [⟨some q8, none, .mov (.t q3)⟩, ⟨some q9, none, .binI .add (.t q8) (.c (.i .i64 1))⟩, ⟨some q3, none, .mov (.t q9)⟩]
def K21_1 : IC := .seq (.block 1 (.seq (.reg [⟨some q10, none, .mov (.t q0)⟩, ⟨some q11, none, .mov (.t q3)⟩, ⟨some q12, none, .ixS 1 (.t q10) (.t q11)⟩, ⟨some q13, none, .ld1 (.t q12)⟩, ⟨some q14, none, .binI .lss (.t q13) (.c (.i .i64 0))⟩, ⟨some q15, none, .mov (.t q14)⟩, ⟨some q16, some (q15, false), .mov (.t q0)⟩, ⟨some q17, some (q15, false), .mov (.t q3)⟩, ⟨some q18, some (q15, false), .ixS 1 (.t q16) (.t q17)⟩, ⟨some q19, some (q15, false), .ld1 (.t q18)⟩, ⟨some q20, some (q15, false), .binI .gtr (.t q19) (.c (.i .i64 100))⟩, ⟨some q21, none, .pick (.t q15) (.c (.b true)) (.t q20)⟩]) (.cond (.t q21) (.seq (.reg [⟨some q2, none, .mov (.c (.b false))⟩]) .ret) .skip))) K21_0
def L21_2 : IC := .seq (.seq (.reg [⟨some q4, none, .mov (.t q3)⟩, ⟨some q5, none, .mov (.t q0)⟩, ⟨some q6, none, .len (.t q5)⟩, ⟨some q7, none, .binI .lss (.t q4) (.t q6)⟩]) (.cond (.t q7) .skip (.exit 0))) K21_1
def K21_3 : IC := .seq (.reg [⟨some q2, none, .mov (.c (.b true))⟩]) .ret
def B21 : IC := .seq (.reg [⟨some q2, none, .mov (.c (.b false))⟩]) (.seq (.seq (.reg [⟨some q3, none, .mov (.c (.i .i64 0))⟩]) (.block 0 (.loop L21_2))) K21_3)
def F21 : IFn := ⟨22, [.tmp q2], B21⟩
theorem R21 : F21.res = [.tmp q2] := rfl
theorem fits21 : FitsF Try.prog 21 F21 := cmpF_fits (pol := fun _ => false) Try.func21 (by kernel_rfl)
def K22_0 : IC := .seq (.reg [⟨some q12, none, .mov (.t q1)⟩, ⟨some q13, none, .fa 0 (.t q2)⟩, ⟨some q14, none, .ld1 (.t q13)⟩, ⟨some q15, none, .binI .lss (.t q12) (.t q14)⟩, ⟨some q4, none, .mov (.t q15)⟩]) .ret
def B22 : IC := .seq (.reg [⟨some q2, none, .box (.t q0)⟩, ⟨some q4, none, .mov (.c (.b false))⟩]) (.seq (.seq (.reg [⟨some q5, none, .mov (.t q1)⟩, ⟨some q6, none, .binI .lss (.t q5) (.c (.i .i64 0))⟩]) (.cond (.t q6) (.seq (.reg [⟨some q7, none, .mov (.t q1)⟩, ⟨some q8, none, .binI .sub (.c (.i .i64 (.negSucc 0))) (.t q7)⟩, ⟨some q9, none, .fa 1 (.t q2)⟩, ⟨some q10, none, .ld1 (.t q9)⟩, ⟨some q11, none, .binI .lss (.t q8) (.t q10)⟩, ⟨some q4, none, .mov (.t q11)⟩]) .ret) .skip)) K22_0)
def F22 : IFn := ⟨16, [.tmp q4], B22⟩
theorem R22 : F22.res = [.tmp q4] := rfl
theorem fits22 : FitsF Try.prog 22 F22 := cmpF_fits (pol := fun _ => false) Try.func22 (by kernel_rfl)
def K23_0 : IC := .reg [⟨some q30, none, .binI .add (.t q18) (.c (.i .i64 1))⟩, ⟨some q18, none, .mov (.t q30)⟩]
def K23_1 : IC := .seq (.block 1 (.seq (.reg [⟨some q20, none, .mov (.t q18)⟩, ⟨some q21, none, .ixS 3 (.t q16) (.t q18)⟩, ⟨some q22, none, .ldN 3 (.t q21)⟩, ⟨some q6, none, .new [.i .i64 0, .nils, .i .i64 0]⟩, ⟨some q5, none, .mov (.t q20)⟩, ⟨none, none, .st 3 (.t q6) (.t q22)⟩]) (.seq (.reg [⟨some q23, none, .ldN 7 (.t q1)⟩, ⟨some q24, none, .ldN 3 (.t q6)⟩, ⟨some q25, none, .call 27 [.t q23, .t q24]⟩, ⟨some q7, none, .mov (.t q25)⟩]) (.seq (.reg [⟨some q26, none, .mov (.t q7)⟩, ⟨some q27, none, .binI .neq (.t q26) (.c (.i .i64 0))⟩]) (.cond (.t q27) (.seq (.reg [⟨some q28, none, .mov (.t q5)⟩, ⟨some q29, none, .mov (.t q7)⟩, ⟨some q2, none, .mov (.t q28)⟩, ⟨some q3, none, .mov (.t q29)⟩]) .ret) .skip))))) K23_0
def L23_2 : IC := .seq (.reg [⟨some q19, none, .binI .lss (.t q18) (.t q17)⟩]) (.seq (.cond (.t q19) .skip (.exit 0)) K23_1)
def K23_3 : IC := .reg [⟨some q42, none, .binI .add (.t q34) (.c (.i .i64 1))⟩, ⟨some q34, none, .mov (.t q42)⟩]
def K23_4 : IC := .seq (.block 3 (.seq (.reg [⟨some q36, none, .ixS 3 (.t q32) (.t q34)⟩, ⟨some q37, none, .ldN 3 (.t q36)⟩, ⟨some q9, none, .new [.i .i64 0, .i .i64 0, .i .i64 0]⟩, ⟨none, none, .st 3 (.t q9) (.t q37)⟩]) (.seq (.reg [⟨some q38, none, .ldN 7 (.t q1)⟩, ⟨some q39, none, .ldN 3 (.t q9)⟩, ⟨some q40, none, .call 28 [.t q38, .t q39]⟩, ⟨some q41, none, .un .not (.t q40)⟩]) (.cond (.t q41) (.seq (.reg [⟨some q2, none, .mov (.c (.i .i64 (.negSucc 0)))⟩, ⟨some q3, none, .mov (.c (.i .i64 6))⟩]) .ret) .skip)))) K23_3
def L23_5 : IC := .seq (.reg [⟨some q35, none, .binI .lss (.t q34) (.t q33)⟩]) (.seq (.cond (.t q35) .skip (.exit 2)) K23_4)
def K23_6 : IC := .seq (.reg [⟨some q2, none, .mov (.c (.i .i64 (.negSucc 0)))⟩, ⟨some q3, none, .mov (.c (.i .i64 0))⟩]) .ret
def K23_7 : IC := .seq (.seq (.reg [⟨some q31, none, .fa 4 (.t q1)⟩, ⟨some q32, none, .ld1 (.t q31)⟩, ⟨some q33, none, .len (.t q32)⟩, ⟨some q34, none, .mov (.c (.i .i64 0))⟩]) (.block 2 (.loop L23_5))) K23_6
def K23_8 : IC := .seq (.seq (.reg [⟨some q15, none, .fa 3 (.t q1)⟩, ⟨some q16, none, .ld1 (.t q15)⟩, ⟨some q17, none, .len (.t q16)⟩, ⟨some q18, none, .mov (.c (.i .i64 0))⟩]) (.block 0 (.loop L23_2))) K23_7
def B23 : IC := .seq (.reg [⟨some q1, none, .box (.t q0)⟩, ⟨some q2, none, .mov (.c (.i .i64 0))⟩, ⟨some q3, none, .mov (.c (.i .i64 0))⟩]) (.seq (.seq (.reg [⟨some q10, none, .ldN 7 (.t q1)⟩, ⟨some q11, none, .call 26 [.t q10]⟩, ⟨some q4, none, .mov (.t q11)⟩]) (.seq (.reg [⟨some q12, none, .mov (.t q4)⟩, ⟨some q13, none, .binI .neq (.t q12) (.c (.i .i64 0))⟩]) (.cond (.t q13) (.seq (.reg [⟨some q14, none, .mov (.t q4)⟩, ⟨some q2, none, .mov (.c (.i .i64 (.negSucc 0)))⟩, ⟨some q3, none, .mov (.t q14)⟩]) .ret) .skip))) K23_8)
def F23 : IFn := ⟨43, [.tmp q2, .tmp q3], B23⟩
theorem R23 : F23.res = [.tmp q2, .tmp q3] := rfl
theorem fits23 : FitsF Try.prog 23 F23 := cmpF_fits (pol := fun _ => false) Try.func23 (by kernel_rfl)
def K24_0 : IC := .block 1 (.dreg 0 [(⟨some q38, none, .mov (.t q8)⟩, .pu), (⟨some q39, none, .mov (.t q7)⟩, .pu), (⟨some q40, none, .mov (.t q8)⟩, .pu), (⟨some q41, none, .cut 1 (.t q39) (some (.t q40)) none⟩, .pu), (⟨some q42, none, .mov (.t q7)⟩, .pu), (⟨some q43, none, .mov (.t q8)⟩, .pu), (⟨some q44, none, .cut 1 (.t q42) none (some (.t q43))⟩, .pu), (⟨some q45, none, .wrm .cpy (.t q41) (.t q44) (.t q44)⟩, .md)] [⟨some q46, none, .binI .add (.t q38) (.t q45)⟩, ⟨some q8, none, .mov (.t q46)⟩] [])
def L24_1 : IC := .seq (.seq (.reg [⟨some q34, none, .mov (.t q8)⟩, ⟨some q35, none, .mov (.t q7)⟩, ⟨some q36, none, .len (.t q35)⟩, ⟨some q37, none, .binI .lss (.t q34) (.t q36)⟩]) (.cond (.t q37) .skip (.exit 0))) K24_0
def K24_2 : IC := .seq (.reg [⟨some q47, none, .mov (.t q7)⟩, ⟨some q4, none, .mov (.t q47)⟩]) .ret
def K24_3 : IC := .seq (.reg [⟨some q28, none, .mov (.t q6)⟩, ⟨some q29, none, .cvI .i64 (.t q28)⟩, ⟨some q30, none, .mks 1 8 [.i .i64 0] (.t q29) (.t q29)⟩, ⟨some q7, none, .mov (.t q30)⟩]) (.seq (.reg [⟨some q31, none, .mov (.t q7)⟩, ⟨some q32, none, .mov (.t q0)⟩, ⟨some q33, none, .wrm .cpy (.t q31) (.t q32) (.t q32)⟩, ⟨some q8, none, .mov (.t q33)⟩]) (.seq (.block 0 (.loop L24_1)) K24_2))
def K24_4 : IC := .seq (.reg [⟨some q13, none, .mov (.t q0)⟩, ⟨some q14, none, .len (.t q13)⟩, ⟨some q15, none, .cvI .u64 (.t q14)⟩, ⟨some q16, none, .mov (.t q1)⟩, ⟨some q17, none, .cvI .u64 (.t q16)⟩, ⟨some q18, none, .call 29 [.t q15, .t q17]⟩, ⟨some q12, none, .mov (.t q18)⟩, ⟨some q19, none, .ext (.t q12) 0⟩, ⟨some q20, none, .ext (.t q12) 1⟩, ⟨some q5, none, .mov (.t q19)⟩, ⟨some q6, none, .mov (.t q20)⟩]) (.seq (.seq (.reg [⟨some q21, none, .mov (.t q5)⟩, ⟨some q22, none, .binI .gtr (.t q21) (.c (.i .u64 0))⟩, ⟨some q23, none, .mov (.t q22)⟩, ⟨some q24, some (q23, false), .mov (.t q6)⟩, ⟨some q25, some (q23, false), .binI .gtr (.t q24) (.c (.i .u64 9223372036854775807))⟩, ⟨some q26, none, .pick (.t q23) (.c (.b true)) (.t q25)⟩]) (.cond (.t q26) (.reg [⟨some q27, none, .bad⟩, ⟨none, none, .bad⟩]) .skip)) K24_3)
def B24 : IC := .seq (.reg [⟨some q4, none, .mov (.c .nils)⟩]) (.seq (.seq (.reg [⟨some q9, none, .mov (.t q1)⟩, ⟨some q10, none, .binI .lss (.t q9) (.c (.i .i64 0))⟩]) (.cond (.t q10) (.reg [⟨some q11, none, .bad⟩, ⟨none, none, .bad⟩]) .skip)) K24_4)
def F24 : IFn := ⟨48, [.tmp q4], B24⟩
theorem R24 : F24.res = [.tmp q4] := rfl
theorem fits24 : FitsF Try.prog 24 F24 := cmpF_fits (pol := fun _ => false) Try.func24 (by kernel_rfl)
def K25_0 : IC := .reg [⟨some q23, none, .mov (.t q5)⟩, ⟨some q24, none, .mov (.t q8)⟩, ⟨some q25, none, .binI .add (.t q23) (.t q24)⟩, ⟨some q26, none, .mn (.t q25) (.c (.i .i64 1000000000))⟩, ⟨some q5, none, .mov (.t q26)⟩]
def K25_1 : IC := .seq (.seq (.reg [⟨some q21, none, .mov (.t q8)⟩, ⟨some q22, none, .binI .eql (.t q21) (.c (.i .i64 (.negSucc 0)))⟩]) (.cond (.t q22) (.seq (.reg [⟨some q4, none, .mov (.c (.i .i64 (.negSucc 0)))⟩]) .ret) .skip)) K25_0
def K25_2 : IC := .reg [⟨some q27, none, .binI .add (.t q11) (.c (.i .i64 1))⟩, ⟨some q11, none, .mov (.t q27)⟩]
def K25_3 : IC := .seq (.block 1 (.seq (.reg [⟨some q13, none, .ixS 1 (.t q9) (.t q11)⟩, ⟨some q14, none, .ld1 (.t q13)⟩, ⟨some q7, none, .mov (.t q14)⟩]) (.seq (.reg [⟨some q8, none, .mov (.c (.i .i64 1))⟩]) (.seq (.seq (.reg [⟨some q15, none, .mov (.t q7)⟩, ⟨some q16, none, .binI .geq (.t q15) (.c (.i .i64 0))⟩]) (.cond (.t q16) (.reg [⟨some q17, none, .mov (.t q0)⟩, ⟨some q18, none, .mov (.t q7)⟩, ⟨some q19, none, .ixS 1 (.t q17) (.t q18)⟩, ⟨some q20, none, .ld1 (.t q19)⟩, ⟨some q8, none, .mov (.t q20)⟩]) .skip)) K25_1)))) K25_2
def L25_4 : IC := .seq (.reg [⟨some q12, none, .binI .lss (.t q11) (.t q10)⟩]) (.seq (.cond (.t q12) .skip (.exit 0)) K25_3)
def K25_5 : IC := .seq (.reg [⟨some q28, none, .mov (.t q5)⟩, ⟨some q4, none, .mov (.t q28)⟩]) .ret
def B25 : IC := .seq (.reg [⟨some q4, none, .mov (.c (.i .i64 0))⟩]) (.seq (.reg [⟨some q5, none, .mov (.c (.i .i64 0))⟩]) (.seq (.seq (.reg [⟨some q9, none, .mov (.t q1)⟩, ⟨some q10, none, .len (.t q9)⟩, ⟨some q11, none, .mov (.c (.i .i64 0))⟩]) (.block 0 (.loop L25_4))) K25_5))
def F25 : IFn := ⟨29, [.tmp q4], B25⟩
theorem R25 : F25.res = [.tmp q4] := rfl
theorem fits25 : FitsF Try.prog 25 F25 := cmpF_fits (pol := fun _ => false) Try.func25 (by kernel_rfl)
def K26_0 : IC := .cond (.t q35) (.seq (.reg [⟨some q2, none, .mov (.c (.i .i64 1))⟩]) .ret) .skip
def K26_1 : IC := .cond (.t q3) (.seq (.reg [⟨some q2, none, .mov (.c (.i .i64 3))⟩]) .ret) (.seq (.reg [⟨some q29, none, .fa 2 (.t q1)⟩, ⟨some q30, none, .ld1 (.t q29)⟩, ⟨some q31, none, .fa 0 (.t q1)⟩, ⟨some q32, none, .ld1 (.t q31)⟩, ⟨some q33, none, .call 30 [.t q30, .t q32]⟩, ⟨some q34, none, .un .not (.t q33)⟩, ⟨some q28, none, .mov (.t q34)⟩]) (.cond (.t q28) (.seq (.reg [⟨some q2, none, .mov (.c (.i .i64 6))⟩]) .ret) (.seq (.seq (.reg [⟨some q36, none, .fa 5 (.t q1)⟩, ⟨some q37, none, .ld1 (.t q36)⟩, ⟨some q38, none, .fa 3 (.t q1)⟩, ⟨some q39, none, .ld1 (.t q38)⟩, ⟨some q40, none, .len (.t q39)⟩, ⟨some q41, none, .call 31 [.t q37, .t q40]⟩, ⟨some q42, none, .un .not (.t q41)⟩, ⟨some q35, none, .mov (.t q42)⟩]) (.cond (.t q35) .skip (.reg [⟨some q43, none, .fa 6 (.t q1)⟩, ⟨some q44, none, .ld1 (.t q43)⟩, ⟨some q45, none, .fa 1 (.t q1)⟩, ⟨some q46, none, .ld1 (.t q45)⟩, ⟨some q47, none, .call 31 [.t q44, .t q46]⟩, ⟨some q48, none, .un .not (.t q47)⟩, ⟨some q35, none, .mov (.t q48)⟩]))) K26_0)))
def K26_2 : IC := .seq (.reg [⟨some q2, none, .mov (.c (.i .i64 0))⟩]) .ret
def B26 : IC := .seq (.reg [⟨some q1, none, .box (.t q0)⟩, ⟨some q2, none, .mov (.c (.i .i64 0))⟩]) (.seq (.block 0 (.seq (.seq (.reg [⟨some q4, none, .fa 0 (.t q1)⟩, ⟨some q5, none, .ld1 (.t q4)⟩, ⟨some q6, none, .binI .lss (.t q5) (.c (.i .i64 1))⟩, ⟨some q7, none, .mov (.t q6)⟩, ⟨some q8, some (q7, false), .fa 0 (.t q1)⟩, ⟨some q9, some (q7, false), .ld1 (.t q8)⟩, ⟨some q10, some (q7, false), .binI .gtr (.t q9) (.c (.i .i64 40))⟩, ⟨some q11, none, .pick (.t q7) (.c (.b true)) (.t q10)⟩, ⟨some q3, none, .mov (.t q11)⟩]) (.cond (.t q3) .skip (.seq (.reg [⟨some q12, none, .fa 1 (.t q1)⟩, ⟨some q13, none, .ld1 (.t q12)⟩, ⟨some q14, none, .binI .lss (.t q13) (.c (.i .i64 0))⟩, ⟨some q15, none, .mov (.t q14)⟩, ⟨some q16, some (q15, false), .fa 1 (.t q1)⟩, ⟨some q17, some (q15, false), .ld1 (.t q16)⟩, ⟨some q18, some (q15, false), .binI .gtr (.t q17) (.c (.i .i64 40))⟩, ⟨some q19, none, .pick (.t q15) (.c (.b true)) (.t q18)⟩, ⟨some q3, none, .mov (.t q19)⟩]) (.cond (.t q3) .skip (.seq (.reg [⟨some q20, none, .fa 3 (.t q1)⟩, ⟨some q21, none, .ld1 (.t q20)⟩, ⟨some q22, none, .len (.t q21)⟩, ⟨some q23, none, .binI .gtr (.t q22) (.c (.i .i64 60))⟩, ⟨some q3, none, .mov (.t q23)⟩]) (.cond (.t q3) .skip (.reg [⟨some q24, none, .fa 4 (.t q1)⟩, ⟨some q25, none, .ld1 (.t q24)⟩, ⟨some q26, none, .len (.t q25)⟩, ⟨some q27, none, .binI .gtr (.t q26) (.c (.i .i64 200))⟩, ⟨some q3, none, .mov (.t q27)⟩]))))))) K26_1)) K26_2)
def F26 : IFn := ⟨49, [.tmp q2], B26⟩
theorem R26 : F26.res = [.tmp q2] := rfl
theorem fits26 : FitsF Try.prog 26 F26 := cmpF_fits (pol := fun _ => false) Try.func26 (by kernel_rfl)
def K27_0 : IC := .cond (.t q7) (.seq (.reg [⟨some q4, none, .mov (.c (.i .i64 6))⟩]) .ret) (.seq (.reg [⟨some q19, none, .fa 1 (.t q3)⟩, ⟨some q20, none, .ld1 (.t q19)⟩, ⟨some q21, none, .len (.t q20)⟩, ⟨some q22, none, .binI .gtr (.t q21) (.c (.i .i64 8))⟩, ⟨some q18, none, .mov (.t q22)⟩]) (.cond (.t q18) (.seq (.reg [⟨some q4, none, .mov (.c (.i .i64 3))⟩]) .ret) (.seq (.reg [⟨some q24, none, .fa 2 (.t q3)⟩, ⟨some q25, none, .ld1 (.t q24)⟩, ⟨some q26, none, .binI .lss (.t q25) (.c (.i .i64 (.negSucc 999)))⟩, ⟨some q27, none, .mov (.t q26)⟩, ⟨some q28, some (q27, false), .fa 2 (.t q3)⟩, ⟨some q29, some (q27, false), .ld1 (.t q28)⟩, ⟨some q30, some (q27, false), .binI .gtr (.t q29) (.c (.i .i64 1000))⟩, ⟨some q31, none, .pick (.t q27) (.c (.b true)) (.t q30)⟩, ⟨some q23, none, .mov (.t q31)⟩]) (.cond (.t q23) (.seq (.reg [⟨some q4, none, .mov (.c (.i .i64 1))⟩]) .ret) .skip))))
def K27_1 : IC := .seq (.reg [⟨some q4, none, .mov (.c (.i .i64 0))⟩]) .ret
def B27 : IC := .seq (.reg [⟨some q2, none, .box (.t q0)⟩, ⟨some q3, none, .box (.t q1)⟩, ⟨some q4, none, .mov (.c (.i .i64 0))⟩]) (.seq (.reg [⟨some q6, none, .mkf (.func 32) [] [.t q2]⟩, ⟨some q5, none, .mov (.t q6)⟩]) (.seq (.block 0 (.seq (.seq (.reg [⟨some q8, none, .fa 0 (.t q3)⟩, ⟨some q9, none, .ld1 (.t q8)⟩, ⟨some q10, none, .fa 0 (.t q2)⟩, ⟨some q11, none, .ld1 (.t q10)⟩, ⟨some q12, none, .call 30 [.t q9, .t q11]⟩, ⟨some q13, none, .un .not (.t q12)⟩, ⟨some q7, none, .mov (.t q13)⟩]) (.cond (.t q7) .skip (.reg [⟨some q14, none, .fa 1 (.t q3)⟩, ⟨some q15, none, .ld1 (.t q14)⟩, ⟨some q16, none, .mov (.t q5)⟩, ⟨some q17, none, .call 34 [.t q15, .t q16]⟩, ⟨some q7, none, .mov (.t q17)⟩]))) K27_0)) K27_1))
def F27 : IFn := ⟨32, [.tmp q4], B27⟩
theorem R27 : F27.res = [.tmp q4] := rfl
theorem fits27 : FitsF Try.prog 27 F27 := cmpF_fits (pol := fun _ => false) Try.func27 (by kernel_rfl)
def K28_0 : IC := .seq (.reg [⟨some q22, none, .fa 3 (.t q2)⟩, ⟨some q23, none, .ld1 (.t q22)⟩, ⟨some q24, none, .ixA 3 1 (.t q3) (.c (.i .i64 0))⟩, ⟨some q25, none, .ld1 (.t q24)⟩, ⟨some q26, none, .ixS 3 (.t q23) (.t q25)⟩, ⟨some q27, none, .fa 1 (.t q26)⟩, ⟨some q28, none, .ld1 (.t q27)⟩, ⟨some q5, none, .mov (.t q28)⟩]) (.seq (.dreg 0 [(⟨some q29, none, .ixA 3 1 (.t q3) (.c (.i .i64 1))⟩, .pu), (⟨some q30, none, .ld1 (.t q29)⟩, .rd 0), (⟨some q31, none, .mov (.t q5)⟩, .pu), (⟨some q32, none, .len (.t q31)⟩, .pu), (⟨some q33, none, .call 30 [.t q30, .t q32]⟩, .md), (⟨some q34, none, .mov (.t q33)⟩, .pu), (⟨some q35, some (q34, true), .mov (.t q5)⟩, .pu), (⟨some q36, some (q34, true), .ixA 3 1 (.t q3) (.c (.i .i64 1))⟩, .pu), (⟨some q37, some (q34, true), .ld1 (.t q36)⟩, .rd 0), (⟨some q38, some (q34, true), .ixS 1 (.t q35) (.t q37)⟩, .pu), (⟨some q39, some (q34, true), .ld1 (.t q38)⟩, .rd 0), (⟨some q40, some (q34, true), .fa 3 (.t q2)⟩, .pu), (⟨some q41, some (q34, true), .ld1 (.t q40)⟩, .rd 0), (⟨some q42, some (q34, true), .ixA 3 1 (.t q3) (.c (.i .i64 2))⟩, .pu), (⟨some q43, some (q34, true), .ld1 (.t q42)⟩, .rd 0), (⟨some q44, some (q34, true), .ixS 3 (.t q41) (.t q43)⟩, .pu), (⟨some q45, some (q34, true), .fa 0 (.t q44)⟩, .pu), (⟨some q46, some (q34, true), .ld1 (.t q45)⟩, .rd 0)] [⟨some q47, some (q34, true), .binI .eql (.t q39) (.t q46)⟩, ⟨some q48, none, .pick (.t q34) (.t q47) (.c (.b false))⟩, ⟨some q4, none, .mov (.t q48)⟩] []) .ret)
def B28 : IC := .seq (.reg [⟨some q2, none, .box (.t q0)⟩, ⟨some q3, none, .box (.t q1)⟩, ⟨some q4, none, .mov (.c (.b false))⟩]) (.seq (.seq (.reg [⟨some q6, none, .ixA 3 1 (.t q3) (.c (.i .i64 0))⟩, ⟨some q7, none, .ld1 (.t q6)⟩, ⟨some q8, none, .fa 3 (.t q2)⟩, ⟨some q9, none, .ld1 (.t q8)⟩, ⟨some q10, none, .len (.t q9)⟩, ⟨some q11, none, .call 30 [.t q7, .t q10]⟩, ⟨some q12, none, .un .not (.t q11)⟩, ⟨some q13, none, .mov (.t q12)⟩, ⟨some q14, some (q13, false), .ixA 3 1 (.t q3) (.c (.i .i64 2))⟩, ⟨some q15, some (q13, false), .ld1 (.t q14)⟩, ⟨some q16, some (q13, false), .fa 3 (.t q2)⟩, ⟨some q17, some (q13, false), .ld1 (.t q16)⟩, ⟨some q18, some (q13, false), .len (.t q17)⟩, ⟨some q19, some (q13, false), .call 30 [.t q15, .t q18]⟩, ⟨some q20, some (q13, false), .un .not (.t q19)⟩, ⟨some q21, none, .pick (.t q13) (.c (.b true)) (.t q20)⟩]) (.cond (.t q21) (.seq (.reg [⟨some q4, none, .mov (.c (.b false))⟩]) .ret) .skip)) K28_0)
def F28 : IFn := ⟨49, [.tmp q4], B28⟩
theorem R28 : F28.res = [.tmp q4] := rfl
theorem fits28 : FitsF Try.prog 28 F28 := cmpF_fits (pol := fun _ => false) Try.func28 (by kernel_rfl)
def K29_0 : IC := .seq (.reg [⟨some q23, none, .mov (.t q0)⟩, ⟨some q24, none, .mov (.t q1)⟩, ⟨some q25, none, .call 36 [.t q23, .t q24]⟩, ⟨some q22, none, .mov (.t q25)⟩, ⟨some q26, none, .ext (.t q22) 0⟩, ⟨some q27, none, .ext (.t q22) 1⟩, ⟨some q8, none, .mov (.t q26)⟩, ⟨some q9, none, .mov (.t q27)⟩]) (.seq (.reg [⟨some q28, none, .mov (.t q8)⟩, ⟨some q29, none, .mov (.t q9)⟩, ⟨some q4, none, .mov (.t q28)⟩, ⟨some q5, none, .mov (.t q29)⟩]) .ret)
def B29 : IC := .seq (.reg [⟨some q4, none, .mov (.c (.i .u64 0))⟩, ⟨some q5, none, .mov (.c (.i .u64 0))⟩]) (.seq (.cond (.c (.b false)) (.seq (.reg [⟨some q11, none, .mov (.t q0)⟩, ⟨some q12, none, .cvI .u32 (.t q11)⟩, ⟨some q13, none, .mov (.t q1)⟩, ⟨some q14, none, .cvI .u32 (.t q13)⟩, ⟨some q15, none, .call 35 [.t q12, .t q14]⟩, ⟨some q10, none, .mov (.t q15)⟩, ⟨some q16, none, .ext (.t q10) 0⟩, ⟨some q17, none, .ext (.t q10) 1⟩, ⟨some q6, none, .mov (.t q16)⟩, ⟨some q7, none, .mov (.t q17)⟩]) (.seq (.reg [⟨some q18, none, .mov (.t q6)⟩, ⟨some q19, none, .cvI .u64 (.t q18)⟩, ⟨some q20, none, .mov (.t q7)⟩, ⟨some q21, none, .cvI .u64 (.t q20)⟩, ⟨some q4, none, .mov (.t q19)⟩, ⟨some q5, none, .mov (.t q21)⟩]) .ret)) .skip) K29_0)
def F29 : IFn := ⟨30, [.tmp q4, .tmp q5], B29⟩
theorem R29 : F29.res = [.tmp q4, .tmp q5] := rfl
theorem fits29 : FitsF Try.prog 29 F29 := cmpF_fits (pol := fun _ => false) Try.func29 (by kernel_rfl)
def B30 : IC := .seq (.reg [⟨some q4, none, .mov (.c (.b false))⟩]) (.seq (.reg [⟨some q5, none, .mov (.t q0)⟩, ⟨some q6, none, .binI .geq (.t q5) (.c (.i .i64 0))⟩, ⟨some q7, none, .mov (.t q6)⟩, ⟨some q8, some (q7, true), .mov (.t q0)⟩, ⟨some q9, some (q7, true), .mov (.t q1)⟩, ⟨some q10, some (q7, true), .binI .lss (.t q8) (.t q9)⟩, ⟨some q11, none, .pick (.t q7) (.t q10) (.c (.b false))⟩, ⟨some q4, none, .mov (.t q11)⟩]) .ret)
def F30 : IFn := ⟨12, [.tmp q4], B30⟩
theorem R30 : F30.res = [.tmp q4] := rfl
theorem fits30 : FitsF Try.prog 30 F30 := cmpF_fits (pol := fun _ => false) Try.func30 (by kernel_rfl)
def B31 : IC := .seq (.reg [⟨some q4, none, .mov (.c (.b false))⟩]) (.seq (.reg [⟨some q5, none, .mov (.c (.fn (.func 37) [] []))⟩]) (.seq (.reg [⟨some q6, none, .mov (.t q0)⟩, ⟨some q7, none, .len (.t q6)⟩, ⟨some q8, none, .mov (.t q1)⟩, ⟨some q9, none, .binI .leq (.t q7) (.t q8)⟩, ⟨some q10, none, .mov (.t q9)⟩, ⟨some q11, some (q10, true), .mov (.t q0)⟩, ⟨some q12, some (q10, true), .mov (.t q5)⟩, ⟨some q13, some (q10, true), .call 34 [.t q11, .t q12]⟩, ⟨some q14, some (q10, true), .un .not (.t q13)⟩, ⟨some q15, none, .pick (.t q10) (.t q14) (.c (.b false))⟩, ⟨some q4, none, .mov (.t q15)⟩]) .ret))
def F31 : IFn := ⟨16, [.tmp q4], B31⟩
theorem R31 : F31.res = [.tmp q4] := rfl
theorem fits31 : FitsF Try.prog 31 F31 := cmpF_fits (pol := fun _ => false) Try.func31 (by kernel_rfl)
def B32 : IC := .seq (.reg [⟨some q3, none, .mov (.c (.b false))⟩]) (.seq (.reg [⟨some q4, none, .ldN 7 (.t q1)⟩, ⟨some q5, none, .mov (.t q0)⟩, ⟨some q6, none, .call 33 [.t q4, .t q5]⟩, ⟨some q7, none, .un .not (.t q6)⟩, ⟨some q3, none, .mov (.t q7)⟩]) .ret)
def F32 : IFn := ⟨8, [.tmp q3], B32⟩
theorem R32 : F32.res = [.tmp q3] := rfl
theorem fits32 : FitsF Try.prog 32 F32 := cmpF_fits (pol := fun _ => false) Try.func32 (by kernel_rfl)
def K33_0 : IC := .seq (.reg [⟨some q12, none, .mov (.t q1)⟩, ⟨some q13, none, .fa 0 (.t q2)⟩, ⟨some q14, none, .ld1 (.t q13)⟩, ⟨some q15, none, .call 30 [.t q12, .t q14]⟩, ⟨some q4, none, .mov (.t q15)⟩]) .ret
def B33 : IC := .seq (.reg [⟨some q2, none, .box (.t q0)⟩, ⟨some q4, none, .mov (.c (.b false))⟩]) (.seq (.seq (.reg [⟨some q5, none, .mov (.t q1)⟩, ⟨some q6, none, .binI .lss (.t q5) (.c (.i .i64 0))⟩]) (.cond (.t q6) (.seq (.reg [⟨some q7, none, .mov (.t q1)⟩, ⟨some q8, none, .binI .sub (.c (.i .i64 (.negSucc 0))) (.t q7)⟩, ⟨some q9, none, .fa 1 (.t q2)⟩, ⟨some q10, none, .ld1 (.t q9)⟩, ⟨some q11, none, .call 30 [.t q8, .t q10]⟩, ⟨some q4, none, .mov (.t q11)⟩]) .ret) .skip)) K33_0)
def F33 : IFn := ⟨16, [.tmp q4], B33⟩
theorem R33 : F33.res = [.tmp q4] := rfl
theorem fits33 : FitsF Try.prog 33 F33 := cmpF_fits (pol := fun _ => false) Try.func33 (by kernel_rfl)
def B34 : IC := .seq (.reg [⟨some q4, none, .mov (.c (.b false))⟩]) (.seq (.reg [⟨some q5, none, .mov (.t q0)⟩, ⟨some q6, none, .mov (.t q1)⟩, ⟨some q7, none, .call 38 [.t q5, .t q6]⟩, ⟨some q8, none, .binI .geq (.t q7) (.c (.i .i64 0))⟩, ⟨some q4, none, .mov (.t q8)⟩]) .ret)
def F34 : IFn := ⟨9, [.tmp q4], B34⟩
theorem R34 : F34.res = [.tmp q4] := rfl
theorem fits34 : FitsF Try.prog 34 F34 := cmpF_fits (pol := fun _ => false) Try.func34 (by kernel_rfl)
def B35 : IC := .seq (.reg [⟨some q4, none, .mov (.c (.i .u32 0))⟩, ⟨some q5, none, .mov (.c (.i .u32 0))⟩]) (.seq (.reg [⟨some q7, none, .mov (.t q0)⟩, ⟨some q8, none, .cvI .u64 (.t q7)⟩, ⟨some q9, none, .mov (.t q1)⟩, ⟨some q10, none, .cvI .u64 (.t q9)⟩, ⟨some q11, none, .binI .mul (.t q8) (.t q10)⟩, ⟨some q6, none, .mov (.t q11)⟩]) (.seq (.reg [⟨some q12, none, .mov (.t q6)⟩, ⟨some q13, none, .binI .shr (.t q12) (.c (.i .u64 32))⟩, ⟨some q14, none, .cvI .u32 (.t q13)⟩, ⟨some q15, none, .mov (.t q6)⟩, ⟨some q16, none, .cvI .u32 (.t q15)⟩, ⟨some q4, none, .mov (.t q14)⟩, ⟨some q5, none, .mov (.t q16)⟩]) .ret))
def F35 : IFn := ⟨17, [.tmp q4, .tmp q5], B35⟩
theorem R35 : F35.res = [.tmp q4, .tmp q5] := rfl
theorem fits35 : FitsF Try.prog 35 F35 := cmpF_fits (pol := fun _ => false) Try.func35 (by kernel_rfl)
def B36 : IC := .seq (.reg [⟨some q4, none, .mov (.c (.i .u64 0))⟩, ⟨some q5, none, .mov (.c (.i .u64 0))⟩]) (.seq (.reg [⟨some q14, none, .mov (.t q0)⟩, ⟨some q15, none, .binI .and (.t q14) (.c (.i .u64 4294967295))⟩, ⟨some q6, none, .mov (.t q15)⟩]) (.seq (.reg [⟨some q16, none, .mov (.t q0)⟩, ⟨some q17, none, .binI .shr (.t q16) (.c (.i .u64 32))⟩, ⟨some q7, none, .mov (.t q17)⟩]) (.seq (.reg [⟨some q18, none, .mov (.t q1)⟩, ⟨some q19, none, .binI .and (.t q18) (.c (.i .u64 4294967295))⟩, ⟨some q8, none, .mov (.t q19)⟩]) (.seq (.reg [⟨some q20, none, .mov (.t q1)⟩, ⟨some q21, none, .binI .shr (.t q20) (.c (.i .u64 32))⟩, ⟨some q9, none, .mov (.t q21)⟩]) (.seq (.reg [⟨some q22, none, .mov (.t q6)⟩, ⟨some q23, none, .mov (.t q8)⟩, ⟨some q24, none, .binI .mul (.t q22) (.t q23)⟩, ⟨some q10, none, .mov (.t q24)⟩]) (.seq (.reg [⟨some q25, none, .mov (.t q7)⟩, ⟨some q26, none, .mov (.t q8)⟩, ⟨some q27, none, .binI .mul (.t q25) (.t q26)⟩, ⟨some q28, none, .mov (.t q10)⟩, ⟨some q29, none, .binI .shr (.t q28) (.c (.i .u64 32))⟩, ⟨some q30, none, .binI .add (.t q27) (.t q29)⟩, ⟨some q11, none, .mov (.t q30)⟩]) (.seq (.reg [⟨some q31, none, .mov (.t q11)⟩, ⟨some q32, none, .binI .and (.t q31) (.c (.i .u64 4294967295))⟩, ⟨some q12, none, .mov (.t q32)⟩]) (.seq (.reg [⟨some q33, none, .mov (.t q11)⟩, ⟨some q34, none, .binI .shr (.t q33) (.c (.i .u64 32))⟩, ⟨some q13, none, .mov (.t q34)⟩]) (.seq (.reg [⟨some q35, none, .mov (.t q12)⟩, ⟨some q36, none, .mov (.t q6)⟩, ⟨some q37, none, .mov (.t q9)⟩, ⟨some q38, none, .binI .mul (.t q36) (.t q37)⟩, ⟨some q39, none, .binI .add (.t q35) (.t q38)⟩, ⟨some q12, none, .mov (.t q39)⟩]) (.seq (.reg [⟨some q40, none, .mov (.t q7)⟩, ⟨some q41, none, .mov (.t q9)⟩, ⟨some q42, none, .binI .mul (.t q40) (.t q41)⟩, ⟨some q43, none, .mov (.t q13)⟩, ⟨some q44, none, .binI .add (.t q42) (.t q43)⟩, ⟨some q45, none, .mov (.t q12)⟩, ⟨some q46, none, .binI .shr (.t q45) (.c (.i .u64 32))⟩, ⟨some q47, none, .binI .add (.t q44) (.t q46)⟩, ⟨some q4, none, .mov (.t q47)⟩]) (.seq (.reg [⟨some q48, none, .mov (.t q0)⟩, ⟨some q49, none, .mov (.t q1)⟩, ⟨some q50, none, .binI .mul (.t q48) (.t q49)⟩, ⟨some q5, none, .mov (.t q50)⟩]) .ret)))))))))))
def F36 : IFn := ⟨51, [.tmp q4, .tmp q5], B36⟩
theorem R36 : F36.res = [.tmp q4, .tmp q5] := rfl
theorem fits36 : FitsF Try.prog 36 F36 := cmpF_fits (pol := fun _ => false) Try.func36 (by kernel_rfl)
def B37 : IC := .seq (.reg [⟨some q2, none, .mov (.c (.b false))⟩]) (.seq (.reg [⟨some q3, none, .mov (.t q0)⟩, ⟨some q4, none, .call 30 [.t q3, .c (.i .i64 101)]⟩, ⟨some q5, none, .un .not (.t q4)⟩, ⟨some q2, none, .mov (.t q5)⟩]) .ret)
def F37 : IFn := ⟨6, [.tmp q2], B37⟩
theorem R37 : F37.res = [.tmp q2] := rfl
theorem fits37 : FitsF Try.prog 37 F37 := cmpF_fits (pol := fun _ => false) Try.func37 (by kernel_rfl)
def K38_0 : IC := .reg [⟨some q18, none, .binI .add (.t q8) (.c (.i .i64 1))⟩, ⟨some q8, none, .mov (.t q18)⟩]
def K38_1 : IC := .seq (.block 1 (.seq (.reg [⟨some q10, none, .mov (.t q8)⟩, ⟨some q5, none, .mov (.t q10)⟩]) (.seq (.reg [⟨some q11, none, .mov (.t q1)⟩, ⟨some q12, none, .mov (.t q0)⟩, ⟨some q13, none, .mov (.t q5)⟩, ⟨some q14, none, .ixS 1 (.t q12) (.t q13)⟩, ⟨some q15, none, .ld1 (.t q14)⟩, ⟨some q16, none, .callv (.t q11) [.t q15]⟩]) (.cond (.t q16) (.seq (.reg [⟨some q17, none, .mov (.t q5)⟩, ⟨some q4, none, .mov (.t q17)⟩]) .ret) .skip)))) K38_0
def L38_2 : IC := .seq (.reg [⟨some q9, none, .binI .lss (.t q8) (.t q7)⟩]) (.seq (.cond (.t q9) .skip (.exit 0)) K38_1)
def K38_3 : IC := .seq (.reg [⟨some q4, none, .mov (.c (.i .i64 (.negSucc 0)))⟩]) .ret
def B38 : IC := .seq (.reg [⟨some q4, none, .mov (.c (.i .i64 0))⟩]) (.seq (.seq (.reg [⟨some q6, none, .mov (.t q0)⟩, ⟨some q7, none, .len (.t q6)⟩, ⟨some q8, none, .mov (.c (.i .i64 0))⟩]) (.block 0 (.loop L38_2))) K38_3)
def F38 : IFn := ⟨19, [.tmp q4], B38⟩
theorem R38 : F38.res = [.tmp q4] := rfl
theorem fits38 : FitsF Try.prog 38 F38 := cmpF_fits (pol := fun _ => false) Try.func38 (by kernel_rfl)
end Go.Proofs.Ytlmmmchkhaidjaa.K
set_option maxRecDepth 100000
namespace Go.Proofs.Ytlmmmchkhaidjaa.Ev
open Go
def fnsL : List (Nat × IFn) := [(6, K.F6), (9, K.F9), (14, K.F14), (17, K.F17), (18, K.F18), (20, K.F20), (23, K.F23), (24, K.F24), (25, K.F25), (26, K.F26), (27, K.F27), (28, K.F28), (29, K.F29), (30, K.F30), (31, K.F31), (32, K.F32), (33, K.F33), (34, K.F34), (35, K.F35), (36, K.F36), (37, K.F37), (38, K.F38)]
def fnsT : T IFn := ⟨⟨none, none, none, none, none, none, some K.F6, none, none, some K.F9, none, none, none, none, some K.F14, none⟩, some ⟨w1, ⟨none, some K.F17, some K.F18, none, some K.F20, none, none, some K.F23, some K.F24, some K.F25, some K.F26, some K.F27, some K.F28, some K.F29, some K.F30, some K.F31⟩, ⟨some K.F32, some K.F33, some K.F34, some K.F35, some K.F36, some K.F37, some K.F38, none, none, none, none, none, none, none, none, none⟩, w1, w1, w1, w1, w1, w1, w1, w1, w1, w1, w1, w1, w1⟩, none, none, .lf⟩
theorem fnsT_eq : fnsT = mkT fnsL := by kernel_rfl
noncomputable def fns (g : Nat) : Option IFn := idK fnsT g
theorem fns_ok : ∀ g fn, fns g = some fn → FitsF Try.prog g fn :=
  fits_of fnsT_eq fun x hx => by
    unfold fnsL at hx
    simp only [List.mem_cons, List.not_mem_nil, or_false] at hx
    rcases hx with rfl | rfl | rfl | rfl | rfl | rfl | rfl | rfl | rfl | rfl | rfl | rfl | rfl | rfl | rfl | rfl | rfl | rfl | rfl | rfl | rfl | rfl
    · exact K.fits6
    · exact K.fits9
    · exact K.fits14
    · exact K.fits17
    · exact K.fits18
    · exact K.fits20
    · exact K.fits23
    · exact K.fits24
    · exact K.fits25
    · exact K.fits26
    · exact K.fits27
    · exact K.fits28
    · exact K.fits29
    · exact K.fits30
    · exact K.fits31
    · exact K.fits32
    · exact K.fits33
    · exact K.fits34
    · exact K.fits35
    · exact K.fits36
    · exact K.fits37
    · exact K.fits38
end Go.Proofs.Ytlmmmchkhaidjaa.Ev
set_option linter.unusedSimpArgs false
namespace Go.Proofs.Ytlmmmchkhaidjaa
open Go Go.RowKit Kit Ev
set_option maxRecDepth 1000000
noncomputable def gaveB (b : Bool) : Option (MV × MH) → Bool
  | some (.b c, _) => c == b
  | _ => false
theorem gave_some {b : Bool} {r : Option (MV × MH)} (h : gaveB b r = true) : ∃ M', r = some (.b b, M') := by
  unfold gaveB at h
  split at h
  · rename_i c M'
    simp only [beq_iff_eq] at h
    subst h
    exact ⟨M', rfl⟩
  · cases h
theorem globs : ∀ g, gtab g = none := fun _ => rfl
theorem openedz (w : World) : Opened Try.prog w Bz Mz := opened_none globs
theorem mixed : Try.prog.follows .mixedOrders = true := by kernel_rfl
theorem alive_of {g : Nat} (hr : gaveB true (callF fns 300 g [] Mz) = true) (w : World) : Calls Try.prog g #[] w fun e w' => e = .returned (.bool true) ∧ Kept w w' := by
  obtain ⟨M', h⟩ := gave_some hr
  have hO := openedz w
  refine (calls_run_at (P := Try.prog) mixed fns_ok 300 g [] [] (.b true) Bz Mz M' w hO.glob hO.inv hO.ro h (DenL.nil _)).mono ?_
  rintro e w' ⟨v, β', rfl, hd, hk⟩
  cases hd
  exact ⟨rfl, hk⟩
theorem run6 : gaveB true (callF fns 300 6 [] Mz) = true := by kernel_rfl
theorem sem_alive6 : SemF Try.prog 6 Ftrue := by
  obtain ⟨c, hc⟩ : ∃ c, Try.f6.body = some c := Option.isSome_iff_exists.1 (by kernel_rfl)
  exact sem_true Try.func6 (by kernel_rfl) hc (alive_of run6)
end Go.Proofs.Ytlmmmchkhaidjaa
set_option maxRecDepth 100000
namespace Go.Proofs.Ytlmmmchkhaidjaa.K
open Go Ev
abbrev G6 : IFn := Ftrue
theorem gfits6 : FitsF Try.prog 6 G6 := .inr sem_alive6
def fnsL : List (Nat × IFn) := [(4, F4), (6, G6), (7, F7), (8, F8), (9, F9), (10, F10), (11, F11), (12, F12), (13, F13), (14, F14), (15, F15), (16, F16), (17, F17), (18, F18), (19, F19), (20, F20), (21, F21), (22, F22), (23, F23), (24, F24), (25, F25), (26, F26), (27, F27), (28, F28), (29, F29), (30, F30), (31, F31), (32, F32), (33, F33), (34, F34), (35, F35), (36, F36), (37, F37), (38, F38)]
def fnsT : T IFn := ⟨⟨none, none, none, none, some F4, none, some G6, some F7, some F8, some F9, some F10, some F11, some F12, some F13, some F14, some F15⟩, some ⟨w1, ⟨some F16, some F17, some F18, some F19, some F20, some F21, some F22, some F23, some F24, some F25, some F26, some F27, some F28, some F29, some F30, some F31⟩, ⟨some F32, some F33, some F34, some F35, some F36, some F37, some F38, none, none, none, none, none, none, none, none, none⟩, w1, w1, w1, w1, w1, w1, w1, w1, w1, w1, w1, w1, w1⟩, none, none, .lf⟩
theorem fnsT_eq : fnsT = mkT fnsL := by kernel_rfl
noncomputable def fns (g : Nat) : Option IFn := idK fnsT g
theorem fns_ok : ∀ g fn, fns g = some fn → FitsF Try.prog g fn :=
  fits_of fnsT_eq fun x hx => by
    unfold fnsL at hx
    simp only [List.mem_cons, List.not_mem_nil, or_false] at hx
    rcases hx with rfl | rfl | rfl | rfl | rfl | rfl | rfl | rfl | rfl | rfl | rfl | rfl | rfl | rfl | rfl | rfl | rfl | rfl | rfl | rfl | rfl | rfl | rfl | rfl | rfl | rfl | rfl | rfl | rfl | rfl | rfl | rfl | rfl | rfl
    · exact fits4
    · exact gfits6
    · exact fits7
    · exact fits8
    · exact fits9
    · exact fits10
    · exact fits11
    · exact fits12
    · exact fits13
    · exact fits14
    · exact fits15
    · exact fits16
    · exact fits17
    · exact fits18
    · exact fits19
    · exact fits20
    · exact fits21
    · exact fits22
    · exact fits23
    · exact fits24
    · exact fits25
    · exact fits26
    · exact fits27
    · exact fits28
    · exact fits29
    · exact fits30
    · exact fits31
    · exact fits32
    · exact fits33
    · exact fits34
    · exact fits35
    · exact fits36
    · exact fits37
    · exact fits38
theorem bxR : type_of% ((And.intro R4 ((And.intro R7 (And.intro R8 (And.intro R9 (And.intro R10 (And.intro R11 (And.intro R12 (And.intro R13 (And.intro R14 (And.intro R15 (And.intro R16 (And.intro R17 (And.intro R18 (And.intro R19 (And.intro R20 (And.intro R21 (And.intro R22 (And.intro R23 (And.intro R24 (And.intro R25 (And.intro R26 (And.intro R27 (And.intro R28 (And.intro R29 (And.intro R30 (And.intro R31 (And.intro R32 (And.intro R33 (And.intro R34 (And.intro R35 (And.intro R36 (And.intro R37 (R38))))))))))))))))))))))))))))))))))) := (And.intro R4 ((And.intro R7 (And.intro R8 (And.intro R9 (And.intro R10 (And.intro R11 (And.intro R12 (And.intro R13 (And.intro R14 (And.intro R15 (And.intro R16 (And.intro R17 (And.intro R18 (And.intro R19 (And.intro R20 (And.intro R21 (And.intro R22 (And.intro R23 (And.intro R24 (And.intro R25 (And.intro R26 (And.intro R27 (And.intro R28 (And.intro R29 (And.intro R30 (And.intro R31 (And.intro R32 (And.intro R33 (And.intro R34 (And.intro R35 (And.intro R36 (And.intro R37 (R38))))))))))))))))))))))))))))))))))
end Go.Proofs.Ytlmmmchkhaidjaa.K
set_option linter.unusedVariables false
namespace Go.Proofs.Ytlmmmchkhaidjaa.Ev
open Go
theorem bxD : type_of% (And.intro @Wp_reg_iff (And.intro @Wp_seq_reg (And.intro @Wp_seq_skip (And.intro @Wp_seq_exit (And.intro @Wp_seq_ret (And.intro @Wp_seq_cond (And.intro @Wp_seq_block (And.intro @Wp_seq_loop (And.intro @Wp_seq_dreg (And.intro @Wp_seq_seq (And.intro @Wp_block_iff (And.intro @Wp_skip_iff (And.intro @Wp_exit_iff (And.intro @Wp_ret_iff (And.intro @Wp_cond_iff (And.intro @Wl_nil_iff (And.intro @Wl_op_iff (And.intro @Wl_gd_iff (And.intro @Wd_nil (And.intro @Wd_pu (And.intro @Wd_rd (And.intro @Wd_ad (And.intro @Wd_md (And.intro @Wd_fl (And.intro @Wd_ma (And.intro @Wd_gpu (And.intro @Wd_grd (And.intro @Wd_gad (@Wd_gmd))))))))))))))))))))))))))))) := And.intro @Wp_reg_iff (And.intro @Wp_seq_reg (And.intro @Wp_seq_skip (And.intro @Wp_seq_exit (And.intro @Wp_seq_ret (And.intro @Wp_seq_cond (And.intro @Wp_seq_block (And.intro @Wp_seq_loop (And.intro @Wp_seq_dreg (And.intro @Wp_seq_seq (And.intro @Wp_block_iff (And.intro @Wp_skip_iff (And.intro @Wp_exit_iff (And.intro @Wp_ret_iff (And.intro @Wp_cond_iff (And.intro @Wl_nil_iff (And.intro @Wl_op_iff (And.intro @Wl_gd_iff (And.intro @Wd_nil (And.intro @Wd_pu (And.intro @Wd_rd (And.intro @Wd_ad (And.intro @Wd_md (And.intro @Wd_fl (And.intro @Wd_ma (And.intro @Wd_gpu (And.intro @Wd_grd (And.intro @Wd_gad (@Wd_gmd))))))))))))))))))))))))))))
theorem bxP : type_of% (And.intro @bindP_some (And.intro @condP_t (And.intro @condP_f (And.intro @gdP_tt (And.intro @gdP_tf (And.intro @gdP_ft (And.intro @gdP_ff (And.intro @gdP_tp (And.intro @thenQ_ret (And.intro @thenQ_exit (And.intro @blockQ_norm (And.intro @blockQ_ret (And.intro @blockQ_exit (And.intro @ev_c (And.intro @ev_set (And.intro @setD_some (And.intro @setD_none (And.intro @retQ_ret (And.intro @retQ_norm (And.intro @o1_some (And.intro @ev_mov (And.intro @ev_pick (And.intro @ev_new (And.intro @ev_box (And.intro @ev_build (And.intro @ev_bslW (And.intro @bslW_some (And.intro @zrow_one (And.intro @fill_ag (And.intro @fill_one (And.intro @ev_ld1 (And.intro @ev_ldN (And.intro @ev_st (And.intro @ev_nck (And.intro @ev_binI (And.intro @ev_binB (And.intro @ev_binN (And.intro @ev_un (And.intro @ev_cvI (And.intro @ev_fld1 (And.intro @ev_fldN (And.intro @ev_fa (And.intro @ev_ixA (And.intro @ev_ixS (And.intro @ev_ext (And.intro @ev_mkm (And.intro @ev_cut (And.intro @ev_app (And.intro @ev_len (And.intro @ev_mn (And.intro @ev_mx (And.intro @ev_call (And.intro @ev_mkf (And.intro @ev_pu2 (And.intro @ev_rdm (And.intro @bin_add (And.intro @bin_sub (And.intro @bin_mul (And.intro @bin_eql (And.intro @bin_neq (And.intro @bin_lss (And.intro @bin_leq (And.intro @bin_gtr (And.intro @bin_geq (And.intro @binB_eql (And.intro @binB_neq (And.intro @un_not (And.intro @pick_t (And.intro @pick_f (And.intro @fa_p (And.intro @nck_p (And.intro @len_sl (And.intro @ix_sl (And.intro @ixA_p (And.intro @push_ok (And.intro @not_dec (And.intro @dregK_cons (And.intro @apartL_nil (And.intro @lateL_nil (And.intro @adopt_nil (And.intro @room0 (And.intro @room_n (And.intro @room_get (And.intro @room_lo (And.intro @lift_n (And.intro @lift_lo (And.intro @lift_get (And.intro @down_n (And.intro @down_lo (And.intro @down_get (And.intro @st_w (And.intro @stW_ok (And.intro @ld1_w (And.intro @ldN_w (And.intro @ldW_cs (And.intro @ldNW_cs (And.intro @map_ag (And.intro @cells_ag (And.intro @push_new (And.intro @push_old (And.intro @set_same (And.intro @set_ne (And.intro @set_n (And.intro @set_lo (And.intro @push_n (And.intro @push_lo (And.intro @wrap_in (And.intro @getN_setN' (And.intro @resL_1 (And.intro @res_set (And.intro @puM_eqA (And.intro @eqAg_nil (And.intro @eqAg_i (And.intro @beq_self_eq_true.{0} (And.intro @cond_true.{1} (And.intro @cond_false.{1} (And.intro @Bool.not_true (And.intro @Bool.not_false (And.intro @isU_ag (And.intro @isU_i (And.intro @isU_b (And.intro @isU_s (And.intro @isU_p (And.intro @isU_nils (And.intro @isU_sl (And.intro @Bool.false_eq_true (And.intro @pack1 (And.intro @pack2 (And.intro @pack3 (And.intro @resL_c (And.intro @consO_some (And.intro @ext_tp (And.intro @decide_true (And.intro @Ky.k1.injEq (And.intro @Ky.k2.injEq (And.intro @Ky.k3.injEq (And.intro @if_true.{1} (And.intro @if_false.{1} (And.intro @and_false (And.intro @and_true (And.intro @false_and (And.intro @true_and (And.intro @List.map_cons.{0,0} (And.intro @List.map_nil.{0,0} (And.intro @cget_setN (And.intro @cget_ofL (And.intro @List.length_cons.{0} (And.intro @List.length_nil.{0} (And.intro @Nat.lt_add_one (And.intro @Nat.le_refl (And.intro @Nat.zero_le (And.intro @List.getElem?_cons_zero.{0} (And.intro @List.getElem?_cons_succ.{0} (And.intro @Nat.add_zero (And.intro @Nat.zero_add (And.intro @Nat.sub_zero (@and_self))))))))))))))))))))))))))))))))))))))))))))))))))))))))))))))))))))))))))))))))))))))))))))))))))))))))))))))))))))))))))))))))))))))))))))))))))))))))))))) := And.intro @bindP_some (And.intro @condP_t (And.intro @condP_f (And.intro @gdP_tt (And.intro @gdP_tf (And.intro @gdP_ft (And.intro @gdP_ff (And.intro @gdP_tp (And.intro @thenQ_ret (And.intro @thenQ_exit (And.intro @blockQ_norm (And.intro @blockQ_ret (And.intro @blockQ_exit (And.intro @ev_c (And.intro @ev_set (And.intro @setD_some (And.intro @setD_none (And.intro @retQ_ret (And.intro @retQ_norm (And.intro @o1_some (And.intro @ev_mov (And.intro @ev_pick (And.intro @ev_new (And.intro @ev_box (And.intro @ev_build (And.intro @ev_bslW (And.intro @bslW_some (And.intro @zrow_one (And.intro @fill_ag (And.intro @fill_one (And.intro @ev_ld1 (And.intro @ev_ldN (And.intro @ev_st (And.intro @ev_nck (And.intro @ev_binI (And.intro @ev_binB (And.intro @ev_binN (And.intro @ev_un (And.intro @ev_cvI (And.intro @ev_fld1 (And.intro @ev_fldN (And.intro @ev_fa (And.intro @ev_ixA (And.intro @ev_ixS (And.intro @ev_ext (And.intro @ev_mkm (And.intro @ev_cut (And.intro @ev_app (And.intro @ev_len (And.intro @ev_mn (And.intro @ev_mx (And.intro @ev_call (And.intro @ev_mkf (And.intro @ev_pu2 (And.intro @ev_rdm (And.intro @bin_add (And.intro @bin_sub (And.intro @bin_mul (And.intro @bin_eql (And.intro @bin_neq (And.intro @bin_lss (And.intro @bin_leq (And.intro @bin_gtr (And.intro @bin_geq (And.intro @binB_eql (And.intro @binB_neq (And.intro @un_not (And.intro @pick_t (And.intro @pick_f (And.intro @fa_p (And.intro @nck_p (And.intro @len_sl (And.intro @ix_sl (And.intro @ixA_p (And.intro @push_ok (And.intro @not_dec (And.intro @dregK_cons (And.intro @apartL_nil (And.intro @lateL_nil (And.intro @adopt_nil (And.intro @room0 (And.intro @room_n (And.intro @room_get (And.intro @room_lo (And.intro @lift_n (And.intro @lift_lo (And.intro @lift_get (And.intro @down_n (And.intro @down_lo (And.intro @down_get (And.intro @st_w (And.intro @stW_ok (And.intro @ld1_w (And.intro @ldN_w (And.intro @ldW_cs (And.intro @ldNW_cs (And.intro @map_ag (And.intro @cells_ag (And.intro @push_new (And.intro @push_old (And.intro @set_same (And.intro @set_ne (And.intro @set_n (And.intro @set_lo (And.intro @push_n (And.intro @push_lo (And.intro @wrap_in (And.intro @getN_setN' (And.intro @resL_1 (And.intro @res_set (And.intro @puM_eqA (And.intro @eqAg_nil (And.intro @eqAg_i (And.intro @beq_self_eq_true.{0} (And.intro @cond_true.{1} (And.intro @cond_false.{1} (And.intro @Bool.not_true (And.intro @Bool.not_false (And.intro @isU_ag (And.intro @isU_i (And.intro @isU_b (And.intro @isU_s (And.intro @isU_p (And.intro @isU_nils (And.intro @isU_sl (And.intro @Bool.false_eq_true (And.intro @pack1 (And.intro @pack2 (And.intro @pack3 (And.intro @resL_c (And.intro @consO_some (And.intro @ext_tp (And.intro @decide_true (And.intro @Ky.k1.injEq (And.intro @Ky.k2.injEq (And.intro @Ky.k3.injEq (And.intro @if_true.{1} (And.intro @if_false.{1} (And.intro @and_false (And.intro @and_true (And.intro @false_and (And.intro @true_and (And.intro @List.map_cons.{0,0} (And.intro @List.map_nil.{0,0} (And.intro @cget_setN (And.intro @cget_ofL (And.intro @List.length_cons.{0} (And.intro @List.length_nil.{0} (And.intro @Nat.lt_add_one (And.intro @Nat.le_refl (And.intro @Nat.zero_le (And.intro @List.getElem?_cons_zero.{0} (And.intro @List.getElem?_cons_succ.{0} (And.intro @Nat.add_zero (And.intro @Nat.zero_add (And.intro @Nat.sub_zero (@and_self))))))))))))))))))))))))))))))))))))))))))))))))))))))))))))))))))))))))))))))))))))))))))))))))))))))))))))))))))))))))))))))))))))))))))))))))))))))))))))
theorem bxS : type_of% (And.intro @beq_self_eq_true.{0} (And.intro @Bool.not_false (And.intro @decide_true (And.intro @cells_ag (And.intro @cells_i (And.intro @cells_b (And.intro @cells_s (And.intro @cells_p (And.intro @cells_nilp (And.intro @cells_nils (And.intro @cells_m (And.intro @cells_sl (And.intro @cells_fn (And.intro @one_i (And.intro @one_b (And.intro @one_s (And.intro @one_p (And.intro @one_nilp (And.intro @one_nils (And.intro @one_m (And.intro @one_sl (And.intro @one_fn (And.intro @isU_i (And.intro @isU_b (And.intro @isU_s (And.intro @isU_p (And.intro @isU_nilp (And.intro @isU_nils (And.intro @isU_m (And.intro @isU_sl (And.intro @isU_ag (And.intro @isU_fn (And.intro @all_nil (And.intro @all_cons (And.intro @List.length_cons.{0} (And.intro @List.length_nil.{0} (And.intro @Bool.and_true (@Bool.true_and)))))))))))))))))))))))))))))))))))))) := And.intro @beq_self_eq_true.{0} (And.intro @Bool.not_false (And.intro @decide_true (And.intro @cells_ag (And.intro @cells_i (And.intro @cells_b (And.intro @cells_s (And.intro @cells_p (And.intro @cells_nilp (And.intro @cells_nils (And.intro @cells_m (And.intro @cells_sl (And.intro @cells_fn (And.intro @one_i (And.intro @one_b (And.intro @one_s (And.intro @one_p (And.intro @one_nilp (And.intro @one_nils (And.intro @one_m (And.intro @one_sl (And.intro @one_fn (And.intro @isU_i (And.intro @isU_b (And.intro @isU_s (And.intro @isU_p (And.intro @isU_nilp (And.intro @isU_nils (And.intro @isU_m (And.intro @isU_sl (And.intro @isU_ag (And.intro @isU_fn (And.intro @all_nil (And.intro @all_cons (And.intro @List.length_cons.{0} (And.intro @List.length_nil.{0} (And.intro @Bool.and_true (@Bool.true_and)))))))))))))))))))))))))))))))))))))
theorem bxU : type_of% (And.intro @push_lo (And.intro @push_n (And.intro @set_lo (@set_n)))) := And.intro @push_lo (And.intro @push_n (And.intro @set_lo (@set_n)))
theorem bxV : type_of% (And.intro @push_n (And.intro @set_n (@beq_self_eq_true.{0}))) := And.intro @push_n (And.intro @set_n (@beq_self_eq_true.{0}))
theorem bxL : type_of% (And.intro @List.length_cons.{0} (@List.length_nil.{0})) := And.intro @List.length_cons.{0} (@List.length_nil.{0})
theorem bxQ : (q0 = Ky.k1 .d0) ∧ (q1 = Ky.k1 .d1) ∧ (q2 = Ky.k1 .d2) ∧ (q3 = Ky.k1 .d3) ∧ (q4 = Ky.k1 .d4) ∧ (q5 = Ky.k1 .d5) ∧ (q6 = Ky.k1 .d6) ∧ (q7 = Ky.k1 .d7) ∧ (q8 = Ky.k1 .d8) ∧ (q9 = Ky.k1 .d9) ∧ (q10 = Ky.k1 .d10) ∧ (q11 = Ky.k1 .d11) ∧ (q12 = Ky.k1 .d12) ∧ (q13 = Ky.k1 .d13) ∧ (q14 = Ky.k1 .d14) ∧ (q15 = Ky.k1 .d15) ∧ (q16 = Ky.k2 .d1 .d0) ∧ (q17 = Ky.k2 .d1 .d1) ∧ (q18 = Ky.k2 .d1 .d2) ∧ (q19 = Ky.k2 .d1 .d3) ∧ (q20 = Ky.k2 .d1 .d4) ∧ (q21 = Ky.k2 .d1 .d5) ∧ (q22 = Ky.k2 .d1 .d6) ∧ (q23 = Ky.k2 .d1 .d7) ∧ (q24 = Ky.k2 .d1 .d8) ∧ (q25 = Ky.k2 .d1 .d9) ∧ (q26 = Ky.k2 .d1 .d10) ∧ (q27 = Ky.k2 .d1 .d11) ∧ (q28 = Ky.k2 .d1 .d12) ∧ (q29 = Ky.k2 .d1 .d13) ∧ (q30 = Ky.k2 .d1 .d14) ∧ (q31 = Ky.k2 .d1 .d15) ∧ (q32 = Ky.k2 .d2 .d0) ∧ (q33 = Ky.k2 .d2 .d1) ∧ (q34 = Ky.k2 .d2 .d2) ∧ (q35 = Ky.k2 .d2 .d3) ∧ (q36 = Ky.k2 .d2 .d4) ∧ (q37 = Ky.k2 .d2 .d5) ∧ (q38 = Ky.k2 .d2 .d6) ∧ (q39 = Ky.k2 .d2 .d7) ∧ (q40 = Ky.k2 .d2 .d8) ∧ (q41 = Ky.k2 .d2 .d9) ∧ (q42 = Ky.k2 .d2 .d10) ∧ (q43 = Ky.k2 .d2 .d11) ∧ (q44 = Ky.k2 .d2 .d12) ∧ (q45 = Ky.k2 .d2 .d13) ∧ (q46 = Ky.k2 .d2 .d14) ∧ (q47 = Ky.k2 .d2 .d15) ∧ (q48 = Ky.k2 .d3 .d0) ∧ (q49 = Ky.k2 .d3 .d1) ∧ (q50 = Ky.k2 .d3 .d2) ∧ (q51 = Ky.k2 .d3 .d3) ∧ (q52 = Ky.k2 .d3 .d4) ∧ (q53 = Ky.k2 .d3 .d5) ∧ (q54 = Ky.k2 .d3 .d6) ∧ (q55 = Ky.k2 .d3 .d7) ∧ (q56 = Ky.k2 .d3 .d8) ∧ (q57 = Ky.k2 .d3 .d9) ∧ (q58 = Ky.k2 .d3 .d10) ∧ (q59 = Ky.k2 .d3 .d11) := ⟨rfl, rfl, rfl, rfl, rfl, rfl, rfl, rfl, rfl, rfl, rfl, rfl, rfl, rfl, rfl, rfl, rfl, rfl, rfl, rfl, rfl, rfl, rfl, rfl, rfl, rfl, rfl, rfl, rfl, rfl, rfl, rfl, rfl, rfl, rfl, rfl, rfl, rfl, rfl, rfl, rfl, rfl, rfl, rfl, rfl, rfl, rfl, rfl, rfl, rfl, rfl, rfl, rfl, rfl, rfl, rfl, rfl, rfl, rfl, rfl⟩
theorem bxQ2 : (q60 = Ky.k2 .d3 .d12) ∧ (q61 = Ky.k2 .d3 .d13) ∧ (q62 = Ky.k2 .d3 .d14) ∧ (q63 = Ky.k2 .d3 .d15) ∧ (q64 = Ky.k2 .d4 .d0) ∧ (q65 = Ky.k2 .d4 .d1) ∧ (q66 = Ky.k2 .d4 .d2) ∧ (q67 = Ky.k2 .d4 .d3) ∧ (q68 = Ky.k2 .d4 .d4) ∧ (q69 = Ky.k2 .d4 .d5) ∧ (q70 = Ky.k2 .d4 .d6) ∧ (q71 = Ky.k2 .d4 .d7) ∧ (q72 = Ky.k2 .d4 .d8) ∧ (q73 = Ky.k2 .d4 .d9) ∧ (q74 = Ky.k2 .d4 .d10) ∧ (q75 = Ky.k2 .d4 .d11) ∧ (q76 = Ky.k2 .d4 .d12) ∧ (q77 = Ky.k2 .d4 .d13) ∧ (q78 = Ky.k2 .d4 .d14) ∧ (q79 = Ky.k2 .d4 .d15) ∧ (q80 = Ky.k2 .d5 .d0) ∧ (q81 = Ky.k2 .d5 .d1) ∧ (q82 = Ky.k2 .d5 .d2) ∧ (q83 = Ky.k2 .d5 .d3) ∧ (q84 = Ky.k2 .d5 .d4) ∧ (q85 = Ky.k2 .d5 .d5) ∧ (q86 = Ky.k2 .d5 .d6) ∧ (q87 = Ky.k2 .d5 .d7) ∧ (q88 = Ky.k2 .d5 .d8) ∧ (q89 = Ky.k2 .d5 .d9) ∧ (q90 = Ky.k2 .d5 .d10) ∧ (q91 = Ky.k2 .d5 .d11) ∧ (q92 = Ky.k2 .d5 .d12) ∧ (q93 = Ky.k2 .d5 .d13) ∧ (q94 = Ky.k2 .d5 .d14) ∧ (q95 = Ky.k2 .d5 .d15) ∧ (q96 = Ky.k2 .d6 .d0) ∧ (q97 = Ky.k2 .d6 .d1) ∧ (q98 = Ky.k2 .d6 .d2) ∧ (q99 = Ky.k2 .d6 .d3) ∧ (q100 = Ky.k2 .d6 .d4) ∧ (q101 = Ky.k2 .d6 .d5) ∧ (q102 = Ky.k2 .d6 .d6) ∧ (q103 = Ky.k2 .d6 .d7) ∧ (q104 = Ky.k2 .d6 .d8) ∧ (q105 = Ky.k2 .d6 .d9) ∧ (q106 = Ky.k2 .d6 .d10) ∧ (q107 = Ky.k2 .d6 .d11) ∧ (q108 = Ky.k2 .d6 .d12) ∧ (q109 = Ky.k2 .d6 .d13) ∧ (q110 = Ky.k2 .d6 .d14) ∧ (q111 = Ky.k2 .d6 .d15) ∧ (q112 = Ky.k2 .d7 .d0) ∧ (q113 = Ky.k2 .d7 .d1) ∧ (q114 = Ky.k2 .d7 .d2) ∧ (q115 = Ky.k2 .d7 .d3) ∧ (q116 = Ky.k2 .d7 .d4) ∧ (q117 = Ky.k2 .d7 .d5) ∧ (q118 = Ky.k2 .d7 .d6) ∧ (q119 = Ky.k2 .d7 .d7) ∧ (q120 = Ky.k2 .d7 .d8) ∧ (q121 = Ky.k2 .d7 .d9) ∧ (q122 = Ky.k2 .d7 .d10) ∧ (q123 = Ky.k2 .d7 .d11) ∧ (q124 = Ky.k2 .d7 .d12) ∧ (q125 = Ky.k2 .d7 .d13) ∧ (q126 = Ky.k2 .d7 .d14) ∧ (q127 = Ky.k2 .d7 .d15) ∧ (q128 = Ky.k2 .d8 .d0) ∧ (q129 = Ky.k2 .d8 .d1) ∧ (q130 = Ky.k2 .d8 .d2) ∧ (q131 = Ky.k2 .d8 .d3) ∧ (q132 = Ky.k2 .d8 .d4) ∧ (q133 = Ky.k2 .d8 .d5) ∧ (q134 = Ky.k2 .d8 .d6) ∧ (q135 = Ky.k2 .d8 .d7) ∧ (q136 = Ky.k2 .d8 .d8) ∧ (q137 = Ky.k2 .d8 .d9) ∧ (q138 = Ky.k2 .d8 .d10) ∧ (q139 = Ky.k2 .d8 .d11) ∧ (q140 = Ky.k2 .d8 .d12) ∧ (q141 = Ky.k2 .d8 .d13) ∧ (q142 = Ky.k2 .d8 .d14) ∧ (q143 = Ky.k2 .d8 .d15) ∧ (q144 = Ky.k2 .d9 .d0) ∧ (q145 = Ky.k2 .d9 .d1) ∧ (q146 = Ky.k2 .d9 .d2) ∧ (q147 = Ky.k2 .d9 .d3) ∧ (q148 = Ky.k2 .d9 .d4) ∧ (q149 = Ky.k2 .d9 .d5) ∧ (q150 = Ky.k2 .d9 .d6) ∧ (q151 = Ky.k2 .d9 .d7) ∧ (q152 = Ky.k2 .d9 .d8) ∧ (q153 = Ky.k2 .d9 .d9) ∧ (q154 = Ky.k2 .d9 .d10) ∧ (q155 = Ky.k2 .d9 .d11) ∧ (q156 = Ky.k2 .d9 .d12) ∧ (q157 = Ky.k2 .d9 .d13) ∧ (q158 = Ky.k2 .d9 .d14) ∧ (q159 = Ky.k2 .d9 .d15) ∧ (q160 = Ky.k2 .d10 .d0) ∧ (q161 = Ky.k2 .d10 .d1) ∧ (q162 = Ky.k2 .d10 .d2) ∧ (q163 = Ky.k2 .d10 .d3) ∧ (q164 = Ky.k2 .d10 .d4) ∧ (q165 = Ky.k2 .d10 .d5) ∧ (q166 = Ky.k2 .d10 .d6) ∧ (q167 = Ky.k2 .d10 .d7) ∧ (q168 = Ky.k2 .d10 .d8) ∧ (q169 = Ky.k2 .d10 .d9) ∧ (q170 = Ky.k2 .d10 .d10) ∧ (q171 = Ky.k2 .d10 .d11) ∧ (q172 = Ky.k2 .d10 .d12) ∧ (q173 = Ky.k2 .d10 .d13) ∧ (q174 = Ky.k2 .d10 .d14) ∧ (q175 = Ky.k2 .d10 .d15) ∧ (q176 = Ky.k2 .d11 .d0) ∧ (q177 = Ky.k2 .d11 .d1) ∧ (q178 = Ky.k2 .d11 .d2) ∧ (q179 = Ky.k2 .d11 .d3) ∧ (q180 = Ky.k2 .d11 .d4) ∧ (q181 = Ky.k2 .d11 .d5) ∧ (q182 = Ky.k2 .d11 .d6) ∧ (q183 = Ky.k2 .d11 .d7) ∧ (q184 = Ky.k2 .d11 .d8) ∧ (q185 = Ky.k2 .d11 .d9) ∧ (q186 = Ky.k2 .d11 .d10) ∧ (q187 = Ky.k2 .d11 .d11) ∧ (q188 = Ky.k2 .d11 .d12) ∧ (q189 = Ky.k2 .d11 .d13) ∧ (q190 = Ky.k2 .d11 .d14) ∧ (q191 = Ky.k2 .d11 .d15) ∧ (q192 = Ky.k2 .d12 .d0) ∧ (q193 = Ky.k2 .d12 .d1) ∧ (q194 = Ky.k2 .d12 .d2) ∧ (q195 = Ky.k2 .d12 .d3) ∧ (q196 = Ky.k2 .d12 .d4) ∧ (q197 = Ky.k2 .d12 .d5) ∧ (q198 = Ky.k2 .d12 .d6) ∧ (q199 = Ky.k2 .d12 .d7) ∧ (q200 = Ky.k2 .d12 .d8) ∧ (q201 = Ky.k2 .d12 .d9) ∧ (q202 = Ky.k2 .d12 .d10) ∧ (q203 = Ky.k2 .d12 .d11) ∧ (q204 = Ky.k2 .d12 .d12) ∧ (q205 = Ky.k2 .d12 .d13) ∧ (q206 = Ky.k2 .d12 .d14) ∧ (q207 = Ky.k2 .d12 .d15) ∧ (q208 = Ky.k2 .d13 .d0) ∧ (q209 = Ky.k2 .d13 .d1) ∧ (q210 = Ky.k2 .d13 .d2) ∧ (q211 = Ky.k2 .d13 .d3) ∧ (q212 = Ky.k2 .d13 .d4) ∧ (q213 = Ky.k2 .d13 .d5) ∧ (q214 = Ky.k2 .d13 .d6) ∧ (q215 = Ky.k2 .d13 .d7) ∧ (q216 = Ky.k2 .d13 .d8) ∧ (q217 = Ky.k2 .d13 .d9) ∧ (q218 = Ky.k2 .d13 .d10) ∧ (q219 = Ky.k2 .d13 .d11) ∧ (q220 = Ky.k2 .d13 .d12) ∧ (q221 = Ky.k2 .d13 .d13) ∧ (q222 = Ky.k2 .d13 .d14) ∧ (q223 = Ky.k2 .d13 .d15) ∧ (q224 = Ky.k2 .d14 .d0) ∧ (q225 = Ky.k2 .d14 .d1) ∧ (q226 = Ky.k2 .d14 .d2) ∧ (q227 = Ky.k2 .d14 .d3) ∧ (q228 = Ky.k2 .d14 .d4) ∧ (q229 = Ky.k2 .d14 .d5) := ⟨rfl, rfl, rfl, rfl, rfl, rfl, rfl, rfl, rfl, rfl, rfl, rfl, rfl, rfl, rfl, rfl, rfl, rfl, rfl, rfl, rfl, rfl, rfl, rfl, rfl, rfl, rfl, rfl, rfl, rfl, rfl, rfl, rfl, rfl, rfl, rfl, rfl, rfl, rfl, rfl, rfl, rfl, rfl, rfl, rfl, rfl, rfl, rfl, rfl, rfl, rfl, rfl, rfl, rfl, rfl, rfl, rfl, rfl, rfl, rfl, rfl, rfl, rfl, rfl, rfl, rfl, rfl, rfl, rfl, rfl, rfl, rfl, rfl, rfl, rfl, rfl, rfl, rfl, rfl, rfl, rfl, rfl, rfl, rfl, rfl, rfl, rfl, rfl, rfl, rfl, rfl, rfl, rfl, rfl, rfl, rfl, rfl, rfl, rfl, rfl, rfl, rfl, rfl, rfl, rfl, rfl, rfl, rfl, rfl, rfl, rfl, rfl, rfl, rfl, rfl, rfl, rfl, rfl, rfl, rfl, rfl, rfl, rfl, rfl, rfl, rfl, rfl, rfl, rfl, rfl, rfl, rfl, rfl, rfl, rfl, rfl, rfl, rfl, rfl, rfl, rfl, rfl, rfl, rfl, rfl, rfl, rfl, rfl, rfl, rfl, rfl, rfl, rfl, rfl, rfl, rfl, rfl, rfl, rfl, rfl, rfl, rfl, rfl, rfl, rfl, rfl, rfl, rfl, rfl, rfl⟩
end Go.Proofs.Ytlmmmchkhaidjaa.Ev
set_option linter.unusedSimpArgs false
set_option linter.unusedVariables false
namespace Go.Proofs.Ytlmmmchkhaidjaa.K
open Go Ev
set_option maxRecDepth 100000
set_option maxHeartbeats 4000000

theorem classes_any {M : MH} {v : MV} {l : List Int} (h : IntRow M v l) (hl : l.length ≤ 9223372036854775807) : Cp fns 21 [v] M fun m M' => m = .b (clsB l) ∧ M' = M := by
  obtain ⟨hs1, hs2⟩ := h.sl
  refine Cp_call (fn := F21) (by kernel_rfl) (Nat.le_of_ble_eq_true rfl) ?_
  show Wp fns B21 (T.set q0 (some v) T.lf) M _
  unfold B21
  simp (maxSteps := 4000000) (disch := first | omega | assumption | (simp only [bxS, bxV, stOk, Nat.reduceBEq, Nat.reduceEqDiff, Nat.reduceAdd]; done) | (simp only [bxU]; omega) | ((try apply has_setN); apply has_ofL; simp only [bxL]; omega)) only [↓bxD, bxP, bxQ, Nat.reduceBEq, reduceCtorEq, Nat.reduceAdd, Nat.reduceSub, Nat.reduceMul, Nat.reduceLeDiff, Nat.reduceLT, bxR]
  refine Wp_inv (σ := Nat) (fun i f M' => M' = M ∧ i ≤ l.length ∧ X.ev f (.t q0) = v ∧ X.ev f (.t q3) = .i .i64 (i : Int) ∧ clsB (l.take i) = true) (fun i => l.length - i) ?_ 0 ?_
  · rintro i f M' ⟨rfl, hi, h0, h3, hc⟩
    simp only [q0, q3] at h0 h3
    unfold L21_2
    simp (maxSteps := 4000000) (disch := first | omega | assumption | (simp only [bxS, bxV, stOk, Nat.reduceBEq, Nat.reduceEqDiff, Nat.reduceAdd]; done) | (simp only [bxU]; omega) | ((try apply has_setN); apply has_ofL; simp only [bxL]; omega)) only [↓bxD, bxP, bxQ, Nat.reduceBEq, reduceCtorEq, Nat.reduceAdd, Nat.reduceSub, Nat.reduceMul, Nat.reduceLeDiff, Nat.reduceLT, bxR, hs1, hs2, h0, h3]
    refine condP_split (fun hlt => ?_) (fun hge => ?_)
    · have hi' : i < l.length := by omega
      obtain ⟨z, hz⟩ : ∃ z, l[i]? = some z := ⟨_, List.getElem?_eq_getElem hi'⟩
      obtain ⟨ro, s, t, hg, hid, hC⟩ := h.read hz
      have hcl : clsB (l.take (i + 1)) = (decide (0 ≤ z) && decide (z ≤ 100)) := by
        unfold clsB at hc ⊢
        rw [List.take_add_one, hz, List.all_append, hc]
        simp
      have hf : (decide (0 ≤ z) && decide (z ≤ 100)) = false → clsB l = false := fun e => by
        have : clsB l = (clsB (l.take (i + 1)) && clsB (l.drop (i + 1))) := by
          unfold clsB
          rw [← List.all_append, List.take_append_drop]
        rw [this, hcl, e, Bool.false_and]
      by_cases hz0 : z < 0
      · have hd : decide (z < 0) = true := decide_eq_true hz0
        simp (maxSteps := 4000000) (disch := first | omega | assumption | (simp only [bxS, bxV, stOk, Nat.reduceBEq, Nat.reduceEqDiff, Nat.reduceAdd]; done) | (simp only [bxU]; omega) | ((try apply has_setN); apply has_ofL; simp only [bxL]; omega)) only [↓bxD, bxP, bxQ, Nat.reduceBEq, reduceCtorEq, Nat.reduceAdd, Nat.reduceSub, Nat.reduceMul, Nat.reduceLeDiff, Nat.reduceLT, bxR, hs1, hs2, h0, h3, hg, hC, hd]
        show Wp fns K21_1 _ _ _
        unfold K21_1
        simp (maxSteps := 4000000) (disch := first | omega | assumption | (simp only [bxS, bxV, stOk, Nat.reduceBEq, Nat.reduceEqDiff, Nat.reduceAdd]; done) | (simp only [bxU]; omega) | ((try apply has_setN); apply has_ofL; simp only [bxL]; omega)) only [↓bxD, bxP, bxQ, Nat.reduceBEq, reduceCtorEq, Nat.reduceAdd, Nat.reduceSub, Nat.reduceMul, Nat.reduceLeDiff, Nat.reduceLT, bxR, hs1, hs2, h0, h3, hg, hC, hd, R21, pack1]
        rw [hf (by simp; omega)]
      · have hd : decide (z < 0) = false := decide_eq_false hz0
        by_cases hz1 : 100 < z
        · have hd1 : decide (100 < z) = true := decide_eq_true hz1
          simp (maxSteps := 4000000) (disch := first | omega | assumption | (simp only [bxS, bxV, stOk, Nat.reduceBEq, Nat.reduceEqDiff, Nat.reduceAdd]; done) | (simp only [bxU]; omega) | ((try apply has_setN); apply has_ofL; simp only [bxL]; omega)) only [↓bxD, bxP, bxQ, Nat.reduceBEq, reduceCtorEq, Nat.reduceAdd, Nat.reduceSub, Nat.reduceMul, Nat.reduceLeDiff, Nat.reduceLT, bxR, hs1, hs2, h0, h3, hg, hC, hd, hd1]
          show Wp fns K21_1 _ _ _
          unfold K21_1
          simp (maxSteps := 4000000) (disch := first | omega | assumption | (simp only [bxS, bxV, stOk, Nat.reduceBEq, Nat.reduceEqDiff, Nat.reduceAdd]; done) | (simp only [bxU]; omega) | ((try apply has_setN); apply has_ofL; simp only [bxL]; omega)) only [↓bxD, bxP, bxQ, Nat.reduceBEq, reduceCtorEq, Nat.reduceAdd, Nat.reduceSub, Nat.reduceMul, Nat.reduceLeDiff, Nat.reduceLT, bxR, hs1, hs2, h0, h3, hg, hC, hd, hd1, R21, pack1]
          rw [hf (by simp; omega)]
        · have hd1 : decide (100 < z) = false := decide_eq_false hz1
          simp (maxSteps := 4000000) (disch := first | omega | assumption | (simp only [bxS, bxV, stOk, Nat.reduceBEq, Nat.reduceEqDiff, Nat.reduceAdd]; done) | (simp only [bxU]; omega) | ((try apply has_setN); apply has_ofL; simp only [bxL]; omega)) only [↓bxD, bxP, bxQ, Nat.reduceBEq, reduceCtorEq, Nat.reduceAdd, Nat.reduceSub, Nat.reduceMul, Nat.reduceLeDiff, Nat.reduceLT, bxR, hs1, hs2, h0, h3, hg, hC, hd, hd1]
          show Wp fns K21_1 _ _ _
          unfold K21_1
          simp (maxSteps := 4000000) (disch := first | omega | assumption | (simp only [bxS, bxV, stOk, Nat.reduceBEq, Nat.reduceEqDiff, Nat.reduceAdd]; done) | (simp only [bxU]; omega) | ((try apply has_setN); apply has_ofL; simp only [bxL]; omega)) only [↓bxD, bxP, bxQ, Nat.reduceBEq, reduceCtorEq, Nat.reduceAdd, Nat.reduceSub, Nat.reduceMul, Nat.reduceLeDiff, Nat.reduceLT, bxR, hs1, hs2, h0, h3, hg, hC, hd, hd1]
          show Wp fns K21_0 _ _ _
          unfold K21_0
          simp (maxSteps := 4000000) (disch := first | omega | assumption | (simp only [bxS, bxV, stOk, Nat.reduceBEq, Nat.reduceEqDiff, Nat.reduceAdd]; done) | (simp only [bxU]; omega) | ((try apply has_setN); apply has_ofL; simp only [bxL]; omega)) only [↓bxD, bxP, bxQ, Nat.reduceBEq, reduceCtorEq, Nat.reduceAdd, Nat.reduceSub, Nat.reduceMul, Nat.reduceLeDiff, Nat.reduceLT, bxR, hs1, hs2, h0, h3, hg, hC, hd, hd1]
          exact ⟨i + 1, by omega, by omega, rfl, by rw [hcl]; simp; omega⟩
    · have hi' : i = l.length := by omega
      subst hi'
      rw [List.take_length] at hc
      simp (maxSteps := 4000000) (disch := first | omega | assumption | (simp only [bxS, bxV, stOk, Nat.reduceBEq, Nat.reduceEqDiff, Nat.reduceAdd]; done) | (simp only [bxU]; omega) | ((try apply has_setN); apply has_ofL; simp only [bxL]; omega)) only [↓bxD, bxP, bxQ, Nat.reduceBEq, reduceCtorEq, Nat.reduceAdd, Nat.reduceSub, Nat.reduceMul, Nat.reduceLeDiff, Nat.reduceLT, bxR, hs1, hs2, h0, h3]
      show Wp fns K21_3 _ _ _
      unfold K21_3
      simp (maxSteps := 4000000) (disch := first | omega | assumption | (simp only [bxS, bxV, stOk, Nat.reduceBEq, Nat.reduceEqDiff, Nat.reduceAdd]; done) | (simp only [bxU]; omega) | ((try apply has_setN); apply has_ofL; simp only [bxL]; omega)) only [↓bxD, bxP, bxQ, Nat.reduceBEq, reduceCtorEq, Nat.reduceAdd, Nat.reduceSub, Nat.reduceMul, Nat.reduceLeDiff, Nat.reduceLT, bxR, hs1, hs2, h0, h3, R21, pack1]
      rw [hc]
  · exact ⟨rfl, Nat.zero_le _, by simp only [bxP, bxQ, reduceCtorEq], by simp only [bxP, bxQ, reduceCtorEq] <;> rfl, rfl⟩
theorem symbol_any {M : MH} {g : Gr} {vr vf vc vk : MV} {s : Int} (hlo : M.lo ≤ M.n) (hs : Wf64 s) : Cp fns 22 [.ag (gcs g vr vf vc vk), .i .i64 s] M fun m M' => m = .b (symB g s) ∧ Ext M M' := by
  obtain ⟨hb1, hb2⟩ := hs
  refine Cp_call (fn := F22) (by kernel_rfl) (Nat.le_of_ble_eq_true rfl) ?_
  show Wp fns B22 (T.set q1 (some (.i .i64 s)) (T.set q0 (some (.ag (gcs g vr vf vc vk))) T.lf)) M _
  unfold B22 gcs
  have hx : ∀ l, Ext M (M.push (.cs false 7 (ofL l 0))) := fun l => .push M _
  by_cases h0 : s < 0
  · have hd : decide (s < 0) = true := decide_eq_true h0
    simp (maxSteps := 4000000) (disch := first | omega | assumption | (simp only [bxS, bxV, stOk, Nat.reduceBEq, Nat.reduceEqDiff, Nat.reduceAdd]; done) | (simp only [bxU]; omega) | ((try apply has_setN); apply has_ofL; simp only [bxL]; omega)) only [↓bxD, bxP, bxQ, Nat.reduceBEq, reduceCtorEq, Nat.reduceAdd, Nat.reduceSub, Nat.reduceMul, Nat.reduceLeDiff, Nat.reduceLT, bxR, hd]
    exact ⟨by unfold symB; rw [if_pos h0]; rfl, hx _⟩
  · have hd : decide (s < 0) = false := decide_eq_false h0
    simp (maxSteps := 4000000) (disch := first | omega | assumption | (simp only [bxS, bxV, stOk, Nat.reduceBEq, Nat.reduceEqDiff, Nat.reduceAdd]; done) | (simp only [bxU]; omega) | ((try apply has_setN); apply has_ofL; simp only [bxL]; omega)) only [↓bxD, bxP, bxQ, Nat.reduceBEq, reduceCtorEq, Nat.reduceAdd, Nat.reduceSub, Nat.reduceMul, Nat.reduceLeDiff, Nat.reduceLT, bxR, hd]
    show Wp fns K22_0 _ _ _
    unfold K22_0
    simp (maxSteps := 4000000) (disch := first | omega | assumption | (simp only [bxS, bxV, stOk, Nat.reduceBEq, Nat.reduceEqDiff, Nat.reduceAdd]; done) | (simp only [bxU]; omega) | ((try apply has_setN); apply has_ofL; simp only [bxL]; omega)) only [↓bxD, bxP, bxQ, Nat.reduceBEq, reduceCtorEq, Nat.reduceAdd, Nat.reduceSub, Nat.reduceMul, Nat.reduceLeDiff, Nat.reduceLT, bxR, hd]
    exact ⟨by unfold symB; rw [if_neg h0], hx _⟩
theorem ixA_0 {n s id off : Nat} {k : IntKind} (h : 0 < n) : ixAV n s (.p id off) (.i k 0) = some (.p id (off + 0 * s)) := ixA_p (i := 0) h
theorem ixA_1 {n s id off : Nat} {k : IntKind} (h : 1 < n) : ixAV n s (.p id off) (.i k 1) = some (.p id (off + 1 * s)) := ixA_p (i := 1) h
theorem ixA_2 {n s id off : Nat} {k : IntKind} (h : 2 < n) : ixAV n s (.p id off) (.i k 2) = some (.p id (off + 2 * s)) := ixA_p (i := 2) h
structure Rdy (M0 M : MH) (g : Gr) (vr vf vc vk : MV) (es : List (List MV)) (f : Fr) : Prop where
  gr : GrAt M vr vf vc vk es g
  ext : Ext M0 M
  lo0 : M0.lo ≤ M0.n
  lt : M0.n < M.n
  box : M.get M0.n = some (.cs false 7 (ofL (gcs g vr vf vc vk) 0))
  fr : X.ev f (.t q1) = .p M0.n 0
def FormPost (g : Gr) (M0 : MH) : MV → MH → Prop := fun m M' => m = .tp [.i .i64 (formP g).1, .i .i64 (formP g).2] ∧ Ext M0 M'
theorem form_forb {M0 M : MH} {g : Gr} {vr vf vc vk : MV} {es : List (List MV)} {f : Fr} (h : Rdy M0 M g vr vf vc vk es f) (hh : headE g = none) (hr : findE (ruleE g) g.rules 0 = none) : Wp fns K16_12 f M (retQ F16 (FormPost g M0)) := by
  have hq := h.fr
  simp only [q1] at hq
  unfold K16_12
  simp (maxSteps := 4000000) (disch := first | omega | assumption | (simp only [bxS, bxV, stOk, Nat.reduceBEq, Nat.reduceEqDiff, Nat.reduceAdd]; done) | (simp only [bxU]; omega) | ((try apply has_setN); apply has_ofL; simp only [bxL]; omega)) only [↓bxD, bxP, bxQ, bxQ2, Nat.reduceBEq, reduceCtorEq, Nat.reduceAdd, Nat.reduceSub, Nat.reduceMul, Nat.reduceLeDiff, Nat.reduceLT, bxR, hq]
  refine Wp_inv (σ := Nat) (fun i f M' => Rdy M0 M' g vr vf vc vk es f ∧ i ≤ g.forbid.length ∧ X.ev f (.t q8) = .i .i64 (i : Int) ∧ (g.forbid.take i).any (badF g) = false) (fun i => g.forbid.length - i) ?_ 0 ?_
  · rintro i f M' ⟨h, hi, h8, hp⟩
    have hq := h.fr
    obtain ⟨hr1, hr2⟩ := h.gr.rules.row.sl
    rw [h.gr.rules.len] at hr2
    obtain ⟨hf1, hf2⟩ := h.gr.forbid.sl
    rw [List.length_map] at hf2
    have hlo := h.lo0
    have hn := h.ext.n
    have hl := h.ext.lo
    have hlt := h.lt
    have hbox := h.box
    have hwl := h.gr.wf.lens
    obtain ⟨hw1, hw2, _, _⟩ := hwl
    simp only [q1, q8] at hq h8
    unfold gcs at hbox
    unfold L16_10
    simp (maxSteps := 4000000) (disch := first | omega | assumption | (simp only [bxS, bxV, stOk, Nat.reduceBEq, Nat.reduceEqDiff, Nat.reduceAdd]; done) | (simp only [bxU]; omega) | ((try apply has_setN); apply has_ofL; simp only [bxL]; omega)) only [↓bxD, bxP, bxQ, bxQ2, Nat.reduceBEq, reduceCtorEq, Nat.reduceAdd, Nat.reduceSub, Nat.reduceMul, Nat.reduceLeDiff, Nat.reduceLT, bxR, hq, h8, hr1, hr2, hf1, hf2, hbox, ixA_0, ixA_1, ixA_2]
    refine condP_split (fun hlt2 => ?_) (fun hge => ?_)
    · have hi' : i < g.forbid.length := by omega
      obtain ⟨x, hz⟩ : ∃ x, g.forbid[i]? = some x := ⟨_, List.getElem?_eq_getElem hi'⟩
      obtain ⟨x0, x1, x2⟩ := x
      obtain ⟨ro, s, t, hg, hid, hat⟩ := h.gr.forbid.read (i := i) (e := trip (x0, x1, x2)) (by rw [List.getElem?_map, hz]; rfl)
      have hN : Ev.getN t 3 (soff vf + i * 3) = some (trip (x0, x1, x2)) := hat.getN
      unfold trip at hN
      have hany : g.forbid.any (badF g) = ((g.forbid.take (i + 1)).any (badF g) || (g.forbid.drop (i + 1)).any (badF g)) := by rw [← List.any_append, List.take_append_drop]
      have htk : (g.forbid.take (i + 1)).any (badF g) = badF g (x0, x1, x2) := by rw [List.take_add_one, hz, List.any_append, hp]; simp
      have hbad : badF g (x0, x1, x2) = true → formP g = (-1, 6) := fun e => by unfold formP; rw [hh, hr]; simp only; rw [if_pos (by rw [hany, htk, e]; rfl)]
      simp (maxSteps := 4000000) (disch := first | omega | assumption | (simp only [bxS, bxV, stOk, Nat.reduceBEq, Nat.reduceEqDiff, Nat.reduceAdd]; done) | (simp only [bxU]; omega) | ((try apply has_setN); apply has_ofL; simp only [bxL]; omega)) only [↓bxD, bxP, bxQ, bxQ2, Nat.reduceBEq, reduceCtorEq, Nat.reduceAdd, Nat.reduceSub, Nat.reduceMul, Nat.reduceLeDiff, Nat.reduceLT, bxR, hq, h8, hr1, hr2, hf1, hf2, hbox, ixA_0, ixA_1, ixA_2, hg, hN]
      show Wp fns K16_9 _ _ _
      unfold K16_9
      simp (maxSteps := 4000000) (disch := first | omega | assumption | (simp only [bxS, bxV, stOk, Nat.reduceBEq, Nat.reduceEqDiff, Nat.reduceAdd]; done) | (simp only [bxU]; omega) | ((try apply has_setN); apply has_ofL; simp only [bxL]; omega)) only [↓bxD, bxP, bxQ, bxQ2, Nat.reduceBEq, reduceCtorEq, Nat.reduceAdd, Nat.reduceSub, Nat.reduceMul, Nat.reduceLeDiff, Nat.reduceLT, bxR, hq, h8, hr1, hr2, hf1, hf2, hbox, ixA_0, ixA_1, ixA_2, hg, hN]
      generalize hM2 : (M'.push _).set M'.n _ = M2
      have hx2 : Ext M' M2 := by rw [← hM2]; exact (Ext.push M' _).set _ (Nat.le_refl _)
      have hn2 := hx2.n
      have hl2 := hx2.lo
      have h9 : M2.get M'.n = some (.cs false 3 (setN [.i .i64 x0, .i .i64 x1, .i .i64 x2] 0 (ofL [.i .i64 0, .i .i64 0, .i .i64 0] 0))) := by rw [← hM2, set_same]
      have hbox2 := (hx2.old _ hlt).trans hbox
      have hgr := h.gr.ext hx2
      clear hM2
      have hxx := h.ext.trans hx2
      refine Wp_dreg_of (by omega) ?_
      by_cases c0 : x0 < 0
      · have d0 : decide (x0 < 0) = true := decide_eq_true c0
        simp (maxSteps := 4000000) (disch := first | omega | assumption | (simp only [bxS, bxV, stOk, Nat.reduceBEq, Nat.reduceEqDiff, Nat.reduceAdd]; done) | (simp only [bxU]; omega) | ((try apply has_setN); apply has_ofL; simp only [bxL]; omega)) only [↓bxD, bxP, bxQ, bxQ2, Nat.reduceBEq, reduceCtorEq, Nat.reduceAdd, Nat.reduceSub, Nat.reduceMul, Nat.reduceLeDiff, Nat.reduceLT, bxR, hq, h8, hr1, hr2, hf1, hf2, hbox2, ixA_0, ixA_1, ixA_2, h9, d0]
        have e : formP g = (-1, 6) := hbad (by unfold badF; rw [if_pos (by simp only; omega)])
        show Wp fns K16_7 _ _ _
        unfold K16_7
        simp (maxSteps := 4000000) (disch := first | omega | assumption | (simp only [bxS, bxV, stOk, Nat.reduceBEq, Nat.reduceEqDiff, Nat.reduceAdd]; done) | (simp only [bxU]; omega) | ((try apply has_setN); apply has_ofL; simp only [bxL]; omega)) only [↓bxD, bxP, bxQ, bxQ2, Nat.reduceBEq, reduceCtorEq, Nat.reduceAdd, Nat.reduceSub, Nat.reduceMul, Nat.reduceLeDiff, Nat.reduceLT, bxR, hq, h8, hr1, hr2, hf1, hf2, hbox2, ixA_0, ixA_1, ixA_2, h9, d0]
        unfold FormPost
        rw [e]
        exact ⟨rfl, hxx⟩
      have d0 : decide (x0 < 0) = false := decide_eq_false c0
      by_cases c1 : (g.rules.length : Int) ≤ x0
      · have d1 : decide ((g.rules.length : Int) ≤ x0) = true := decide_eq_true c1
        simp (maxSteps := 4000000) (disch := first | omega | assumption | (simp only [bxS, bxV, stOk, Nat.reduceBEq, Nat.reduceEqDiff, Nat.reduceAdd]; done) | (simp only [bxU]; omega) | ((try apply has_setN); apply has_ofL; simp only [bxL]; omega)) only [↓bxD, bxP, bxQ, bxQ2, Nat.reduceBEq, reduceCtorEq, Nat.reduceAdd, Nat.reduceSub, Nat.reduceMul, Nat.reduceLeDiff, Nat.reduceLT, bxR, hq, h8, hr1, hr2, hf1, hf2, hbox2, ixA_0, ixA_1, ixA_2, h9, d0, d1]
        have e : formP g = (-1, 6) := hbad (by unfold badF; rw [if_pos (by simp only; omega)])
        show Wp fns K16_7 _ _ _
        unfold K16_7
        simp (maxSteps := 4000000) (disch := first | omega | assumption | (simp only [bxS, bxV, stOk, Nat.reduceBEq, Nat.reduceEqDiff, Nat.reduceAdd]; done) | (simp only [bxU]; omega) | ((try apply has_setN); apply has_ofL; simp only [bxL]; omega)) only [↓bxD, bxP, bxQ, bxQ2, Nat.reduceBEq, reduceCtorEq, Nat.reduceAdd, Nat.reduceSub, Nat.reduceMul, Nat.reduceLeDiff, Nat.reduceLT, bxR, hq, h8, hr1, hr2, hf1, hf2, hbox2, ixA_0, ixA_1, ixA_2, h9, d0, d1]
        unfold FormPost
        rw [e]
        exact ⟨rfl, hxx⟩
      have d1 : decide ((g.rules.length : Int) ≤ x0) = false := decide_eq_false c1
      by_cases c2 : x2 < 0
      · have d2 : decide (x2 < 0) = true := decide_eq_true c2
        simp (maxSteps := 4000000) (disch := first | omega | assumption | (simp only [bxS, bxV, stOk, Nat.reduceBEq, Nat.reduceEqDiff, Nat.reduceAdd]; done) | (simp only [bxU]; omega) | ((try apply has_setN); apply has_ofL; simp only [bxL]; omega)) only [↓bxD, bxP, bxQ, bxQ2, Nat.reduceBEq, reduceCtorEq, Nat.reduceAdd, Nat.reduceSub, Nat.reduceMul, Nat.reduceLeDiff, Nat.reduceLT, bxR, hq, h8, hr1, hr2, hf1, hf2, hbox2, ixA_0, ixA_1, ixA_2, h9, d0, d1, d2]
        have e : formP g = (-1, 6) := hbad (by unfold badF; rw [if_pos (by simp only; omega)])
        show Wp fns K16_7 _ _ _
        unfold K16_7
        simp (maxSteps := 4000000) (disch := first | omega | assumption | (simp only [bxS, bxV, stOk, Nat.reduceBEq, Nat.reduceEqDiff, Nat.reduceAdd]; done) | (simp only [bxU]; omega) | ((try apply has_setN); apply has_ofL; simp only [bxL]; omega)) only [↓bxD, bxP, bxQ, bxQ2, Nat.reduceBEq, reduceCtorEq, Nat.reduceAdd, Nat.reduceSub, Nat.reduceMul, Nat.reduceLeDiff, Nat.reduceLT, bxR, hq, h8, hr1, hr2, hf1, hf2, hbox2, ixA_0, ixA_1, ixA_2, h9, d0, d1, d2]
        unfold FormPost
        rw [e]
        exact ⟨rfl, hxx⟩
      have d2 : decide (x2 < 0) = false := decide_eq_false c2
      by_cases c3 : (g.rules.length : Int) ≤ x2
      · have d3 : decide ((g.rules.length : Int) ≤ x2) = true := decide_eq_true c3
        simp (maxSteps := 4000000) (disch := first | omega | assumption | (simp only [bxS, bxV, stOk, Nat.reduceBEq, Nat.reduceEqDiff, Nat.reduceAdd]; done) | (simp only [bxU]; omega) | ((try apply has_setN); apply has_ofL; simp only [bxL]; omega)) only [↓bxD, bxP, bxQ, bxQ2, Nat.reduceBEq, reduceCtorEq, Nat.reduceAdd, Nat.reduceSub, Nat.reduceMul, Nat.reduceLeDiff, Nat.reduceLT, bxR, hq, h8, hr1, hr2, hf1, hf2, hbox2, ixA_0, ixA_1, ixA_2, h9, d0, d1, d2, d3]
        have e : formP g = (-1, 6) := hbad (by unfold badF; rw [if_pos (by simp only; omega)])
        show Wp fns K16_7 _ _ _
        unfold K16_7
        simp (maxSteps := 4000000) (disch := first | omega | assumption | (simp only [bxS, bxV, stOk, Nat.reduceBEq, Nat.reduceEqDiff, Nat.reduceAdd]; done) | (simp only [bxU]; omega) | ((try apply has_setN); apply has_ofL; simp only [bxL]; omega)) only [↓bxD, bxP, bxQ, bxQ2, Nat.reduceBEq, reduceCtorEq, Nat.reduceAdd, Nat.reduceSub, Nat.reduceMul, Nat.reduceLeDiff, Nat.reduceLT, bxR, hq, h8, hr1, hr2, hf1, hf2, hbox2, ixA_0, ixA_1, ixA_2, h9, d0, d1, d2, d3]
        unfold FormPost
        rw [e]
        exact ⟨rfl, hxx⟩
      have d3 : decide ((g.rules.length : Int) ≤ x2) = false := decide_eq_false c3
      obtain ⟨n0, rfl⟩ : ∃ n : Nat, x0 = n := ⟨x0.toNat, by omega⟩
      obtain ⟨n2, rfl⟩ : ∃ n : Nat, x2 = n := ⟨x2.toNat, by omega⟩
      have hi0 : n0 < g.rules.length := by omega
      have hi2 : n2 < g.rules.length := by omega
      obtain ⟨a, ha⟩ : ∃ a, g.rules[n0]? = some a := ⟨_, List.getElem?_eq_getElem hi0⟩
      obtain ⟨b, hb⟩ : ∃ b, g.rules[n2]? = some b := ⟨_, List.getElem?_eq_getElem hi2⟩
      obtain ⟨a0, ar, a2⟩ := a
      obtain ⟨b0, br, b2⟩ := b
      obtain ⟨uu, hu1, hu2⟩ := hgr.rules.get ha
      obtain ⟨v, hv1, hv2⟩ := hgr.rules.get hb
      obtain ⟨ro3, s3, t3, hg3, hid3, hat3⟩ := hgr.rules.row.read hu1
      obtain ⟨ro4, s4, t4, hg4, hid4, hat4⟩ := hgr.rules.row.read hv1
      rw [hg3] at hg4
      injection hg4 with hg4
      injection hg4 with e1 e2 e3
      subst e1 e2 e3
      have hC3 : cget t3 (soff vr + n0 * 3 + 1) = some uu := hat3 1 _ rfl
      have hC4 : cget t3 (soff vr + n2 * 3) = some (.i .i64 b0) := hat4 0 _ rfl
      obtain ⟨hu3, hu4⟩ := hu2.sl
      simp only at hu3 hu4
      have hbf : badF g ((n0 : Int), x1, (n2 : Int)) = if x1 < 0 ∨ (ar.length : Int) ≤ x1 then true else match ar[x1.toNat]? with
          | some s => decide (s ≠ b0)
          | none => true := by
        unfold badF
        rw [if_neg (by simp only; omega)]
        simp only [Int.toNat_natCast, ha, hb]
        try rfl
      by_cases c4 : x1 < 0
      · have d4 : decide (x1 < 0) = true := decide_eq_true c4
        simp (maxSteps := 4000000) (disch := first | omega | assumption | (simp only [bxS, bxV, stOk, Nat.reduceBEq, Nat.reduceEqDiff, Nat.reduceAdd]; done) | (simp only [bxU]; omega) | ((try apply has_setN); apply has_ofL; simp only [bxL]; omega)) only [↓bxD, bxP, bxQ, bxQ2, Nat.reduceBEq, reduceCtorEq, Nat.reduceAdd, Nat.reduceSub, Nat.reduceMul, Nat.reduceLeDiff, Nat.reduceLT, bxR, hq, h8, hr1, hr2, hf1, hf2, hbox2, ixA_0, ixA_1, ixA_2, h9, d0, d1, d2, d3, hg3, hC3, hC4, hu3, hu4, d4]
        have e : formP g = (-1, 6) := hbad (by rw [hbf, if_pos (by omega)])
        show Wp fns K16_7 _ _ _
        unfold K16_7
        simp (maxSteps := 4000000) (disch := first | omega | assumption | (simp only [bxS, bxV, stOk, Nat.reduceBEq, Nat.reduceEqDiff, Nat.reduceAdd]; done) | (simp only [bxU]; omega) | ((try apply has_setN); apply has_ofL; simp only [bxL]; omega)) only [↓bxD, bxP, bxQ, bxQ2, Nat.reduceBEq, reduceCtorEq, Nat.reduceAdd, Nat.reduceSub, Nat.reduceMul, Nat.reduceLeDiff, Nat.reduceLT, bxR, hq, h8, hr1, hr2, hf1, hf2, hbox2, ixA_0, ixA_1, ixA_2, h9, d0, d1, d2, d3, hg3, hC3, hC4, hu3, hu4, d4]
        unfold FormPost
        rw [e]
        exact ⟨rfl, hxx⟩
      have d4 : decide (x1 < 0) = false := decide_eq_false c4
      by_cases c5 : (ar.length : Int) ≤ x1
      · have d5 : decide ((ar.length : Int) ≤ x1) = true := decide_eq_true c5
        simp (maxSteps := 4000000) (disch := first | omega | assumption | (simp only [bxS, bxV, stOk, Nat.reduceBEq, Nat.reduceEqDiff, Nat.reduceAdd]; done) | (simp only [bxU]; omega) | ((try apply has_setN); apply has_ofL; simp only [bxL]; omega)) only [↓bxD, bxP, bxQ, bxQ2, Nat.reduceBEq, reduceCtorEq, Nat.reduceAdd, Nat.reduceSub, Nat.reduceMul, Nat.reduceLeDiff, Nat.reduceLT, bxR, hq, h8, hr1, hr2, hf1, hf2, hbox2, ixA_0, ixA_1, ixA_2, h9, d0, d1, d2, d3, hg3, hC3, hC4, hu3, hu4, d4, d5]
        have e : formP g = (-1, 6) := hbad (by rw [hbf, if_pos (by omega)])
        show Wp fns K16_7 _ _ _
        unfold K16_7
        simp (maxSteps := 4000000) (disch := first | omega | assumption | (simp only [bxS, bxV, stOk, Nat.reduceBEq, Nat.reduceEqDiff, Nat.reduceAdd]; done) | (simp only [bxU]; omega) | ((try apply has_setN); apply has_ofL; simp only [bxL]; omega)) only [↓bxD, bxP, bxQ, bxQ2, Nat.reduceBEq, reduceCtorEq, Nat.reduceAdd, Nat.reduceSub, Nat.reduceMul, Nat.reduceLeDiff, Nat.reduceLT, bxR, hq, h8, hr1, hr2, hf1, hf2, hbox2, ixA_0, ixA_1, ixA_2, h9, d0, d1, d2, d3, hg3, hC3, hC4, hu3, hu4, d4, d5]
        unfold FormPost
        rw [e]
        exact ⟨rfl, hxx⟩
      have d5 : decide ((ar.length : Int) ≤ x1) = false := decide_eq_false c5
      obtain ⟨n1, rfl⟩ : ∃ n : Nat, x1 = n := ⟨x1.toNat, by omega⟩
      have hi1 : n1 < ar.length := by omega
      obtain ⟨z, hz1⟩ : ∃ z, ar[n1]? = some z := ⟨_, List.getElem?_eq_getElem hi1⟩
      obtain ⟨ro5, s5, t5, hg5, hid5, hC5⟩ := hu2.read hz1
      by_cases c6 : z ≠ b0
      · have d6 : decide (z ≠ b0) = true := decide_eq_true c6
        simp (maxSteps := 4000000) (disch := first | omega | assumption | (simp only [bxS, bxV, stOk, Nat.reduceBEq, Nat.reduceEqDiff, Nat.reduceAdd]; done) | (simp only [bxU]; omega) | ((try apply has_setN); apply has_ofL; simp only [bxL]; omega)) only [↓bxD, bxP, bxQ, bxQ2, Nat.reduceBEq, reduceCtorEq, Nat.reduceAdd, Nat.reduceSub, Nat.reduceMul, Nat.reduceLeDiff, Nat.reduceLT, bxR, hq, h8, hr1, hr2, hf1, hf2, hbox2, ixA_0, ixA_1, ixA_2, h9, d0, d1, d2, d3, hg3, hC3, hC4, hu3, hu4, d4, d5, hg5, hC5, d6]
        have e : formP g = (-1, 6) := hbad (by rw [hbf, if_neg (by omega)]; simp only [Int.toNat_natCast, hz1]; exact d6)
        show Wp fns K16_7 _ _ _
        unfold K16_7
        simp (maxSteps := 4000000) (disch := first | omega | assumption | (simp only [bxS, bxV, stOk, Nat.reduceBEq, Nat.reduceEqDiff, Nat.reduceAdd]; done) | (simp only [bxU]; omega) | ((try apply has_setN); apply has_ofL; simp only [bxL]; omega)) only [↓bxD, bxP, bxQ, bxQ2, Nat.reduceBEq, reduceCtorEq, Nat.reduceAdd, Nat.reduceSub, Nat.reduceMul, Nat.reduceLeDiff, Nat.reduceLT, bxR, hq, h8, hr1, hr2, hf1, hf2, hbox2, ixA_0, ixA_1, ixA_2, h9, d0, d1, d2, d3, hg3, hC3, hC4, hu3, hu4, d4, d5, hg5, hC5, d6]
        unfold FormPost
        rw [e]
        exact ⟨rfl, hxx⟩
      have d6 : decide (z ≠ b0) = false := decide_eq_false c6
      simp (maxSteps := 4000000) (disch := first | omega | assumption | (simp only [bxS, bxV, stOk, Nat.reduceBEq, Nat.reduceEqDiff, Nat.reduceAdd]; done) | (simp only [bxU]; omega) | ((try apply has_setN); apply has_ofL; simp only [bxL]; omega)) only [↓bxD, bxP, bxQ, bxQ2, Nat.reduceBEq, reduceCtorEq, Nat.reduceAdd, Nat.reduceSub, Nat.reduceMul, Nat.reduceLeDiff, Nat.reduceLT, bxR, hq, h8, hr1, hr2, hf1, hf2, hbox2, ixA_0, ixA_1, ixA_2, h9, d0, d1, d2, d3, hg3, hC3, hC4, hu3, hu4, d4, d5, hg5, hC5, d6]
      show Wp fns K16_7 _ _ _
      unfold K16_7
      simp (maxSteps := 4000000) (disch := first | omega | assumption | (simp only [bxS, bxV, stOk, Nat.reduceBEq, Nat.reduceEqDiff, Nat.reduceAdd]; done) | (simp only [bxU]; omega) | ((try apply has_setN); apply has_ofL; simp only [bxL]; omega)) only [↓bxD, bxP, bxQ, bxQ2, Nat.reduceBEq, reduceCtorEq, Nat.reduceAdd, Nat.reduceSub, Nat.reduceMul, Nat.reduceLeDiff, Nat.reduceLT, bxR, hq, h8, hr1, hr2, hf1, hf2, hbox2, ixA_0, ixA_1, ixA_2, h9, d0, d1, d2, d3, hg3, hC3, hC4, hu3, hu4, d4, d5, hg5, hC5, d6]
      show Wp fns K16_8 _ _ _
      unfold K16_8
      simp (maxSteps := 4000000) (disch := first | omega | assumption | (simp only [bxS, bxV, stOk, Nat.reduceBEq, Nat.reduceEqDiff, Nat.reduceAdd]; done) | (simp only [bxU]; omega) | ((try apply has_setN); apply has_ofL; simp only [bxL]; omega)) only [↓bxD, bxP, bxQ, bxQ2, Nat.reduceBEq, reduceCtorEq, Nat.reduceAdd, Nat.reduceSub, Nat.reduceMul, Nat.reduceLeDiff, Nat.reduceLT, bxR, hq, h8, hr1, hr2, hf1, hf2, hbox2, ixA_0, ixA_1, ixA_2, h9, d0, d1, d2, d3, hg3, hC3, hC4, hu3, hu4, d4, d5, hg5, hC5, d6]
      have hnb : badF g ((n0 : Int), (n1 : Int), (n2 : Int)) = false := by rw [hbf, if_neg (by omega)]; simp only [Int.toNat_natCast, hz1]; exact d6
      refine ⟨i + 1, by omega, ⟨hgr, hxx, h.lo0, by omega, hbox2, ?_⟩, by omega, rfl, by rw [htk, hnb]⟩
      simp (maxSteps := 4000000) (disch := first | omega | assumption | (simp only [bxS, bxV, stOk, Nat.reduceBEq, Nat.reduceEqDiff, Nat.reduceAdd]; done) | (simp only [bxU]; omega) | ((try apply has_setN); apply has_ofL; simp only [bxL]; omega)) only [↓bxD, bxP, bxQ, bxQ2, Nat.reduceBEq, reduceCtorEq, Nat.reduceAdd, Nat.reduceSub, Nat.reduceMul, Nat.reduceLeDiff, Nat.reduceLT, bxR, hq, h8, hr1, hr2, hf1, hf2, hbox2, ixA_0, ixA_1, ixA_2, h9, d0, d1, d2, d3, hg3, hC3, hC4, hu3, hu4, d4, d5, hg5, hC5, d6]
    · have hi' : i = g.forbid.length := by omega
      subst hi'
      rw [List.take_length] at hp
      simp (maxSteps := 4000000) (disch := first | omega | assumption | (simp only [bxS, bxV, stOk, Nat.reduceBEq, Nat.reduceEqDiff, Nat.reduceAdd]; done) | (simp only [bxU]; omega) | ((try apply has_setN); apply has_ofL; simp only [bxL]; omega)) only [↓bxD, bxP, bxQ, bxQ2, Nat.reduceBEq, reduceCtorEq, Nat.reduceAdd, Nat.reduceSub, Nat.reduceMul, Nat.reduceLeDiff, Nat.reduceLT, bxR, hq, h8, hr1, hr2, hf1, hf2, hbox, ixA_0, ixA_1, ixA_2]
      show Wp fns K16_11 _ _ _
      unfold K16_11
      simp (maxSteps := 4000000) (disch := first | omega | assumption | (simp only [bxS, bxV, stOk, Nat.reduceBEq, Nat.reduceEqDiff, Nat.reduceAdd]; done) | (simp only [bxU]; omega) | ((try apply has_setN); apply has_ofL; simp only [bxL]; omega)) only [↓bxD, bxP, bxQ, bxQ2, Nat.reduceBEq, reduceCtorEq, Nat.reduceAdd, Nat.reduceSub, Nat.reduceMul, Nat.reduceLeDiff, Nat.reduceLT, bxR, hq, h8, hr1, hr2, hf1, hf2, hbox, ixA_0, ixA_1, ixA_2]
      have e : formP g = (-1, 0) := by unfold formP; rw [hh, hr]; simp only; rw [hp]; rfl
      unfold FormPost
      rw [e]
      exact ⟨rfl, h.ext⟩
  · refine ⟨⟨h.gr, h.ext, h.lo0, h.lt, h.box, ?_⟩, Nat.zero_le _, rfl, rfl⟩
    simp (maxSteps := 4000000) (disch := first | omega | assumption | (simp only [bxS, bxV, stOk, Nat.reduceBEq, Nat.reduceEqDiff, Nat.reduceAdd]; done) | (simp only [bxU]; omega) | ((try apply has_setN); apply has_ofL; simp only [bxL]; omega)) only [↓bxD, bxP, bxQ, bxQ2, Nat.reduceBEq, reduceCtorEq, Nat.reduceAdd, Nat.reduceSub, Nat.reduceMul, Nat.reduceLeDiff, Nat.reduceLT, bxR, hq]
theorem okR_eq {g : Gr} {a0 a2 : Int} {ar : List Int} : okR g (a0, ar, a2) = ((decide (0 ≤ a0) && decide (a0 < g.names)) && ar.all (symB g)) := rfl
theorem rule_loop {M0 M : MH} {g : Gr} {vr vf vc vk : MV} {es : List (List MV)} {f : Fr} (h : Rdy M0 M g vr vf vc vk es f) {a0 a2 : Int} {ar : List Int} {ur : MV} {i n5 : Nat} {c : T MV} {b : Bool} (hn5 : n5 < M.n) (hb5 : M.get n5 = some (.cs false 3 c)) (hC : At c 0 [.i .i64 a0, ur, .i .i64 a2]) (hu : IntRow M ur ar) (hw : ∀ z ∈ ar, Wf64 z) (hwl : ar.length ≤ 9223372036854775807)
    (h5 : X.ev f (.t q5) = .p n5 0) (h4 : X.ev f (.t q4) = .i .i64 (i : Int)) (h7 : X.ev f (.t q7) = .i .i64 0) (h6 : X.ev f (.t q6) = .b b) (hb : b = (decide (0 ≤ a0) && decide (a0 < g.names))) (Q : Post)
    (hnorm : ∀ f' M', Rdy M0 M' g vr vf vc vk es f' → X.ev f' (.t q4) = .i .i64 (i : Int) → ruleE g (a0, ar, a2) = none → Q .norm f' M')
    (hret : ∀ e f' M', ruleE g (a0, ar, a2) = some e → IRes.ev f' M' (.tmp q2) = some (.i .i64 (i : Int)) → IRes.ev f' M' (.tmp q3) = some (.i .i64 e) → Ext M0 M' → Q .ret f' M') :
    Wp fns (.loop L16_2) f M (blockQ 2 (thenQ fns K16_3 Q)) := by
  refine Wp_inv (σ := Nat) (fun k f1 M1 => Rdy M0 M1 g vr vf vc vk es f1 ∧ Ext M M1 ∧ k ≤ ar.length ∧ X.ev f1 (.t q5) = .p n5 0 ∧ X.ev f1 (.t q4) = .i .i64 (i : Int) ∧ X.ev f1 (.t q7) = .i .i64 (k : Int) ∧ X.ev f1 (.t q6) = .b (b && (ar.take k).all (symB g))) (fun k => ar.length - k) ?_ 0 ?_
  · rintro k f1 M1 ⟨h, hx, hk, h5, h4, h7, h6⟩
    have hq := h.fr
    have hlo := h.lo0
    have hn := h.ext.n
    have hl := h.ext.lo
    have hlt := h.lt
    have hbox := h.box
    have hg5 := (hx.old _ hn5).trans hb5
    have hu1 := hu.ext hx
    obtain ⟨hu3, hu4⟩ := hu1.sl
    have c0 : cget c 0 = some (.i .i64 a0) := hC 0 _ rfl
    have c1 : cget c 1 = some ur := hC 1 _ rfl
    have c2 : cget c 2 = some (.i .i64 a2) := hC 2 _ rfl
    have hall : ar.all (symB g) = ((ar.take k).all (symB g) && (ar.drop k).all (symB g)) := by rw [← List.all_append, List.take_append_drop]
    simp only [q1, q4, q5, q6, q7] at hq h4 h5 h6 h7
    unfold gcs at hbox
    unfold L16_2
    by_cases hk1 : k < ar.length
    · have d1 : decide ((k : Int) < (ar.length : Int)) = true := decide_eq_true (by omega)
      cases hv : (b && (ar.take k).all (symB g)) with
      | true =>
        rw [hv] at h6
        obtain ⟨z, hz⟩ : ∃ z, ar[k]? = some z := ⟨_, List.getElem?_eq_getElem hk1⟩
        obtain ⟨ro, s, t, hg, hid, hZ⟩ := hu1.read hz
        have hG : Ev.getN (ofL [MV.i IntKind.i64 g.names, MV.i IntKind.i64 g.kinds, MV.i IntKind.i64 g.start, vr, vf, vc, vk] 0) 7 0 = some (gcs g vr vf vc vk) := (at_ofL (gcs g vr vf vc vk)).getN
        simp (maxSteps := 4000000) (disch := first | omega | assumption | (simp only [bxS, bxV, stOk, Nat.reduceBEq, Nat.reduceEqDiff, Nat.reduceAdd]; done) | (simp only [bxU]; omega) | ((try apply has_setN); apply has_ofL; simp only [bxL]; omega)) only [↓bxD, bxP, bxQ, bxQ2, Nat.reduceBEq, reduceCtorEq, Nat.reduceAdd, Nat.reduceSub, Nat.reduceMul, Nat.reduceLeDiff, Nat.reduceLT, bxR, hq, h4, h5, h6, h7, hbox, hg5, hu3, hu4, c0, c1, c2, d1, hg, hZ, hG]
        show Wp fns K16_1 _ _ _
        unfold K16_1
        simp (maxSteps := 4000000) (disch := first | omega | assumption | (simp only [bxS, bxV, stOk, Nat.reduceBEq, Nat.reduceEqDiff, Nat.reduceAdd]; done) | (simp only [bxU]; omega) | ((try apply has_setN); apply has_ofL; simp only [bxL]; omega)) only [↓bxD, bxP, bxQ, bxQ2, Nat.reduceBEq, reduceCtorEq, Nat.reduceAdd, Nat.reduceSub, Nat.reduceMul, Nat.reduceLeDiff, Nat.reduceLT, bxR, hq, h4, h5, h6, h7, hbox, hg5, hu3, hu4, c0, c1, c2, d1, hg, hZ, hG]
        refine Wp_dreg_of (by omega) ?_
        simp (maxSteps := 4000000) (disch := first | omega | assumption | (simp only [bxS, bxV, stOk, Nat.reduceBEq, Nat.reduceEqDiff, Nat.reduceAdd]; done) | (simp only [bxU]; omega) | ((try apply has_setN); apply has_ofL; simp only [bxL]; omega)) only [↓bxD, bxP, bxQ, bxQ2, Nat.reduceBEq, reduceCtorEq, Nat.reduceAdd, Nat.reduceSub, Nat.reduceMul, Nat.reduceLeDiff, Nat.reduceLT, bxR, hq, h4, h5, h6, h7, hbox, hg5, hu3, hu4, c0, c1, c2, d1, hg, hZ, hG]
        refine bindP_call (symbol_any (by omega) (hw z (List.mem_of_getElem? hz))) ?_
        rintro m M2 ⟨rfl, hx2⟩
        have hn2 := hx2.n
        simp (maxSteps := 4000000) (disch := first | omega | assumption | (simp only [bxS, bxV, stOk, Nat.reduceBEq, Nat.reduceEqDiff, Nat.reduceAdd]; done) | (simp only [bxU]; omega) | ((try apply has_setN); apply has_ofL; simp only [bxL]; omega)) only [↓bxD, bxP, bxQ, bxQ2, Nat.reduceBEq, reduceCtorEq, Nat.reduceAdd, Nat.reduceSub, Nat.reduceMul, Nat.reduceLeDiff, Nat.reduceLT, bxR, hq, h4, h5, h6, h7, hbox, hg5, hu3, hu4, c0, c1, c2, d1, hg, hZ, hG]
        show Wp fns K16_0 _ _ _
        unfold K16_0
        simp (maxSteps := 4000000) (disch := first | omega | assumption | (simp only [bxS, bxV, stOk, Nat.reduceBEq, Nat.reduceEqDiff, Nat.reduceAdd]; done) | (simp only [bxU]; omega) | ((try apply has_setN); apply has_ofL; simp only [bxL]; omega)) only [↓bxD, bxP, bxQ, bxQ2, Nat.reduceBEq, reduceCtorEq, Nat.reduceAdd, Nat.reduceSub, Nat.reduceMul, Nat.reduceLeDiff, Nat.reduceLT, bxR, hq, h4, h5, h6, h7, hbox, hg5, hu3, hu4, c0, c1, c2, d1, hg, hZ, hG]
        refine ⟨k + 1, by omega, ⟨h.gr.ext hx2, h.ext.trans hx2, h.lo0, by omega, (hx2.old _ hlt).trans h.box, ?_⟩, hx.trans hx2, by omega, ?_⟩
        · simp only [bxP, bxQ, bxQ2, reduceCtorEq, hq, h4, h5, h6, h7, hbox, hg5, hu3, hu4, c0, c1, c2, d1, hg, hZ, hG]
        · exact ⟨rfl, by rw [List.take_add_one, hz, List.all_append, ← Bool.and_assoc, hv]; simp⟩
      | false =>
        rw [hv] at h6
        simp (maxSteps := 4000000) (disch := first | omega | assumption | (simp only [bxS, bxV, stOk, Nat.reduceBEq, Nat.reduceEqDiff, Nat.reduceAdd]; done) | (simp only [bxU]; omega) | ((try apply has_setN); apply has_ofL; simp only [bxL]; omega)) only [↓bxD, bxP, bxQ, bxQ2, Nat.reduceBEq, reduceCtorEq, Nat.reduceAdd, Nat.reduceSub, Nat.reduceMul, Nat.reduceLeDiff, Nat.reduceLT, bxR, hq, h4, h5, h6, h7, hbox, hg5, hu3, hu4, c0, c1, c2, d1]
        show Wp fns K16_3 _ _ _
        unfold K16_3
        simp (maxSteps := 4000000) (disch := first | omega | assumption | (simp only [bxS, bxV, stOk, Nat.reduceBEq, Nat.reduceEqDiff, Nat.reduceAdd]; done) | (simp only [bxU]; omega) | ((try apply has_setN); apply has_ofL; simp only [bxL]; omega)) only [↓bxD, bxP, bxQ, bxQ2, Nat.reduceBEq, reduceCtorEq, Nat.reduceAdd, Nat.reduceSub, Nat.reduceMul, Nat.reduceLeDiff, Nat.reduceLT, bxR, hq, h4, h5, h6, h7, hbox, hg5, hu3, hu4, c0, c1, c2, d1]
        have hok : okR g (a0, ar, a2) = false := by rw [okR_eq, ← hb, hall, ← Bool.and_assoc, hv, Bool.false_and]
        exact hret 6 _ _ (by unfold ruleE; rw [if_pos hok]) (by simp only [bxP, bxQ, bxQ2, reduceCtorEq, hq, h4, h5, h6, h7, hbox, hg5, hu3, hu4, c0, c1, c2, d1]) (by simp only [bxP, bxQ, bxQ2, reduceCtorEq, hq, h4, h5, h6, h7, hbox, hg5, hu3, hu4, c0, c1, c2, d1]) h.ext
    · have d1 : decide ((k : Int) < (ar.length : Int)) = false := decide_eq_false (by omega)
      have hkl : k = ar.length := by omega
      subst hkl
      rw [List.take_length] at h6
      have hok : okR g (a0, ar, a2) = (b && ar.all (symB g)) := by rw [okR_eq, ← hb]
      cases hv : (b && ar.all (symB g)) with
      | false =>
        rw [hv] at h6 hok
        simp (maxSteps := 4000000) (disch := first | omega | assumption | (simp only [bxS, bxV, stOk, Nat.reduceBEq, Nat.reduceEqDiff, Nat.reduceAdd]; done) | (simp only [bxU]; omega) | ((try apply has_setN); apply has_ofL; simp only [bxL]; omega)) only [↓bxD, bxP, bxQ, bxQ2, Nat.reduceBEq, reduceCtorEq, Nat.reduceAdd, Nat.reduceSub, Nat.reduceMul, Nat.reduceLeDiff, Nat.reduceLT, bxR, hq, h4, h5, h6, h7, hbox, hg5, hu3, hu4, c0, c1, c2, d1]
        show Wp fns K16_3 _ _ _
        unfold K16_3
        simp (maxSteps := 4000000) (disch := first | omega | assumption | (simp only [bxS, bxV, stOk, Nat.reduceBEq, Nat.reduceEqDiff, Nat.reduceAdd]; done) | (simp only [bxU]; omega) | ((try apply has_setN); apply has_ofL; simp only [bxL]; omega)) only [↓bxD, bxP, bxQ, bxQ2, Nat.reduceBEq, reduceCtorEq, Nat.reduceAdd, Nat.reduceSub, Nat.reduceMul, Nat.reduceLeDiff, Nat.reduceLT, bxR, hq, h4, h5, h6, h7, hbox, hg5, hu3, hu4, c0, c1, c2, d1]
        exact hret 6 _ _ (by unfold ruleE; rw [if_pos hok]) (by simp only [bxP, bxQ, bxQ2, reduceCtorEq, hq, h4, h5, h6, h7, hbox, hg5, hu3, hu4, c0, c1, c2, d1]) (by simp only [bxP, bxQ, bxQ2, reduceCtorEq, hq, h4, h5, h6, h7, hbox, hg5, hu3, hu4, c0, c1, c2, d1]) h.ext
      | true =>
        rw [hv] at h6 hok
        have hne : ¬ okR g (a0, ar, a2) = false := by rw [hok]; simp
        by_cases e8 : (8 : Int) < (ar.length : Int)
        · have d8 : decide ((8 : Int) < (ar.length : Int)) = true := decide_eq_true e8
          simp (maxSteps := 4000000) (disch := first | omega | assumption | (simp only [bxS, bxV, stOk, Nat.reduceBEq, Nat.reduceEqDiff, Nat.reduceAdd]; done) | (simp only [bxU]; omega) | ((try apply has_setN); apply has_ofL; simp only [bxL]; omega)) only [↓bxD, bxP, bxQ, bxQ2, Nat.reduceBEq, reduceCtorEq, Nat.reduceAdd, Nat.reduceSub, Nat.reduceMul, Nat.reduceLeDiff, Nat.reduceLT, bxR, hq, h4, h5, h6, h7, hbox, hg5, hu3, hu4, c0, c1, c2, d1, d8]
          show Wp fns K16_3 _ _ _
          unfold K16_3
          simp (maxSteps := 4000000) (disch := first | omega | assumption | (simp only [bxS, bxV, stOk, Nat.reduceBEq, Nat.reduceEqDiff, Nat.reduceAdd]; done) | (simp only [bxU]; omega) | ((try apply has_setN); apply has_ofL; simp only [bxL]; omega)) only [↓bxD, bxP, bxQ, bxQ2, Nat.reduceBEq, reduceCtorEq, Nat.reduceAdd, Nat.reduceSub, Nat.reduceMul, Nat.reduceLeDiff, Nat.reduceLT, bxR, hq, h4, h5, h6, h7, hbox, hg5, hu3, hu4, c0, c1, c2, d1, d8]
          exact hret 3 _ _ (by unfold ruleE; rw [if_neg hne, if_pos e8]) (by simp only [bxP, bxQ, bxQ2, reduceCtorEq, hq, h4, h5, h6, h7, hbox, hg5, hu3, hu4, c0, c1, c2, d1, d8]) (by simp only [bxP, bxQ, bxQ2, reduceCtorEq, hq, h4, h5, h6, h7, hbox, hg5, hu3, hu4, c0, c1, c2, d1, d8]) h.ext
        · have d8 : decide ((8 : Int) < (ar.length : Int)) = false := decide_eq_false e8
          by_cases e9 : a2 < Int.negSucc 999
          · have d9 : decide (a2 < Int.negSucc 999) = true := decide_eq_true e9
            simp (maxSteps := 4000000) (disch := first | omega | assumption | (simp only [bxS, bxV, stOk, Nat.reduceBEq, Nat.reduceEqDiff, Nat.reduceAdd]; done) | (simp only [bxU]; omega) | ((try apply has_setN); apply has_ofL; simp only [bxL]; omega)) only [↓bxD, bxP, bxQ, bxQ2, Nat.reduceBEq, reduceCtorEq, Nat.reduceAdd, Nat.reduceSub, Nat.reduceMul, Nat.reduceLeDiff, Nat.reduceLT, bxR, hq, h4, h5, h6, h7, hbox, hg5, hu3, hu4, c0, c1, c2, d1, d8, d9]
            show Wp fns K16_3 _ _ _
            unfold K16_3
            simp (maxSteps := 4000000) (disch := first | omega | assumption | (simp only [bxS, bxV, stOk, Nat.reduceBEq, Nat.reduceEqDiff, Nat.reduceAdd]; done) | (simp only [bxU]; omega) | ((try apply has_setN); apply has_ofL; simp only [bxL]; omega)) only [↓bxD, bxP, bxQ, bxQ2, Nat.reduceBEq, reduceCtorEq, Nat.reduceAdd, Nat.reduceSub, Nat.reduceMul, Nat.reduceLeDiff, Nat.reduceLT, bxR, hq, h4, h5, h6, h7, hbox, hg5, hu3, hu4, c0, c1, c2, d1, d8, d9]
            exact hret 1 _ _ (by unfold ruleE; rw [if_neg hne, if_neg e8, if_pos (by simp only; omega)]) (by simp only [bxP, bxQ, bxQ2, reduceCtorEq, hq, h4, h5, h6, h7, hbox, hg5, hu3, hu4, c0, c1, c2, d1, d8, d9]) (by simp only [bxP, bxQ, bxQ2, reduceCtorEq, hq, h4, h5, h6, h7, hbox, hg5, hu3, hu4, c0, c1, c2, d1, d8, d9]) h.ext
          · have d9 : decide (a2 < Int.negSucc 999) = false := decide_eq_false e9
            by_cases e10 : 1000 < a2
            · have d10 : decide (1000 < a2) = true := decide_eq_true e10
              simp (maxSteps := 4000000) (disch := first | omega | assumption | (simp only [bxS, bxV, stOk, Nat.reduceBEq, Nat.reduceEqDiff, Nat.reduceAdd]; done) | (simp only [bxU]; omega) | ((try apply has_setN); apply has_ofL; simp only [bxL]; omega)) only [↓bxD, bxP, bxQ, bxQ2, Nat.reduceBEq, reduceCtorEq, Nat.reduceAdd, Nat.reduceSub, Nat.reduceMul, Nat.reduceLeDiff, Nat.reduceLT, bxR, hq, h4, h5, h6, h7, hbox, hg5, hu3, hu4, c0, c1, c2, d1, d8, d9, d10]
              show Wp fns K16_3 _ _ _
              unfold K16_3
              simp (maxSteps := 4000000) (disch := first | omega | assumption | (simp only [bxS, bxV, stOk, Nat.reduceBEq, Nat.reduceEqDiff, Nat.reduceAdd]; done) | (simp only [bxU]; omega) | ((try apply has_setN); apply has_ofL; simp only [bxL]; omega)) only [↓bxD, bxP, bxQ, bxQ2, Nat.reduceBEq, reduceCtorEq, Nat.reduceAdd, Nat.reduceSub, Nat.reduceMul, Nat.reduceLeDiff, Nat.reduceLT, bxR, hq, h4, h5, h6, h7, hbox, hg5, hu3, hu4, c0, c1, c2, d1, d8, d9, d10]
              exact hret 1 _ _ (by unfold ruleE; rw [if_neg hne, if_neg e8, if_pos (by simp only; omega)]) (by simp only [bxP, bxQ, bxQ2, reduceCtorEq, hq, h4, h5, h6, h7, hbox, hg5, hu3, hu4, c0, c1, c2, d1, d8, d9, d10]) (by simp only [bxP, bxQ, bxQ2, reduceCtorEq, hq, h4, h5, h6, h7, hbox, hg5, hu3, hu4, c0, c1, c2, d1, d8, d9, d10]) h.ext
            · have d10 : decide (1000 < a2) = false := decide_eq_false e10
              simp (maxSteps := 4000000) (disch := first | omega | assumption | (simp only [bxS, bxV, stOk, Nat.reduceBEq, Nat.reduceEqDiff, Nat.reduceAdd]; done) | (simp only [bxU]; omega) | ((try apply has_setN); apply has_ofL; simp only [bxL]; omega)) only [↓bxD, bxP, bxQ, bxQ2, Nat.reduceBEq, reduceCtorEq, Nat.reduceAdd, Nat.reduceSub, Nat.reduceMul, Nat.reduceLeDiff, Nat.reduceLT, bxR, hq, h4, h5, h6, h7, hbox, hg5, hu3, hu4, c0, c1, c2, d1, d8, d9, d10]
              show Wp fns K16_3 _ _ _
              unfold K16_3
              simp (maxSteps := 4000000) (disch := first | omega | assumption | (simp only [bxS, bxV, stOk, Nat.reduceBEq, Nat.reduceEqDiff, Nat.reduceAdd]; done) | (simp only [bxU]; omega) | ((try apply has_setN); apply has_ofL; simp only [bxL]; omega)) only [↓bxD, bxP, bxQ, bxQ2, Nat.reduceBEq, reduceCtorEq, Nat.reduceAdd, Nat.reduceSub, Nat.reduceMul, Nat.reduceLeDiff, Nat.reduceLT, bxR, hq, h4, h5, h6, h7, hbox, hg5, hu3, hu4, c0, c1, c2, d1, d8, d9, d10]
              refine hnorm _ _ ⟨h.gr, h.ext, h.lo0, h.lt, h.box, ?_⟩ ?_ (by unfold ruleE; rw [if_neg hne, if_neg e8, if_neg (by simp only; omega)])
              · simp only [bxP, bxQ, bxQ2, reduceCtorEq, hq, h4, h5, h6, h7, hbox, hg5, hu3, hu4, c0, c1, c2, d1, d8, d9, d10]
              · simp only [bxP, bxQ, bxQ2, reduceCtorEq, hq, h4, h5, h6, h7, hbox, hg5, hu3, hu4, c0, c1, c2, d1, d8, d9, d10]
  · exact ⟨h, Ext.refl M, Nat.zero_le _, h5, h4, h7, by rw [h6]; simp⟩
theorem form_rules {M0 M : MH} {g : Gr} {vr vf vc vk : MV} {es : List (List MV)} {f : Fr} (h : Rdy M0 M g vr vf vc vk es f) (hh : headE g = none) : Wp fns K16_13 f M (retQ F16 (FormPost g M0)) := by
  have hq := h.fr
  simp only [q1] at hq
  unfold K16_13
  simp (maxSteps := 4000000) (disch := first | omega | assumption | (simp only [bxS, bxV, stOk, Nat.reduceBEq, Nat.reduceEqDiff, Nat.reduceAdd]; done) | (simp only [bxU]; omega) | ((try apply has_setN); apply has_ofL; simp only [bxL]; omega)) only [↓bxD, bxP, bxQ, bxQ2, Nat.reduceBEq, reduceCtorEq, Nat.reduceAdd, Nat.reduceSub, Nat.reduceMul, Nat.reduceLeDiff, Nat.reduceLT, bxR, hq]
  refine Wp_inv (σ := Nat) (fun i f M' => Rdy M0 M' g vr vf vc vk es f ∧ i ≤ g.rules.length ∧ X.ev f (.t q4) = .i .i64 (i : Int) ∧ findE (ruleE g) g.rules 0 = findE (ruleE g) (g.rules.drop i) i) (fun i => g.rules.length - i) ?_ 0 ?_
  · rintro i f M' ⟨h, hi, h4, hp⟩
    have hq := h.fr
    obtain ⟨hr1, hr2⟩ := h.gr.rules.row.sl
    rw [h.gr.rules.len] at hr2
    have hlo := h.lo0
    have hn := h.ext.n
    have hl := h.ext.lo
    have hlt := h.lt
    have hbox := h.box
    obtain ⟨hw1, hw2, _, _⟩ := h.gr.wf.lens
    simp only [q1, q4] at hq h4
    unfold gcs at hbox
    unfold L16_6
    simp (maxSteps := 4000000) (disch := first | omega | assumption | (simp only [bxS, bxV, stOk, Nat.reduceBEq, Nat.reduceEqDiff, Nat.reduceAdd]; done) | (simp only [bxU]; omega) | ((try apply has_setN); apply has_ofL; simp only [bxL]; omega)) only [↓bxD, bxP, bxQ, bxQ2, Nat.reduceBEq, reduceCtorEq, Nat.reduceAdd, Nat.reduceSub, Nat.reduceMul, Nat.reduceLeDiff, Nat.reduceLT, bxR, hq, h4, hr1, hr2, hbox]
    refine condP_split (fun hlt2 => ?_) (fun hge => ?_)
    · have hi' : i < g.rules.length := by omega
      obtain ⟨r, hr⟩ : ∃ r, g.rules[i]? = some r := ⟨_, List.getElem?_eq_getElem hi'⟩
      obtain ⟨a0, ar, a2⟩ := r
      obtain ⟨ur, hu1, hu2⟩ := h.gr.rules.get hr
      obtain ⟨ro3, s3, t3, hg3, hid3, hat3⟩ := h.gr.rules.row.read hu1
      have hN : Ev.getN t3 3 (soff vr + i * 3) = some [.i .i64 a0, ur, .i .i64 a2] := hat3.getN
      obtain ⟨hu3, hu4⟩ := hu2.sl
      have hu5 := isSl_cells hu3
      have hu6 := isSl_one hu3
      have hu7 := isSl_isU hu3
      simp only at hu3 hu4
      have hst : stOk 3 (.ag [.i .i64 a0, ur, .i .i64 a2]) = true := by simp only [stOk, cells_ag, isU_ag, all_cons, all_nil, one_i, hu6]; rfl
      rw [findE_drop hr] at hp
      by_cases c0 : 0 ≤ a0
      · have d0 : decide (0 ≤ a0) = true := decide_eq_true c0
        simp (maxSteps := 4000000) (disch := first | omega | assumption | (simp only [bxS, bxV, stOk, Nat.reduceBEq, Nat.reduceEqDiff, Nat.reduceAdd]; done) | (simp only [bxU]; omega) | ((try apply has_setN); apply has_ofL; simp only [bxL]; omega)) only [↓bxD, bxP, bxQ, bxQ2, Nat.reduceBEq, reduceCtorEq, Nat.reduceAdd, Nat.reduceSub, Nat.reduceMul, Nat.reduceLeDiff, Nat.reduceLT, bxR, hq, h4, hr1, hr2, hbox, hg3, hN, d0, hu3, hu4, hu5, hu6, hu7]
        show Wp fns K16_5 _ _ _
        unfold K16_5
        simp (maxSteps := 4000000) (disch := first | omega | assumption | (simp only [bxS, bxV, stOk, Nat.reduceBEq, Nat.reduceEqDiff, Nat.reduceAdd]; done) | (simp only [bxU]; omega) | ((try apply has_setN); apply has_ofL; simp only [bxL]; omega)) only [↓bxD, bxP, bxQ, bxQ2, Nat.reduceBEq, reduceCtorEq, Nat.reduceAdd, Nat.reduceSub, Nat.reduceMul, Nat.reduceLeDiff, Nat.reduceLT, bxR, hq, h4, hr1, hr2, hbox, hg3, hN, d0, hu3, hu4, hu5, hu6, hu7]
        generalize hM2 : (M'.push _).set M'.n _ = M2
        have hx2 : Ext M' M2 := by rw [← hM2]; exact (Ext.push M' _).set _ (Nat.le_refl _)
        have hn2 := hx2.n
        have hl2 := hx2.lo
        have h9 : M2.get M'.n = some (.cs false 3 (setN [.i .i64 a0, ur, .i .i64 a2] 0 (ofL [.i .i64 0, .nils, .i .i64 0] 0))) := by rw [← hM2, set_same]
        have hn3 : M2.n = M'.n + 1 := by rw [← hM2]; rfl
        clear hM2
        have hwr := h.gr.wf.rules _ (List.mem_of_getElem? hr)
        refine rule_loop (i := i) (b := decide (a0 < g.names)) ⟨h.gr.ext hx2, h.ext.trans hx2, hlo, by omega, (hx2.old _ hlt).trans h.box, ?_⟩ (by omega) h9 (at_setN _ _ _) (hu2.ext hx2) hwr.2.1 hwr.2.2.2 (by simp only [bxP, bxQ, bxQ2, reduceCtorEq, hq, h4, hr1, hr2, hbox, hg3, hN, d0, hu3, hu4, hu5, hu6, hu7]) (by simp only [bxP, bxQ, bxQ2, reduceCtorEq, hq, h4, hr1, hr2, hbox, hg3, hN, d0, hu3, hu4, hu5, hu6, hu7]) (by simp only [bxP, bxQ, bxQ2, reduceCtorEq, hq, h4, hr1, hr2, hbox, hg3, hN, d0, hu3, hu4, hu5, hu6, hu7]) (by simp only [bxP, bxQ, bxQ2, reduceCtorEq, hq, h4, hr1, hr2, hbox, hg3, hN, d0, hu3, hu4, hu5, hu6, hu7]) (by rw [d0]; rfl) _ ?_ ?_
        · simp only [bxP, bxQ, bxQ2, reduceCtorEq, hq, h4, hr1, hr2, hbox, hg3, hN, d0, hu3, hu4, hu5, hu6, hu7]
        · intro f' M3 h' h4' hnone
          have h4q := h4'
          simp only [q4] at h4q
          simp (maxSteps := 4000000) (disch := first | omega | assumption | (simp only [bxS, bxV, stOk, Nat.reduceBEq, Nat.reduceEqDiff, Nat.reduceAdd]; done) | (simp only [bxU]; omega) | ((try apply has_setN); apply has_ofL; simp only [bxL]; omega)) only [↓bxD, bxP, bxQ, bxQ2, Nat.reduceBEq, reduceCtorEq, Nat.reduceAdd, Nat.reduceSub, Nat.reduceMul, Nat.reduceLeDiff, Nat.reduceLT, bxR, h4q]
          show Wp fns K16_4 _ _ _
          unfold K16_4
          simp (maxSteps := 4000000) (disch := first | omega | assumption | (simp only [bxS, bxV, stOk, Nat.reduceBEq, Nat.reduceEqDiff, Nat.reduceAdd]; done) | (simp only [bxU]; omega) | ((try apply has_setN); apply has_ofL; simp only [bxL]; omega)) only [↓bxD, bxP, bxQ, bxQ2, Nat.reduceBEq, reduceCtorEq, Nat.reduceAdd, Nat.reduceSub, Nat.reduceMul, Nat.reduceLeDiff, Nat.reduceLT, bxR, h4q]
          rw [hnone] at hp
          refine ⟨i + 1, by omega, ⟨h'.gr, h'.ext, h'.lo0, h'.lt, h'.box, ?_⟩, by omega, rfl, hp⟩
          have hq' := h'.fr
          simp only [q1] at hq'
          simp (maxSteps := 4000000) (disch := first | omega | assumption | (simp only [bxS, bxV, stOk, Nat.reduceBEq, Nat.reduceEqDiff, Nat.reduceAdd]; done) | (simp only [bxU]; omega) | ((try apply has_setN); apply has_ofL; simp only [bxL]; omega)) only [↓bxD, bxP, bxQ, bxQ2, Nat.reduceBEq, reduceCtorEq, Nat.reduceAdd, Nat.reduceSub, Nat.reduceMul, Nat.reduceLeDiff, Nat.reduceLT, bxR, h4q, hq']
        · intro e f' M3 he h2' h3' hx3
          rw [he] at hp
          have e1 : formP g = ((i : Int), e) := by unfold formP; rw [hh, hp]
          simp only [q2, q3] at h2' h3'
          simp (maxSteps := 4000000) (disch := first | omega | assumption | (simp only [bxS, bxV, stOk, Nat.reduceBEq, Nat.reduceEqDiff, Nat.reduceAdd]; done) | (simp only [bxU]; omega) | ((try apply has_setN); apply has_ofL; simp only [bxL]; omega)) only [↓bxD, bxP, bxQ, bxQ2, Nat.reduceBEq, reduceCtorEq, Nat.reduceAdd, Nat.reduceSub, Nat.reduceMul, Nat.reduceLeDiff, Nat.reduceLT, bxR, hq, h4, hr1, hr2, hbox, hg3, hN, d0, hu3, hu4, hu5, hu6, hu7, h2', h3']
          unfold FormPost
          rw [e1]
          exact ⟨rfl, hx3⟩
      · have d0 : decide (0 ≤ a0) = false := decide_eq_false c0
        simp (maxSteps := 4000000) (disch := first | omega | assumption | (simp only [bxS, bxV, stOk, Nat.reduceBEq, Nat.reduceEqDiff, Nat.reduceAdd]; done) | (simp only [bxU]; omega) | ((try apply has_setN); apply has_ofL; simp only [bxL]; omega)) only [↓bxD, bxP, bxQ, bxQ2, Nat.reduceBEq, reduceCtorEq, Nat.reduceAdd, Nat.reduceSub, Nat.reduceMul, Nat.reduceLeDiff, Nat.reduceLT, bxR, hq, h4, hr1, hr2, hbox, hg3, hN, d0, hu3, hu4, hu5, hu6, hu7]
        show Wp fns K16_5 _ _ _
        unfold K16_5
        simp (maxSteps := 4000000) (disch := first | omega | assumption | (simp only [bxS, bxV, stOk, Nat.reduceBEq, Nat.reduceEqDiff, Nat.reduceAdd]; done) | (simp only [bxU]; omega) | ((try apply has_setN); apply has_ofL; simp only [bxL]; omega)) only [↓bxD, bxP, bxQ, bxQ2, Nat.reduceBEq, reduceCtorEq, Nat.reduceAdd, Nat.reduceSub, Nat.reduceMul, Nat.reduceLeDiff, Nat.reduceLT, bxR, hq, h4, hr1, hr2, hbox, hg3, hN, d0, hu3, hu4, hu5, hu6, hu7]
        generalize hM2 : (M'.push _).set M'.n _ = M2
        have hx2 : Ext M' M2 := by rw [← hM2]; exact (Ext.push M' _).set _ (Nat.le_refl _)
        have hn2 := hx2.n
        have hl2 := hx2.lo
        have h9 : M2.get M'.n = some (.cs false 3 (setN [.i .i64 a0, ur, .i .i64 a2] 0 (ofL [.i .i64 0, .nils, .i .i64 0] 0))) := by rw [← hM2, set_same]
        have hn3 : M2.n = M'.n + 1 := by rw [← hM2]; rfl
        clear hM2
        have hwr := h.gr.wf.rules _ (List.mem_of_getElem? hr)
        refine rule_loop (i := i) (b := false) ⟨h.gr.ext hx2, h.ext.trans hx2, hlo, by omega, (hx2.old _ hlt).trans h.box, ?_⟩ (by omega) h9 (at_setN _ _ _) (hu2.ext hx2) hwr.2.1 hwr.2.2.2 (by simp only [bxP, bxQ, bxQ2, reduceCtorEq, hq, h4, hr1, hr2, hbox, hg3, hN, d0, hu3, hu4, hu5, hu6, hu7]) (by simp only [bxP, bxQ, bxQ2, reduceCtorEq, hq, h4, hr1, hr2, hbox, hg3, hN, d0, hu3, hu4, hu5, hu6, hu7]) (by simp only [bxP, bxQ, bxQ2, reduceCtorEq, hq, h4, hr1, hr2, hbox, hg3, hN, d0, hu3, hu4, hu5, hu6, hu7]) (by simp only [bxP, bxQ, bxQ2, reduceCtorEq, hq, h4, hr1, hr2, hbox, hg3, hN, d0, hu3, hu4, hu5, hu6, hu7]) (by rw [d0]; rfl) _ ?_ ?_
        · simp only [bxP, bxQ, bxQ2, reduceCtorEq, hq, h4, hr1, hr2, hbox, hg3, hN, d0, hu3, hu4, hu5, hu6, hu7]
        · intro f' M3 h' h4' hnone
          have h4q := h4'
          simp only [q4] at h4q
          simp (maxSteps := 4000000) (disch := first | omega | assumption | (simp only [bxS, bxV, stOk, Nat.reduceBEq, Nat.reduceEqDiff, Nat.reduceAdd]; done) | (simp only [bxU]; omega) | ((try apply has_setN); apply has_ofL; simp only [bxL]; omega)) only [↓bxD, bxP, bxQ, bxQ2, Nat.reduceBEq, reduceCtorEq, Nat.reduceAdd, Nat.reduceSub, Nat.reduceMul, Nat.reduceLeDiff, Nat.reduceLT, bxR, h4q]
          show Wp fns K16_4 _ _ _
          unfold K16_4
          simp (maxSteps := 4000000) (disch := first | omega | assumption | (simp only [bxS, bxV, stOk, Nat.reduceBEq, Nat.reduceEqDiff, Nat.reduceAdd]; done) | (simp only [bxU]; omega) | ((try apply has_setN); apply has_ofL; simp only [bxL]; omega)) only [↓bxD, bxP, bxQ, bxQ2, Nat.reduceBEq, reduceCtorEq, Nat.reduceAdd, Nat.reduceSub, Nat.reduceMul, Nat.reduceLeDiff, Nat.reduceLT, bxR, h4q]
          rw [hnone] at hp
          refine ⟨i + 1, by omega, ⟨h'.gr, h'.ext, h'.lo0, h'.lt, h'.box, ?_⟩, by omega, rfl, hp⟩
          have hq' := h'.fr
          simp only [q1] at hq'
          simp (maxSteps := 4000000) (disch := first | omega | assumption | (simp only [bxS, bxV, stOk, Nat.reduceBEq, Nat.reduceEqDiff, Nat.reduceAdd]; done) | (simp only [bxU]; omega) | ((try apply has_setN); apply has_ofL; simp only [bxL]; omega)) only [↓bxD, bxP, bxQ, bxQ2, Nat.reduceBEq, reduceCtorEq, Nat.reduceAdd, Nat.reduceSub, Nat.reduceMul, Nat.reduceLeDiff, Nat.reduceLT, bxR, h4q, hq']
        · intro e f' M3 he h2' h3' hx3
          rw [he] at hp
          have e1 : formP g = ((i : Int), e) := by unfold formP; rw [hh, hp]
          simp only [q2, q3] at h2' h3'
          simp (maxSteps := 4000000) (disch := first | omega | assumption | (simp only [bxS, bxV, stOk, Nat.reduceBEq, Nat.reduceEqDiff, Nat.reduceAdd]; done) | (simp only [bxU]; omega) | ((try apply has_setN); apply has_ofL; simp only [bxL]; omega)) only [↓bxD, bxP, bxQ, bxQ2, Nat.reduceBEq, reduceCtorEq, Nat.reduceAdd, Nat.reduceSub, Nat.reduceMul, Nat.reduceLeDiff, Nat.reduceLT, bxR, hq, h4, hr1, hr2, hbox, hg3, hN, d0, hu3, hu4, hu5, hu6, hu7, h2', h3']
          unfold FormPost
          rw [e1]
          exact ⟨rfl, hx3⟩
    · have hi' : i = g.rules.length := by omega
      subst hi'
      rw [List.drop_length] at hp
      simp (maxSteps := 4000000) (disch := first | omega | assumption | (simp only [bxS, bxV, stOk, Nat.reduceBEq, Nat.reduceEqDiff, Nat.reduceAdd]; done) | (simp only [bxU]; omega) | ((try apply has_setN); apply has_ofL; simp only [bxL]; omega)) only [↓bxD, bxP, bxQ, bxQ2, Nat.reduceBEq, reduceCtorEq, Nat.reduceAdd, Nat.reduceSub, Nat.reduceMul, Nat.reduceLeDiff, Nat.reduceLT, bxR, hq, h4, hr1, hr2, hbox]
      refine form_forb ⟨h.gr, h.ext, h.lo0, h.lt, h.box, ?_⟩ hh hp
      simp (maxSteps := 4000000) (disch := first | omega | assumption | (simp only [bxS, bxV, stOk, Nat.reduceBEq, Nat.reduceEqDiff, Nat.reduceAdd]; done) | (simp only [bxU]; omega) | ((try apply has_setN); apply has_ofL; simp only [bxL]; omega)) only [↓bxD, bxP, bxQ, bxQ2, Nat.reduceBEq, reduceCtorEq, Nat.reduceAdd, Nat.reduceSub, Nat.reduceMul, Nat.reduceLeDiff, Nat.reduceLT, bxR, hq, h4, hr1, hr2, hbox]
  · refine ⟨⟨h.gr, h.ext, h.lo0, h.lt, h.box, ?_⟩, Nat.zero_le _, rfl, rfl⟩
    simp (maxSteps := 4000000) (disch := first | omega | assumption | (simp only [bxS, bxV, stOk, Nat.reduceBEq, Nat.reduceEqDiff, Nat.reduceAdd]; done) | (simp only [bxU]; omega) | ((try apply has_setN); apply has_ofL; simp only [bxL]; omega)) only [↓bxD, bxP, bxQ, bxQ2, Nat.reduceBEq, reduceCtorEq, Nat.reduceAdd, Nat.reduceSub, Nat.reduceMul, Nat.reduceLeDiff, Nat.reduceLT, bxR, hq]
theorem form_head2 {M0 M : MH} {g : Gr} {vr vf vc vk : MV} {es : List (List MV)} {f : Fr} (h : Rdy M0 M g vr vf vc vk es f) (hh1 : ¬ (g.names < 1 ∨ 40 < g.names ∨ g.kinds < 0 ∨ 40 < g.kinds ∨ (60 : Int) < (g.rules.length : Int) ∨ (200 : Int) < (g.forbid.length : Int))) : Wp fns K16_15 f M (retQ F16 (FormPost g M0)) := by
  have hq := h.fr
  obtain ⟨hr1, hr2⟩ := h.gr.rules.row.sl
  rw [h.gr.rules.len] at hr2
  obtain ⟨hf1, hf2⟩ := h.gr.forbid.sl
  rw [List.length_map] at hf2
  obtain ⟨hc1, hc2⟩ := h.gr.rc.sl
  obtain ⟨hk1, hk2⟩ := h.gr.kc.sl
  have hbox := h.box
  obtain ⟨hw1, hw2, hw3, hw4⟩ := h.gr.wf.lens
  unfold gcs at hbox
  simp only [q1] at hq
  unfold K16_15
  by_cases c0 : g.start < 0
  · have d0 : decide (g.start < 0) = true := decide_eq_true c0
    simp (maxSteps := 4000000) (disch := first | omega | assumption | (simp only [bxS, bxV, stOk, Nat.reduceBEq, Nat.reduceEqDiff, Nat.reduceAdd]; done) | (simp only [bxU]; omega) | ((try apply has_setN); apply has_ofL; simp only [bxL]; omega)) only [↓bxD, bxP, bxQ, bxQ2, Nat.reduceBEq, reduceCtorEq, Nat.reduceAdd, Nat.reduceSub, Nat.reduceMul, Nat.reduceLeDiff, Nat.reduceLT, bxR, hq, hr1, hr2, hf1, hf2, hc1, hc2, hk1, hk2, hbox, d0]
    have e : formP g = (-1, 6) := by unfold formP headE; rw [if_neg hh1, if_pos (by omega)]
    unfold FormPost
    rw [e]
    exact ⟨rfl, h.ext⟩
  have d0 : decide (g.start < 0) = false := decide_eq_false c0
  by_cases c1 : g.names ≤ g.start
  · have d1 : decide (g.names ≤ g.start) = true := decide_eq_true c1
    simp (maxSteps := 4000000) (disch := first | omega | assumption | (simp only [bxS, bxV, stOk, Nat.reduceBEq, Nat.reduceEqDiff, Nat.reduceAdd]; done) | (simp only [bxU]; omega) | ((try apply has_setN); apply has_ofL; simp only [bxL]; omega)) only [↓bxD, bxP, bxQ, bxQ2, Nat.reduceBEq, reduceCtorEq, Nat.reduceAdd, Nat.reduceSub, Nat.reduceMul, Nat.reduceLeDiff, Nat.reduceLT, bxR, hq, hr1, hr2, hf1, hf2, hc1, hc2, hk1, hk2, hbox, d0, d1]
    have e : formP g = (-1, 6) := by unfold formP headE; rw [if_neg hh1, if_pos (by omega)]
    unfold FormPost
    rw [e]
    exact ⟨rfl, h.ext⟩
  have d1 : decide (g.names ≤ g.start) = false := decide_eq_false c1
  simp (maxSteps := 4000000) (disch := first | omega | assumption | (simp only [bxS, bxV, stOk, Nat.reduceBEq, Nat.reduceEqDiff, Nat.reduceAdd]; done) | (simp only [bxU]; omega) | ((try apply has_setN); apply has_ofL; simp only [bxL]; omega)) only [↓bxD, bxP, bxQ, bxQ2, Nat.reduceBEq, reduceCtorEq, Nat.reduceAdd, Nat.reduceSub, Nat.reduceMul, Nat.reduceLeDiff, Nat.reduceLT, bxR, hq, hr1, hr2, hf1, hf2, hc1, hc2, hk1, hk2, hbox, d0, d1]
  show Wp fns K16_14 _ _ _
  generalize hf : (T.set _ _ _ : Fr) = f1
  have hq : X.ev f1 (.t (Ky.k1 Dg.d1)) = .p M0.n 0 := by rw [← hf]; simp (maxSteps := 4000000) (disch := first | omega | assumption | (simp only [bxS, bxV, stOk, Nat.reduceBEq, Nat.reduceEqDiff, Nat.reduceAdd]; done) | (simp only [bxU]; omega) | ((try apply has_setN); apply has_ofL; simp only [bxL]; omega)) only [↓bxD, bxP, bxQ, bxQ2, Nat.reduceBEq, reduceCtorEq, Nat.reduceAdd, Nat.reduceSub, Nat.reduceMul, Nat.reduceLeDiff, Nat.reduceLT, bxR, hq, hr1, hr2, hf1, hf2, hc1, hc2, hk1, hk2, hbox, d0, d1]
  clear hf
  unfold K16_14
  by_cases c2 : (g.rules.length : Int) < (g.rc.length : Int)
  · have d2 : decide ((g.rules.length : Int) < (g.rc.length : Int)) = true := decide_eq_true c2
    simp (maxSteps := 4000000) (disch := first | omega | assumption | (simp only [bxS, bxV, stOk, Nat.reduceBEq, Nat.reduceEqDiff, Nat.reduceAdd]; done) | (simp only [bxU]; omega) | ((try apply has_setN); apply has_ofL; simp only [bxL]; omega)) only [↓bxD, bxP, bxQ, bxQ2, Nat.reduceBEq, reduceCtorEq, Nat.reduceAdd, Nat.reduceSub, Nat.reduceMul, Nat.reduceLeDiff, Nat.reduceLT, bxR, hq, hr1, hr2, hf1, hf2, hc1, hc2, hk1, hk2, hbox, d0, d1, d2]
    have e : formP g = (-1, 1) := by unfold formP headE; rw [if_neg hh1, if_neg (by omega), if_pos (by first | omega | simp_all)]
    unfold FormPost
    rw [e]
    exact ⟨rfl, h.ext⟩
  have d2 : decide ((g.rules.length : Int) < (g.rc.length : Int)) = false := decide_eq_false c2
  by_cases c3 : g.kinds < (g.kc.length : Int)
  · have d3 : decide (g.kinds < (g.kc.length : Int)) = true := decide_eq_true c3
    simp (maxSteps := 4000000) (disch := first | omega | assumption | (simp only [bxS, bxV, stOk, Nat.reduceBEq, Nat.reduceEqDiff, Nat.reduceAdd]; done) | (simp only [bxU]; omega) | ((try apply has_setN); apply has_ofL; simp only [bxL]; omega)) only [↓bxD, bxP, bxQ, bxQ2, Nat.reduceBEq, reduceCtorEq, Nat.reduceAdd, Nat.reduceSub, Nat.reduceMul, Nat.reduceLeDiff, Nat.reduceLT, bxR, hq, hr1, hr2, hf1, hf2, hc1, hc2, hk1, hk2, hbox, d0, d1, d2, d3]
    have e : formP g = (-1, 1) := by unfold formP headE; rw [if_neg hh1, if_neg (by omega), if_pos (by first | omega | simp_all)]
    unfold FormPost
    rw [e]
    exact ⟨rfl, h.ext⟩
  have d3 : decide (g.kinds < (g.kc.length : Int)) = false := decide_eq_false c3
  simp (maxSteps := 4000000) (disch := first | omega | assumption | (simp only [bxS, bxV, stOk, Nat.reduceBEq, Nat.reduceEqDiff, Nat.reduceAdd]; done) | (simp only [bxU]; omega) | ((try apply has_setN); apply has_ofL; simp only [bxL]; omega)) only [↓bxD, bxP, bxQ, bxQ2, Nat.reduceBEq, reduceCtorEq, Nat.reduceAdd, Nat.reduceSub, Nat.reduceMul, Nat.reduceLeDiff, Nat.reduceLT, bxR, hq, hr1, hr2, hf1, hf2, hc1, hc2, hk1, hk2, hbox, d0, d1, d2, d3]
  refine bindP_call (classes_any h.gr.rc hw3) ?_
  rintro m M2 ⟨rfl, rfl⟩
  cases hb1 : clsB g.rc with
  | false =>
    simp (maxSteps := 4000000) (disch := first | omega | assumption | (simp only [bxS, bxV, stOk, Nat.reduceBEq, Nat.reduceEqDiff, Nat.reduceAdd]; done) | (simp only [bxU]; omega) | ((try apply has_setN); apply has_ofL; simp only [bxL]; omega)) only [↓bxD, bxP, bxQ, bxQ2, Nat.reduceBEq, reduceCtorEq, Nat.reduceAdd, Nat.reduceSub, Nat.reduceMul, Nat.reduceLeDiff, Nat.reduceLT, bxR, hq, hr1, hr2, hf1, hf2, hc1, hc2, hk1, hk2, hbox, d0, d1, d2, d3, hb1]
    have e : formP g = (-1, 1) := by unfold formP headE; rw [if_neg hh1, if_neg (by omega), if_pos (.inr (.inr (.inl hb1)))]
    unfold FormPost
    rw [e]
    exact ⟨rfl, h.ext⟩
  | true =>
    simp (maxSteps := 4000000) (disch := first | omega | assumption | (simp only [bxS, bxV, stOk, Nat.reduceBEq, Nat.reduceEqDiff, Nat.reduceAdd]; done) | (simp only [bxU]; omega) | ((try apply has_setN); apply has_ofL; simp only [bxL]; omega)) only [↓bxD, bxP, bxQ, bxQ2, Nat.reduceBEq, reduceCtorEq, Nat.reduceAdd, Nat.reduceSub, Nat.reduceMul, Nat.reduceLeDiff, Nat.reduceLT, bxR, hq, hr1, hr2, hf1, hf2, hc1, hc2, hk1, hk2, hbox, d0, d1, d2, d3, hb1]
    refine bindP_call (classes_any h.gr.kc hw4) ?_
    rintro m M2 ⟨rfl, rfl⟩
    cases hb2 : clsB g.kc with
    | false =>
      simp (maxSteps := 4000000) (disch := first | omega | assumption | (simp only [bxS, bxV, stOk, Nat.reduceBEq, Nat.reduceEqDiff, Nat.reduceAdd]; done) | (simp only [bxU]; omega) | ((try apply has_setN); apply has_ofL; simp only [bxL]; omega)) only [↓bxD, bxP, bxQ, bxQ2, Nat.reduceBEq, reduceCtorEq, Nat.reduceAdd, Nat.reduceSub, Nat.reduceMul, Nat.reduceLeDiff, Nat.reduceLT, bxR, hq, hr1, hr2, hf1, hf2, hc1, hc2, hk1, hk2, hbox, d0, d1, d2, d3, hb1, hb2]
      have e : formP g = (-1, 1) := by unfold formP headE; rw [if_neg hh1, if_neg (by omega), if_pos (.inr (.inr (.inr hb2)))]
      unfold FormPost
      rw [e]
      exact ⟨rfl, h.ext⟩
    | true =>
      simp (maxSteps := 4000000) (disch := first | omega | assumption | (simp only [bxS, bxV, stOk, Nat.reduceBEq, Nat.reduceEqDiff, Nat.reduceAdd]; done) | (simp only [bxU]; omega) | ((try apply has_setN); apply has_ofL; simp only [bxL]; omega)) only [↓bxD, bxP, bxQ, bxQ2, Nat.reduceBEq, reduceCtorEq, Nat.reduceAdd, Nat.reduceSub, Nat.reduceMul, Nat.reduceLeDiff, Nat.reduceLT, bxR, hq, hr1, hr2, hf1, hf2, hc1, hc2, hk1, hk2, hbox, d0, d1, d2, d3, hb1, hb2]
      show Wp fns K16_13 _ _ _
      generalize hf : (T.set _ _ _ : Fr) = f2
      have hq : X.ev f2 (.t (Ky.k1 Dg.d1)) = .p M0.n 0 := by rw [← hf]; simp (maxSteps := 4000000) (disch := first | omega | assumption | (simp only [bxS, bxV, stOk, Nat.reduceBEq, Nat.reduceEqDiff, Nat.reduceAdd]; done) | (simp only [bxU]; omega) | ((try apply has_setN); apply has_ofL; simp only [bxL]; omega)) only [↓bxD, bxP, bxQ, bxQ2, Nat.reduceBEq, reduceCtorEq, Nat.reduceAdd, Nat.reduceSub, Nat.reduceMul, Nat.reduceLeDiff, Nat.reduceLT, bxR, hq, hr1, hr2, hf1, hf2, hc1, hc2, hk1, hk2, hbox, d0, d1, d2, d3, hb1, hb2]
      refine form_rules ⟨h.gr, h.ext, h.lo0, h.lt, h.box, by simp only [q1]; exact hq⟩ ?_
      unfold headE
      rw [if_neg hh1, if_neg (by omega), if_neg]
      rintro (x | x | x | x)
      · exact c2 x
      · exact c3 x
      · rw [hb1] at x; cases x
      · rw [hb2] at x; cases x
theorem form_any {M : MH} {g : Gr} {vr vf vc vk : MV} {es : List (List MV)} (h : GrAt M vr vf vc vk es g) (hlo : M.lo ≤ M.n) : Cp fns 16 [.ag (gcs g vr vf vc vk)] M fun m M' => m = .tp [.i .i64 (formP g).1, .i .i64 (formP g).2] ∧ Ext M M' := by
  obtain ⟨hr1, hr2⟩ := h.rules.row.sl
  rw [h.rules.len] at hr2
  obtain ⟨hf1, hf2⟩ := h.forbid.sl
  rw [List.length_map] at hf2
  obtain ⟨hc1, hc2⟩ := h.rc.sl
  obtain ⟨hk1, hk2⟩ := h.kc.sl
  refine Cp_call (fn := F16) (by kernel_rfl) (Nat.le_of_ble_eq_true rfl) ?_
  show Wp fns B16 (T.set q0 (some (.ag (gcs g vr vf vc vk))) T.lf) M _
  unfold B16 gcs
  have hx : ∀ l, Ext M (M.push (.cs false 7 (ofL l 0))) := fun l => .push M _
  by_cases ca0 : g.names < 1
  · have da0 : decide (g.names < 1) = true := decide_eq_true ca0
    simp (maxSteps := 4000000) (disch := first | omega | assumption | (simp only [bxS, bxV, stOk, Nat.reduceBEq, Nat.reduceEqDiff, Nat.reduceAdd]; done) | (simp only [bxU]; omega) | ((try apply has_setN); apply has_ofL; simp only [bxL]; omega)) only [↓bxD, bxP, bxQ, bxQ2, Nat.reduceBEq, reduceCtorEq, Nat.reduceAdd, Nat.reduceSub, Nat.reduceMul, Nat.reduceLeDiff, Nat.reduceLT, bxR, hr1, hr2, hf1, hf2, hc1, hc2, hk1, hk2, da0]
    have e : formP g = (-1, 3) := by unfold formP headE; rw [if_pos (by omega)]
    rw [e]
    exact ⟨rfl, hx _⟩
  have da0 : decide (g.names < 1) = false := decide_eq_false ca0
  by_cases ca1 : 40 < g.names
  · have da1 : decide (40 < g.names) = true := decide_eq_true ca1
    simp (maxSteps := 4000000) (disch := first | omega | assumption | (simp only [bxS, bxV, stOk, Nat.reduceBEq, Nat.reduceEqDiff, Nat.reduceAdd]; done) | (simp only [bxU]; omega) | ((try apply has_setN); apply has_ofL; simp only [bxL]; omega)) only [↓bxD, bxP, bxQ, bxQ2, Nat.reduceBEq, reduceCtorEq, Nat.reduceAdd, Nat.reduceSub, Nat.reduceMul, Nat.reduceLeDiff, Nat.reduceLT, bxR, hr1, hr2, hf1, hf2, hc1, hc2, hk1, hk2, da0, da1]
    have e : formP g = (-1, 3) := by unfold formP headE; rw [if_pos (by omega)]
    rw [e]
    exact ⟨rfl, hx _⟩
  have da1 : decide (40 < g.names) = false := decide_eq_false ca1
  by_cases ca2 : g.kinds < 0
  · have da2 : decide (g.kinds < 0) = true := decide_eq_true ca2
    simp (maxSteps := 4000000) (disch := first | omega | assumption | (simp only [bxS, bxV, stOk, Nat.reduceBEq, Nat.reduceEqDiff, Nat.reduceAdd]; done) | (simp only [bxU]; omega) | ((try apply has_setN); apply has_ofL; simp only [bxL]; omega)) only [↓bxD, bxP, bxQ, bxQ2, Nat.reduceBEq, reduceCtorEq, Nat.reduceAdd, Nat.reduceSub, Nat.reduceMul, Nat.reduceLeDiff, Nat.reduceLT, bxR, hr1, hr2, hf1, hf2, hc1, hc2, hk1, hk2, da0, da1, da2]
    have e : formP g = (-1, 3) := by unfold formP headE; rw [if_pos (by omega)]
    rw [e]
    exact ⟨rfl, hx _⟩
  have da2 : decide (g.kinds < 0) = false := decide_eq_false ca2
  by_cases ca3 : 40 < g.kinds
  · have da3 : decide (40 < g.kinds) = true := decide_eq_true ca3
    simp (maxSteps := 4000000) (disch := first | omega | assumption | (simp only [bxS, bxV, stOk, Nat.reduceBEq, Nat.reduceEqDiff, Nat.reduceAdd]; done) | (simp only [bxU]; omega) | ((try apply has_setN); apply has_ofL; simp only [bxL]; omega)) only [↓bxD, bxP, bxQ, bxQ2, Nat.reduceBEq, reduceCtorEq, Nat.reduceAdd, Nat.reduceSub, Nat.reduceMul, Nat.reduceLeDiff, Nat.reduceLT, bxR, hr1, hr2, hf1, hf2, hc1, hc2, hk1, hk2, da0, da1, da2, da3]
    have e : formP g = (-1, 3) := by unfold formP headE; rw [if_pos (by omega)]
    rw [e]
    exact ⟨rfl, hx _⟩
  have da3 : decide (40 < g.kinds) = false := decide_eq_false ca3
  by_cases ca4 : (60 : Int) < (g.rules.length : Int)
  · have da4 : decide ((60 : Int) < (g.rules.length : Int)) = true := decide_eq_true ca4
    simp (maxSteps := 4000000) (disch := first | omega | assumption | (simp only [bxS, bxV, stOk, Nat.reduceBEq, Nat.reduceEqDiff, Nat.reduceAdd]; done) | (simp only [bxU]; omega) | ((try apply has_setN); apply has_ofL; simp only [bxL]; omega)) only [↓bxD, bxP, bxQ, bxQ2, Nat.reduceBEq, reduceCtorEq, Nat.reduceAdd, Nat.reduceSub, Nat.reduceMul, Nat.reduceLeDiff, Nat.reduceLT, bxR, hr1, hr2, hf1, hf2, hc1, hc2, hk1, hk2, da0, da1, da2, da3, da4]
    have e : formP g = (-1, 3) := by unfold formP headE; rw [if_pos (by omega)]
    rw [e]
    exact ⟨rfl, hx _⟩
  have da4 : decide ((60 : Int) < (g.rules.length : Int)) = false := decide_eq_false ca4
  by_cases ca5 : (200 : Int) < (g.forbid.length : Int)
  · have da5 : decide ((200 : Int) < (g.forbid.length : Int)) = true := decide_eq_true ca5
    simp (maxSteps := 4000000) (disch := first | omega | assumption | (simp only [bxS, bxV, stOk, Nat.reduceBEq, Nat.reduceEqDiff, Nat.reduceAdd]; done) | (simp only [bxU]; omega) | ((try apply has_setN); apply has_ofL; simp only [bxL]; omega)) only [↓bxD, bxP, bxQ, bxQ2, Nat.reduceBEq, reduceCtorEq, Nat.reduceAdd, Nat.reduceSub, Nat.reduceMul, Nat.reduceLeDiff, Nat.reduceLT, bxR, hr1, hr2, hf1, hf2, hc1, hc2, hk1, hk2, da0, da1, da2, da3, da4, da5]
    have e : formP g = (-1, 3) := by unfold formP headE; rw [if_pos (by omega)]
    rw [e]
    exact ⟨rfl, hx _⟩
  have da5 : decide ((200 : Int) < (g.forbid.length : Int)) = false := decide_eq_false ca5
  simp (maxSteps := 4000000) (disch := first | omega | assumption | (simp only [bxS, bxV, stOk, Nat.reduceBEq, Nat.reduceEqDiff, Nat.reduceAdd]; done) | (simp only [bxU]; omega) | ((try apply has_setN); apply has_ofL; simp only [bxL]; omega)) only [↓bxD, bxP, bxQ, bxQ2, Nat.reduceBEq, reduceCtorEq, Nat.reduceAdd, Nat.reduceSub, Nat.reduceMul, Nat.reduceLeDiff, Nat.reduceLT, bxR, hr1, hr2, hf1, hf2, hc1, hc2, hk1, hk2, da0, da1, da2, da3, da4, da5]
  generalize hM1 : M.push _ = M1
  have hg0 : M1.get M.n = some (.cs false 7 (ofL (gcs g vr vf vc vk) 0)) := by rw [← hM1]; exact push_new _
  have hx1 : Ext M M1 := by rw [← hM1]; exact Ext.push M _
  have hn1 : M1.n = M.n + 1 := by rw [← hM1]; rfl
  have hl1 := hx1.lo
  clear hM1
  generalize hf : (T.set _ _ _ : Fr) = f1
  have hq : X.ev f1 (.t q1) = .p M.n 0 := by rw [← hf]; simp (maxSteps := 4000000) (disch := first | omega | assumption | (simp only [bxS, bxV, stOk, Nat.reduceBEq, Nat.reduceEqDiff, Nat.reduceAdd]; done) | (simp only [bxU]; omega) | ((try apply has_setN); apply has_ofL; simp only [bxL]; omega)) only [↓bxD, bxP, bxQ, bxQ2, Nat.reduceBEq, reduceCtorEq, Nat.reduceAdd, Nat.reduceSub, Nat.reduceMul, Nat.reduceLeDiff, Nat.reduceLT, bxR, hr1, hr2, hf1, hf2, hc1, hc2, hk1, hk2, da0, da1, da2, da3, da4, da5]
  clear hf
  exact form_head2 ⟨h.ext hx1, hx1, hlo, by omega, hg0, hq⟩ (by omega)
end Go.Proofs.Ytlmmmchkhaidjaa.K
set_option linter.unusedSimpArgs false
set_option linter.unusedVariables false
namespace Go.Proofs.Ytlmmmchkhaidjaa.Ev
open Go
variable {M : MH} {f : Fr} {c : CallM}
noncomputable def mksV (M : MH) (sz bytes : Nat) (zs : List MV) (x y : MV) : Option (MV × MH) := match x, y with
  | .i _ (.ofNat l), .i _ (.ofNat c) => bif Nat.ble l c && Nat.ble (bytes * c) 281474976710656 && Nat.ble c 9223372036854775807 && Nat.ble M.lo M.n then some (.sl M.n 0 l 0, M.push (.cs false sz (ofL (zrow zs c) 0))) else none
  | _, _ => none
theorem ev_mks (sz bytes : Nat) (zs : List MV) (x y : X) : Iop.ev c f M (.mks sz bytes zs x y) = mksV M sz bytes zs (x.ev f) (y.ev f) := rfl
theorem mks_ok {sz bytes : Nat} {zs : List MV} {k k' : IntKind} {n : Nat} (h1 : bytes * n ≤ 281474976710656) (h2 : n ≤ 9223372036854775807) (h3 : M.lo ≤ M.n) : mksV M sz bytes zs (.i k (n : Int)) (.i k' (n : Int)) = some (.sl M.n 0 n 0, M.push (.cs false sz (ofL (zrow zs n) 0))) := by
  show (bif Nat.ble n n && Nat.ble (bytes * n) 281474976710656 && Nat.ble n 9223372036854775807 && Nat.ble M.lo M.n then some (MV.sl M.n 0 n 0, M.push (.cs false sz (ofL (zrow zs n) 0))) else none) = _
  rw [ble_t' (Nat.le_refl n), ble_t' h1, ble_t' h2, ble_t' h3]
  rfl
theorem zrow_rep (x : MV) : ∀ n, zrow [x] n = List.replicate n x
  | 0 => rfl
  | n + 1 => by rw [zrow_succ, zrow_rep x n]; rfl
def BoolsAt (M : MH) (id : Nat) (l : List Bool) : Prop := ∃ t, M.get id = some (.cs false 1 t) ∧ At t 0 (l.map MV.b)
theorem BoolsAt.new (n : Nat) : BoolsAt (M.push (.cs false 1 (ofL (zrow [.b false] n) 0))) M.n (List.replicate n false) := ⟨_, push_new _, by rw [List.map_replicate, ← zrow_rep]; exact at_ofL _⟩
theorem BoolsAt.same {M' : MH} {id : Nat} {l : List Bool} (h : BoolsAt M id l) (e : M'.get id = M.get id) : BoolsAt M' id l := let ⟨t, h1, h2⟩ := h; ⟨t, e.trans h1, h2⟩
theorem BoolsAt.read {id : Nat} {l : List Bool} (h : BoolsAt M id l) : ∃ t, M.get id = some (.cs false 1 t) ∧ (∀ i b, l[i]? = some b → cget t (i * 1) = some (.b b)) ∧ (∀ i, i < l.length → hasB t 1 (i * 1) = true) ∧ ∀ i x, i < l.length → At (setN [.b x] (i * 1) t) 0 ((l.set i x).map MV.b) := by
  obtain ⟨t, h1, h2⟩ := h
  refine ⟨t, h1, fun i b hb => ?_, fun i hi => has_at h2 (Nat.zero_le _) (by rw [List.length_map]; omega), fun i x hi => ?_⟩
  · rw [Nat.mul_one]
    have := h2 i _ (by rw [List.getElem?_map, hb]; rfl)
    rwa [Nat.zero_add] at this
  · rw [List.map_set]
    exact h2.set' i _ (by rw [List.length_map]; exact hi) (by omega)
theorem ix_slc {s id off n d : Nat} {k : IntKind} {i : Nat} (hi : i < n) : ixV s (.sl id off n d) (.i k (i : Int)) = some (.p id (off + i * s)) := ix_sl (v := .sl id off n d) rfl hi
theorem len_slc (id off n d : Nat) : lenV (.sl id off n d) = some (.i .i64 (n : Int)) := rfl
theorem flat_bools : ∀ l : List Bool, (l.map fun b => [MV.b b]).flatten = l.map MV.b
  | [] => rfl
  | b :: l => by rw [List.map_cons, List.flatten_cons, flat_bools l]; rfl
theorem BoolsAt.row {id : Nat} {l : List Bool} (h : BoolsAt M id l) (hid : id < M.n) : RowAt M 1 (.sl id 0 l.length 0) (l.map fun b => [.b b]) := by
  obtain ⟨t, h1, h2⟩ := h
  refine ⟨fun e he => ?_, .inr ⟨id, 0, 0, false, 1, t, by rw [List.length_map], h1, hid, ?_⟩⟩
  · obtain ⟨b, _, rfl⟩ := List.mem_map.1 he; rfl
  · rw [flat_bools]; exact h2
end Go.Proofs.Ytlmmmchkhaidjaa.Ev
set_option linter.unusedSimpArgs false
set_option linter.unusedVariables false
namespace Go.Proofs.Ytlmmmchkhaidjaa.Ev
open Go
theorem findE_none {α : Type} {f : α → Option Int} : ∀ {l : List α} {i : Nat}, findE f l i = none → ∀ r ∈ l, f r = none
  | [], i, h, r, hr => by cases hr
  | a :: l, i, h, r, hr => by
    unfold findE at h
    cases ha : f a with
    | some e => rw [ha] at h; cases h
    | none =>
      rw [ha] at h
      rcases List.mem_cons.1 hr with rfl | hr
      · exact ha
      · exact findE_none h r hr
structure GrOk (g : Gr) : Prop where
  n1 : 1 ≤ g.names
  n2 : g.names ≤ 40
  k1 : 0 ≤ g.kinds
  k2 : g.kinds ≤ 40
  rl : g.rules.length ≤ 60
  s1 : 0 ≤ g.start
  s2 : g.start < g.names
  left : ∀ r ∈ g.rules, 0 ≤ r.1 ∧ r.1 < g.names
  sym : ∀ r ∈ g.rules, ∀ s ∈ r.2.1, symB g s = true
  len : ∀ r ∈ g.rules, r.2.1.length ≤ 8
theorem findE_pos {g : Gr} : ∀ {l : List (Int × List Int × Int)} {i : Nat} {x : Nat × Int}, findE (ruleE g) l i = some x → x.2 ≠ 0
  | [], i, x, h => by cases h
  | a :: l, i, x, h => by
    unfold findE at h
    cases ha : ruleE g a with
    | some e =>
      rw [ha] at h
      injection h with h
      subst h
      unfold ruleE at ha
      intro e0
      simp only at e0
      subst e0
      split at ha
      · cases ha
      · split at ha
        · cases ha
        · split at ha
          · cases ha
          · cases ha
    | none => rw [ha] at h; exact findE_pos h
theorem form_ok {g : Gr} (h : (formP g).2 = 0) : GrOk g := by
  unfold formP at h
  cases hh : headE g with
  | some e =>
    rw [hh] at h
    simp only at h
    subst h
    unfold headE at hh
    split at hh
    · cases hh
    · split at hh
      · cases hh
      · split at hh <;> cases hh
  | none =>
    rw [hh] at h
    simp only at h
    cases hf : findE (ruleE g) g.rules 0 with
    | some x =>
      rw [hf] at h
      exact absurd h (findE_pos hf)
    | none =>
      have hall := findE_none hf
      unfold headE at hh
      split at hh
      · cases hh
      rename_i c1
      split at hh
      · cases hh
      rename_i c2
      have hr : ∀ r ∈ g.rules, okR g r = true ∧ r.2.1.length ≤ 8 := fun r hr => by
        have := hall r hr
        unfold ruleE at this
        split at this
        · cases this
        rename_i d1
        split at this
        · cases this
        rename_i d2
        exact ⟨by simpa using d1, by omega⟩
      refine ⟨by omega, by omega, by omega, by omega, by omega, by omega, by omega, fun r h => ?_, fun r h s hs => ?_, fun r h => (hr r h).2⟩
      · have := (hr r h).1
        unfold okR at this
        simp only [Bool.and_eq_true, decide_eq_true_eq] at this
        exact this.1
      · have := (hr r h).1
        unfold okR at this
        simp only [Bool.and_eq_true] at this
        exact List.all_eq_true.1 this.2 s hs
theorem symB_lt {g : Gr} {s : Int} (h : symB g s = true) (h0 : 0 ≤ s) : s < g.names := by
  unfold symB at h
  rw [if_neg (by omega)] at h
  simpa using h
inductive Nul (g : Gr) : Nat → Prop
  | mk (r : Int × List Int × Int) (hr : r ∈ g.rules) (h0 : ∀ s ∈ r.2.1, 0 ≤ s) (h : ∀ s ∈ r.2.1, Nul g s.toNat) : Nul g r.1.toNat
def oneN (l : List Bool) (s : Int) : Bool := decide (0 ≤ s) && l.getD s.toNat false
def allN (l : List Bool) (r : List Int) : Bool := r.all (oneN l)
def NulSound (g : Gr) (l : List Bool) : Prop := ∀ a, l[a]? = some true → Nul g a
theorem NulSound.set {g : Gr} {l : List Bool} (h : NulSound g l) {r : Int × List Int × Int} (hr : r ∈ g.rules) (ha : allN l r.2.1 = true) : NulSound g (l.set r.1.toNat true) := fun a e => by
  rw [List.getElem?_set] at e
  split at e
  · rename_i e1
    subst e1
    have hall := List.all_eq_true.1 ha
    unfold oneN at hall
    refine .mk r hr (fun s hs => ?_) fun s hs => ?_
    · have := hall s hs
      simp only [Bool.and_eq_true, decide_eq_true_eq] at this
      exact this.1
    · have := hall s hs
      simp only [Bool.and_eq_true, decide_eq_true_eq] at this
      refine h _ ?_
      have h2 := this.2
      rw [List.getD_eq_getElem?_getD] at h2
      cases hx : l[s.toNat]? with
      | none => rw [hx] at h2; cases h2
      | some b => rw [hx] at h2; simp only [Option.getD_some] at h2; rw [h2]
  · exact h a e
end Go.Proofs.Ytlmmmchkhaidjaa.Ev
set_option linter.unusedSimpArgs false
set_option linter.unusedVariables false
namespace Go.Proofs.Ytlmmmchkhaidjaa.Ev
open Go
inductive Rch (g : Gr) : Nat → Prop
  | start : Rch g g.start.toNat
  | step (r : Int × List Int × Int) (hr : r ∈ g.rules) (h : Rch g r.1.toNat) (s : Int) (hs : s ∈ r.2.1) (h0 : 0 ≤ s) : Rch g s.toNat
def RchSound (g : Gr) (l : List Bool) : Prop := ∀ a, l[a]? = some true → Rch g a
def RchVec (g : Gr) (l : List Bool) : Prop := l.length = g.names.toNat ∧ ∀ a, l[a]? = some true ↔ Rch g a
theorem RchSound.set {g : Gr} {l : List Bool} (h : RchSound g l) {i : Nat} (hi : Rch g i) : RchSound g (l.set i true) := fun a e => by
  rw [List.getElem?_set] at e
  split at e
  · rename_i e1; subst e1; exact hi
  · exact h a e
end Go.Proofs.Ytlmmmchkhaidjaa.Ev
set_option linter.unusedSimpArgs false
set_option linter.unusedVariables false
namespace Go.Proofs.Ytlmmmchkhaidjaa.Ev
open Go
def bAt (l : List Bool) (i : Nat) : Bool := l.getD i false
theorem bAt_some {l : List Bool} {i : Nat} {b : Bool} (h : l[i]? = some b) : bAt l i = b := by unfold bAt; rw [List.getD_eq_getElem?_getD, h]; rfl
theorem bAt_at {l : List Bool} {i : Nat} (h : i < l.length) : l[i]? = some (bAt l i) := by
  unfold bAt
  rw [List.getD_eq_getElem?_getD, List.getElem?_eq_getElem h]
  rfl
def BRow (M : MH) (v : MV) (l : List Bool) : Prop := RowAt M 1 v (l.map fun b => [.b b])
theorem BRow.ext {M M' : MH} {v : MV} {l : List Bool} (h : BRow M v l) (k : Ext M M') : BRow M' v l := RowAt.ext h k
theorem BRow.sl {M : MH} {v : MV} {l : List Bool} (h : BRow M v l) : isSl v = true ∧ slen v = l.length := by
  obtain ⟨a, b⟩ := RowAt.sl h
  exact ⟨a, by rw [b, List.length_map]⟩
theorem BRow.read {M : MH} {v : MV} {l : List Bool} (h : BRow M v l) {i : Nat} (hi : i < l.length) : ∃ ro s c, M.get (sid v) = some (.cs ro s c) ∧ sid v < M.n ∧ cget c (soff v + i * 1) = some (.b (bAt l i)) := by
  obtain ⟨ro, s, c, h1, h2, h3⟩ := RowAt.read h (i := i) (e := [.b (bAt l i)]) (by rw [List.getElem?_map, bAt_at hi]; rfl)
  exact ⟨ro, s, c, h1, h2, h3 0 _ rfl⟩
structure MRow (M : MH) (v : MV) (es : List (List MV)) (F : List (List Bool)) : Prop where
  row : RowAt M 1 v es
  len : es.length = F.length
  at_ : ∀ (i : Nat) l, F[i]? = some l → ∃ ur, es[i]? = some [ur] ∧ BRow M ur l
theorem MRow.ext {M M' : MH} {v : MV} {es : List (List MV)} {F : List (List Bool)} (h : MRow M v es F) (k : Ext M M') : MRow M' v es F := ⟨h.row.ext k, h.len, fun i l hl => let ⟨ur, h1, h2⟩ := h.at_ i l hl; ⟨ur, h1, h2.ext k⟩⟩
theorem MRow.read {M : MH} {v : MV} {es : List (List MV)} {F : List (List Bool)} (h : MRow M v es F) {i : Nat} {l : List Bool} (hl : F[i]? = some l) : ∃ ur ro s c, M.get (sid v) = some (.cs ro s c) ∧ sid v < M.n ∧ cget c (soff v + i * 1) = some ur ∧ BRow M ur l := by
  obtain ⟨ur, h1, h2⟩ := h.at_ i l hl
  obtain ⟨ro, s, c, h3, h4, h5⟩ := h.row.read h1
  exact ⟨ur, ro, s, c, h3, h4, h5 0 _ rfl, h2⟩
structure Fit (g : Gr) (null : List Bool) (F : List (List Bool)) : Prop where
  n : null.length = g.names.toNat
  f : F.length = g.names.toNat
  r : ∀ x ∈ F, x.length = g.kinds.toNat + 1
end Go.Proofs.Ytlmmmchkhaidjaa.Ev
set_option linter.unusedSimpArgs false
set_option linter.unusedVariables false
namespace Go.Proofs.Ytlmmmchkhaidjaa.K
open Go Ev
set_option maxRecDepth 100000
set_option maxHeartbeats 4000000

structure NSt (M0 M : MH) (g : Gr) (vr vf vc vk : MV) (es : List (List MV)) (id : Nat) (l : List Bool) (f : Fr) : Prop where
  gr : GrAt M0 vr vf vc vk es g
  ok : GrOk g
  ext : Ext M0 M
  lo0 : M0.lo ≤ M0.n
  b0 : M.get M0.n = some (.cs false 7 (ofL (gcs g vr vf vc vk) 0))
  id1 : M0.n < id
  id2 : id < M.n
  row : BoolsAt M id l
  len : l.length = g.names.toNat
  q1 : X.ev f (.t q1) = .p M0.n 0
  q3 : X.ev f (.t q3) = .sl id 0 l.length 0
end Go.Proofs.Ytlmmmchkhaidjaa.K
set_option linter.unusedSimpArgs false
set_option linter.unusedVariables false
namespace Go.Proofs.Ytlmmmchkhaidjaa.Ev
open Go
def mostZ : Int := 1000000000
def shV (l : List Int) (s : Int) : Int := if s < 0 then 1 else l.getD s.toNat (-1)
def shOk (l : List Int) (r : List Int) : Bool := r.all fun s => decide (0 ≤ shV l s)
def shSum (l : List Int) (r : List Int) : Int := (r.map (shV l)).sum
def shRow (l : List Int) (r : List Int) : Int := if shOk l r = true then min (shSum l r) mostZ else -1
def shCond (l : List Int) (r : Int × List Int × Int) : Bool := decide (0 ≤ shRow l r.2.1) && (decide (l.getD r.1.toNat (-1) < 0) || decide (shRow l r.2.1 < l.getD r.1.toNat (-1)))
def shStep (l : List Int) (r : Int × List Int × Int) : List Int := if shCond l r = true then l.set r.1.toNat (shRow l r.2.1) else l
def shRnd (rs : List (Int × List Int × Int)) (l : List Int) : List Int := rs.foldl shStep l
def shIt (g : Gr) : Nat → List Int
  | 0 => List.replicate g.names.toNat (-1)
  | n + 1 => shRnd g.rules (shIt g n)
def ShStill (rs : List (Int × List Int × Int)) (l : List Int) : Prop := ∀ r ∈ rs, shCond l r = false
theorem sh_still : ∀ {rs : List (Int × List Int × Int)} {l : List Int}, ShStill rs l → shRnd rs l = l
  | [], l, h => rfl
  | r :: rs, l, h => by
    show shRnd rs (shStep l r) = l
    have e : shStep l r = l := by unfold shStep; rw [h r List.mem_cons_self]; rfl
    rw [e]
    exact sh_still fun x hx => h x (List.mem_cons_of_mem _ hx)
def ShVec (g : Gr) (l : List Int) : Prop := (∃ n, l = shIt g n) ∧ ShStill g.rules l
theorem shIt_stay {g : Gr} {n : Nat} (h : shRnd g.rules (shIt g n) = shIt g n) : ∀ k, shIt g (n + k) = shIt g n
  | 0 => rfl
  | k + 1 => by
    show shRnd g.rules (shIt g (n + k)) = _
    rw [shIt_stay h k, h]
theorem sh_ext {g : Gr} {a b : List Int} (ha : ShVec g a) (hb : ShVec g b) : a = b := by
  obtain ⟨⟨n, rfl⟩, h1⟩ := ha
  obtain ⟨⟨m, rfl⟩, h2⟩ := hb
  rcases Nat.le_total n m with h | h
  · obtain ⟨k, rfl⟩ := Nat.exists_eq_add_of_le h
    exact (shIt_stay (sh_still h1) k).symm
  · obtain ⟨k, rfl⟩ := Nat.exists_eq_add_of_le h
    exact shIt_stay (sh_still h2) k
structure ShIn (g : Gr) (l : List Int) : Prop where
  len : l.length = g.names.toNat
  lo : ∀ z ∈ l, -1 ≤ z ∧ z ≤ mostZ
  met : ∀ (a : Nat) z, l[a]? = some z → 0 ≤ z → ∃ r ∈ g.rules, r.1.toNat = a ∧ shOk l r.2.1 = true ∧ shRow l r.2.1 ≤ z
theorem shV_lo {l : List Int} (h : ∀ z ∈ l, -1 ≤ z ∧ z ≤ mostZ) (s : Int) : -1 ≤ shV l s ∧ shV l s ≤ mostZ := by
  unfold shV mostZ at *
  split
  · omega
  · rw [List.getD_eq_getElem?_getD]
    cases hx : l[s.toNat]? with
    | none => simp only [Option.getD_none]; omega
    | some z => exact h z (List.mem_of_getElem? hx)
def ShLe (a b : List Int) : Prop := ∀ s, 0 ≤ shV b s → 0 ≤ shV a s ∧ shV a s ≤ shV b s
theorem ShLe.refl (a : List Int) : ShLe a a := fun s h => ⟨h, Int.le_refl _⟩
theorem ShLe.trans {a b c : List Int} (h : ShLe a b) (k : ShLe b c) : ShLe a c := fun s hs => by
  obtain ⟨h1, h2⟩ := k s hs
  obtain ⟨h3, h4⟩ := h s h1
  exact ⟨h3, by omega⟩
theorem ShLe.ok {a b : List Int} (h : ShLe a b) {r : List Int} (hr : shOk b r = true) : shOk a r = true := by
  unfold shOk at *
  rw [List.all_eq_true] at *
  intro s hs
  have := hr s hs
  simp only [decide_eq_true_eq] at *
  exact (h s this).1
theorem ShLe.sum {a b : List Int} (h : ShLe a b) : ∀ {r : List Int}, shOk b r = true → shSum a r ≤ shSum b r
  | [], _ => Int.le_refl _
  | s :: r, hr => by
    unfold shOk at hr
    simp only [List.all_cons, Bool.and_eq_true, decide_eq_true_eq] at hr
    have h1 := (h s hr.1).2
    have h2 := ShLe.sum h (r := r) hr.2
    unfold shSum at *
    simp only [List.map_cons, List.sum_cons]
    omega
theorem shSum_pos {l : List Int} : ∀ {r : List Int}, shOk l r = true → 0 ≤ shSum l r
  | [], _ => Int.le_refl _
  | s :: r, hr => by
    unfold shOk at hr
    simp only [List.all_cons, Bool.and_eq_true, decide_eq_true_eq] at hr
    have h2 := shSum_pos (l := l) (r := r) hr.2
    unfold shSum at *
    simp only [List.map_cons, List.sum_cons]
    omega
theorem shRow_pos {l r : List Int} : 0 ≤ shRow l r ↔ shOk l r = true := by
  unfold shRow
  split
  · rename_i h
    have := shSum_pos h
    unfold mostZ
    constructor
    · intro _; exact h
    · intro _; omega
  · rename_i h
    constructor
    · intro h'; omega
    · intro h'; exact absurd h' h
theorem shRow_le {l r : List Int} : -1 ≤ shRow l r ∧ shRow l r ≤ mostZ := by
  unfold shRow mostZ
  split
  · rename_i h
    have := shSum_pos h
    omega
  · omega
theorem ShLe.row {a b : List Int} (h : ShLe a b) {r : List Int} (hr : shOk b r = true) : shRow a r ≤ shRow b r := by
  have := h.sum hr
  unfold shRow
  rw [hr, h.ok hr]
  simp only [if_true]
  unfold mostZ
  omega
theorem getD_set {l : List Int} {i j : Nat} {z d : Int} (hi : i < l.length) : (l.set i z).getD j d = if i = j then z else l.getD j d := by
  rw [List.getD_eq_getElem?_getD, List.getD_eq_getElem?_getD, List.getElem?_set]
  by_cases e : i = j
  · subst e; simp [hi]
  · simp [e]
theorem ShLe.step {l : List Int} {i : Nat} {z : Int} (hi : i < l.length) (h0 : 0 ≤ z) (h1 : l.getD i (-1) < 0 ∨ z < l.getD i (-1)) : ShLe (l.set i z) l := fun s hs => by
  unfold shV at *
  by_cases h : s < 0
  · simp only [h, if_true] at *; omega
  · simp only [h, if_false] at *
    rw [getD_set hi]
    by_cases e : i = s.toNat
    · subst e; simp only [if_true]; omega
    · simp only [e, if_false]; omega
theorem ShIn.step {g : Gr} {l : List Int} (h : ShIn g l) (hok : GrOk g) {r : Int × List Int × Int} (hr : r ∈ g.rules) : ShIn g (shStep l r) := by
  unfold shStep
  split
  · rename_i hc
    unfold shCond at hc
    simp only [Bool.and_eq_true, Bool.or_eq_true, decide_eq_true_eq] at hc
    obtain ⟨hl0, hl1⟩ := hok.left r hr
    have hi : r.1.toNat < l.length := by rw [h.len]; omega
    have hle := ShLe.step hi hc.1 hc.2
    have hrw := @shRow_le l r.2.1
    refine ⟨by rw [List.length_set]; exact h.len, fun z hz => ?_, fun a z ha hz => ?_⟩
    · rcases List.mem_or_eq_of_mem_set hz with h1 | h1
      · exact h.lo z h1
      · subst h1; exact hrw
    · rw [List.getElem?_set] at ha
      by_cases e : r.1.toNat = a
      · subst e
        rw [if_pos rfl, if_pos hi] at ha
        injection ha with ha
        refine ⟨r, hr, rfl, hle.ok (shRow_pos.1 hc.1), ?_⟩
        have := hle.row (shRow_pos.1 hc.1)
        omega
      · rw [if_neg e] at ha
        obtain ⟨r', h1, h2, h3, h4⟩ := h.met a z ha hz
        exact ⟨r', h1, h2, hle.ok h3, Int.le_trans (hle.row h3) h4⟩
  · exact h
theorem ShIn.fold {g : Gr} (hok : GrOk g) : ∀ {rs : List (Int × List Int × Int)} {l : List Int}, (∀ r ∈ rs, r ∈ g.rules) → ShIn g l → ShIn g (shRnd rs l)
  | [], l, hs, h => h
  | r :: rs, l, hs, h => ShIn.fold (rs := rs) (l := shStep l r) hok (fun x hx => hs x (List.mem_cons_of_mem _ hx)) (h.step hok (hs r List.mem_cons_self))
theorem ShIn.it {g : Gr} (hok : GrOk g) : ∀ n, ShIn g (shIt g n)
  | 0 => by
    refine ⟨List.length_replicate, fun z hz => ?_, fun a z ha hz => ?_⟩
    · rw [(List.mem_replicate.1 hz).2]; unfold mostZ; omega
    · have : z = -1 := by
        have := List.mem_of_getElem? ha
        exact (List.mem_replicate.1 this).2
      omega
  | n + 1 => ShIn.fold hok (fun r h => h) (ShIn.it hok n)
theorem ShVec.inn {g : Gr} {l : List Int} (h : ShVec g l) (hok : GrOk g) : ShIn g l := by
  obtain ⟨⟨n, rfl⟩, _⟩ := h
  exact ShIn.it hok n
def shW (z : Int) : Nat := if z < 0 then 1000000001 else z.toNat
def shMu (l : List Int) : Nat := (l.map shW).sum
theorem shMu_set : ∀ {l : List Int} {i : Nat} {z : Int}, i < l.length → shW z < shW (l.getD i (-1)) → shMu (l.set i z) < shMu l
  | [], i, z, hi, h => by simp at hi
  | x :: l, 0, z, hi, h => by
    rw [List.set_cons_zero]
    unfold shMu
    simp only [List.map_cons, List.sum_cons, List.getD_cons_zero] at *
    omega
  | x :: l, i + 1, z, hi, h => by
    rw [List.set_cons_succ]
    have := shMu_set (l := l) (i := i) (z := z) (by simpa using hi) (by simpa using h)
    unfold shMu at *
    simp only [List.map_cons, List.sum_cons] at *
    omega
theorem shMu_step {g : Gr} {l : List Int} (h : l.length = g.names.toNat) (hok : GrOk g) {r : Int × List Int × Int} (hr : r ∈ g.rules) (hc : shCond l r = true) : shMu (l.set r.1.toNat (shRow l r.2.1)) < shMu l := by
  unfold shCond at hc
  simp only [Bool.and_eq_true, Bool.or_eq_true, decide_eq_true_eq] at hc
  obtain ⟨hl0, hl1⟩ := hok.left r hr
  have hi : r.1.toNat < l.length := by rw [h]; omega
  have hrw := @shRow_le l r.2.1
  refine shMu_set hi ?_
  unfold mostZ at hrw
  unfold shW
  obtain ⟨h0, h1⟩ := hc
  rw [if_neg (by omega)]
  split <;> omega
end Go.Proofs.Ytlmmmchkhaidjaa.Ev
