/-
  What single operations do, told for simp. Conditions: none.
-/
import Derived.Test.YtaagkdljkpbilaaSz
set_option linter.unusedSimpArgs false
set_option linter.unusedVariables false
namespace Go.Proofs.Ytaagkdljkpbilaa.Ev
open Go
variable {c : CallM} {f : Fr} {M : MH}
def o1 (r : Option MV) (M : MH) : Option (MV × MH) := match r with
  | some m => some (m, M)
  | none => none
theorem o1_some (m : MV) (M : MH) : o1 (some m) M = some (m, M) := rfl
def binV (op : BinOp) (x y : MV) : Option MV := match x, y with
  | .i k a, .i k' b => Ev.binI op k a k' b
  | _, _ => none
def lenV (x : MV) : Option MV := match x with
  | .nils => some (.i .i64 0)
  | .sl _ _ n _ => some (.i .i64 n)
  | _ => none
def ixV (s : Nat) (x i : MV) : Option MV := match x, i with
  | .sl id off ln _, .i _ (.ofNat j) => bif Nat.blt j ln then some (.p id (off + j * s)) else none
  | _, _ => none
def ixAV (n s : Nat) (x i : MV) : Option MV := match x, i with
  | .p id off, .i _ (.ofNat j) => bif Nat.blt j n then some (.p id (off + j * s)) else none
  | _, _ => none
noncomputable def ld1V (M : MH) (x : MV) : Option MV := match x with
  | .p id off => match M.get id with
    | some (.cs _ _ c) => cget c off
    | _ => none
  | _ => none
noncomputable def ldNV (M : MH) (n : Nat) (x : MV) : Option MV := match x with
  | .p id off => match M.get id with
    | some (.cs _ _ c) => match getN c n off with
      | some l => some (.ag l)
      | none => none
    | _ => none
  | _ => none
def faV (o : Nat) (x : MV) : Option MV := match x with
  | .p id off => some (.p id (off + o))
  | _ => none
def nckV (x : MV) : Option MV := match x with
  | .p id off => some (.p id off)
  | _ => none
def fld1V (o : Nat) (x : MV) : Option MV := match x with
  | .ag l => l[o]?
  | _ => none
def fldNV (o n : Nat) (x : MV) : Option MV := match x with
  | .ag l => some (.ag ((l.drop o).take n))
  | _ => none
def extV (i : Nat) (x : MV) : Option MV := match x with
  | .tp l => l[i]?
  | _ => none
def binBV (op : BinOp) (x y : MV) : Option MV := match x, y with
  | .b a, .b b => eqM op (a == b)
  | _, _ => none
def binNV (n : NilKind) (op : BinOp) (x y : MV) : Option MV := match nilR n x y with
  | some r => eqM op r
  | none => none
def pickV (c a b : MV) : Option MV := match c with
  | .b true => some a
  | .b false => some b
  | _ => none
def mnV (x y : MV) : Option MV := match x, y with
  | .i k a, .i _ b => some (.i k (bif decide (b < a) then b else a))
  | _, _ => none
def mxV (x y : MV) : Option MV := match x, y with
  | .i k a, .i _ b => some (.i k (bif decide (a < b) then b else a))
  | _, _ => none
def cvIV (k : IntKind) (x : MV) : Option MV := match x with
  | .i _ n => some (.i k (wrapF k n))
  | _ => none
noncomputable def stV (M : MH) (n : Nat) (x y : MV) : Option (MV × MH) := match x with
  | .p id off => match M.get id with
    | some (.cs false sz c) => bif y.cells.length == n && !isU y && allOne y.cells && Nat.ble M.lo id && hasB c n off then some (.u, M.set id (some (.cs false sz (setN y.cells off c)))) else none
    | _ => none
  | _ => none
noncomputable def pushV (M : MH) (m : MV) (o : MO) : Option (MV × MH) := bif Nat.ble M.lo M.n then some (m, M.push o) else none
theorem ev_mov (x : X) : Iop.ev c f M (.mov x) = some (x.ev f, M) := rfl
theorem ev_pick (a b d : X) : Iop.ev c f M (.pick a b d) = o1 (pickV (a.ev f) (b.ev f) (d.ev f)) M := by
  simp only [Iop.ev, pickV]
  cases a.ev f <;> try rfl
  rename_i t; cases t <;> rfl
theorem ev_new (l : List MV) : Iop.ev c f M (.new l) = pushV M (.p M.n 0) (.cs false l.length (ofL l 0)) := rfl
theorem ev_box (x : X) : Iop.ev c f M (.box x) = if isU (x.ev f) = true then none else pushV M (.p M.n 0) (.cs false (x.ev f).cells.length (ofL (x.ev f).cells 0)) := by
  simp only [Iop.ev, pushV]
  cases isU (x.ev f) <;> simp
theorem ev_build (zs : List MV) (ps : List (Nat × Nat × X)) : Iop.ev c f M (.build zs ps) = o1 ((fillM (ps.map fun x => (x.1, x.2.1, x.2.2.ev f)) zs).map .ag) M := by
  simp only [Iop.ev]
  cases fillM (ps.map fun x => (x.1, x.2.1, x.2.2.ev f)) zs <;> rfl
theorem ev_bsl (sz n : Nat) (zs : List MV) (ps : List (Nat × Nat × X)) : Iop.ev c f M (.bsl sz n zs ps) = bif Nat.ble M.lo M.n then (match fillM (ps.map fun x => (x.1, x.2.1, x.2.2.ev f)) (zrow zs n) with
    | some l => some (.sl M.n 0 n 0, M.push (.cs false sz (ofL l 0)))
    | none => none) else none := rfl
theorem ev_ld1 (x : X) : Iop.ev c f M (.ld1 x) = o1 (ld1V M (x.ev f)) M := by
  simp only [Iop.ev, ld1V]
  cases x.ev f <;> try rfl
  rename_i id off
  simp only
  cases M.get id with
  | none => rfl
  | some o =>
    cases o with
    | mp _ _ => rfl
    | cs r s c => simp only; cases cget c off <;> rfl
theorem ev_ldN (n : Nat) (x : X) : Iop.ev c f M (.ldN n x) = o1 (ldNV M n (x.ev f)) M := by
  simp only [Iop.ev, ldNV]
  cases x.ev f <;> try rfl
  rename_i id off
  simp only
  cases M.get id with
  | none => rfl
  | some o =>
    cases o with
    | mp _ _ => rfl
    | cs r s c => simp only; cases getN c n off <;> rfl
theorem ev_st (n : Nat) (x y : X) : Iop.ev c f M (.st n x y) = stV M n (x.ev f) (y.ev f) := rfl
theorem ev_nck (x : X) : Iop.ev c f M (.nck x) = o1 (nckV (x.ev f)) M := by
  simp only [Iop.ev, nckV]; cases x.ev f <;> rfl
theorem ev_binI (op : BinOp) (x y : X) : Iop.ev c f M (.binI op x y) = o1 (binV op (x.ev f) (y.ev f)) M := by
  simp only [Iop.ev, binV]
  cases x.ev f <;> try rfl
  cases y.ev f <;> try rfl
theorem ev_binB (op : BinOp) (x y : X) : Iop.ev c f M (.binB op x y) = o1 (binBV op (x.ev f) (y.ev f)) M := by
  simp only [Iop.ev, binBV]
  cases x.ev f <;> try rfl
  cases y.ev f <;> try rfl
theorem ev_binN (n : NilKind) (op : BinOp) (x y : X) : Iop.ev c f M (.binN n op x y) = o1 (binNV n op (x.ev f) (y.ev f)) M := by
  simp only [Iop.ev, binNV]
  cases nilR n (x.ev f) (y.ev f) with
  | none => rfl
  | some r => simp only; cases eqM op r <;> rfl
theorem ev_un (op : UnOp) (x : X) : Iop.ev c f M (.un op x) = o1 (unM op (x.ev f)) M := by
  simp only [Iop.ev]; cases unM op (x.ev f) <;> rfl
theorem ev_cvI (k : IntKind) (x : X) : Iop.ev c f M (.cvI k x) = o1 (cvIV k (x.ev f)) M := by
  simp only [Iop.ev, cvIV]; cases x.ev f <;> rfl
theorem ev_fld1 (o : Nat) (x : X) : Iop.ev c f M (.fld1 o x) = o1 (fld1V o (x.ev f)) M := by
  simp only [Iop.ev, fld1V]
  cases x.ev f <;> try rfl
theorem ev_fldN (o n : Nat) (x : X) : Iop.ev c f M (.fldN o n x) = o1 (fldNV o n (x.ev f)) M := by
  simp only [Iop.ev, fldNV]; cases x.ev f <;> rfl
theorem ev_fa (o : Nat) (x : X) : Iop.ev c f M (.fa o x) = o1 (faV o (x.ev f)) M := by
  simp only [Iop.ev, faV]; cases x.ev f <;> rfl
theorem ev_ixA (n s : Nat) (x i : X) : Iop.ev c f M (.ixA n s x i) = o1 (ixAV n s (x.ev f) (i.ev f)) M := by
  simp only [Iop.ev, ixAV]
  cases x.ev f <;> try rfl
  cases i.ev f <;> try rfl
  rename_i id off k z
  cases z with
  | negSucc j => rfl
  | ofNat j => simp only; cases Nat.blt j n <;> rfl
theorem ev_ixS (s : Nat) (x i : X) : Iop.ev c f M (.ixS s x i) = o1 (ixV s (x.ev f) (i.ev f)) M := by
  simp only [Iop.ev, ixV]
  cases x.ev f <;> try rfl
  cases i.ev f <;> try rfl
  rename_i id off ln e k z
  cases z with
  | negSucc j => rfl
  | ofNat j => simp only; cases Nat.blt j ln <;> rfl
theorem ev_ext (x : X) (i : Nat) : Iop.ev c f M (.ext x i) = o1 (extV i (x.ev f)) M := by
  simp only [Iop.ev, extV]
  cases x.ev f <;> try rfl
theorem ev_mkm : Iop.ev c f M .mkm = pushV M (.m M.n) (.mp [] 0) := rfl
theorem ev_cut (sz : Nat) (x : X) (lo hi : Option X) : Iop.ev c f M (.cut sz x lo hi) = o1 (cutM sz (x.ev f) (lo.map (X.ev f)) (hi.map (X.ev f))) M := by
  simp only [Iop.ev]; cases cutM sz (x.ev f) (lo.map (X.ev f)) (hi.map (X.ev f)) <;> rfl
theorem ev_app (sz bytes : Nat) (x y : X) : Iop.ev c f M (.app sz bytes x y) = appM M sz bytes (x.ev f) (y.ev f) := rfl
theorem ev_len (x : X) : Iop.ev c f M (.len x) = o1 (lenV (x.ev f)) M := by
  simp only [Iop.ev, lenV]; cases x.ev f <;> rfl
theorem ev_mn (x y : X) : Iop.ev c f M (.mn x y) = o1 (mnV (x.ev f) (y.ev f)) M := by
  simp only [Iop.ev, mnV]
  cases x.ev f <;> try rfl
  cases y.ev f <;> rfl
theorem ev_mx (x y : X) : Iop.ev c f M (.mx x y) = o1 (mxV (x.ev f) (y.ev f)) M := by
  simp only [Iop.ev, mxV]
  cases x.ev f <;> try rfl
  cases y.ev f <;> rfl
theorem ev_call (g : Nat) (l : List X) : Iop.ev c f M (.call g l) = c g (l.map (X.ev f)) M := rfl
theorem ev_mkf (g : Fn) (a d : List X) : Iop.ev c f M (.mkf g a d) = some (.fn g (a.map (X.ev f)) (d.map (X.ev f)), M) := rfl
theorem ev_pu2 (g : PG) (x y : X) : Iop.ev c f M (.pu2 g x y) = o1 (puM g (x.ev f) (y.ev f)) M := by
  simp only [Iop.ev]; cases puM g (x.ev f) (y.ev f) <;> rfl
theorem ev_rdm (g : RG) (x y : X) : Iop.ev c f M (.rdm g x y) = o1 (rdF g M (x.ev f) (y.ev f)) M := by
  simp only [Iop.ev]; cases rdF g M (x.ev f) (y.ev f) <;> rfl
/-! Numbers. -/
theorem bin_add (k : IntKind) (a b : Int) : binV .add (.i k a) (.i k b) = some (.i k (wrapF k (a + b))) := by cases k <;> rfl
theorem bin_sub (k : IntKind) (a b : Int) : binV .sub (.i k a) (.i k b) = some (.i k (wrapF k (a - b))) := by cases k <;> rfl
theorem bin_mul (k : IntKind) (a b : Int) : binV .mul (.i k a) (.i k b) = some (.i k (wrapF k (a * b))) := by cases k <;> rfl
theorem bin_eql (k : IntKind) (a b : Int) : binV .eql (.i k a) (.i k b) = some (.b (decide (a = b))) := by cases k <;> rfl
theorem bin_neq (k : IntKind) (a b : Int) : binV .neq (.i k a) (.i k b) = some (.b (decide (a ≠ b))) := by
  have : (a != b) = decide (a ≠ b) := by rw [Bool.eq_iff_iff]; simp
  cases k <;> exact congrArg (fun t => some (MV.b t)) this
theorem bin_lss (k : IntKind) (a b : Int) : binV .lss (.i k a) (.i k b) = some (.b (decide (a < b))) := by cases k <;> rfl
theorem bin_leq (k : IntKind) (a b : Int) : binV .leq (.i k a) (.i k b) = some (.b (decide (a ≤ b))) := by cases k <;> rfl
theorem bin_gtr (k : IntKind) (a b : Int) : binV .gtr (.i k a) (.i k b) = some (.b (decide (b < a))) := by cases k <;> rfl
theorem bin_geq (k : IntKind) (a b : Int) : binV .geq (.i k a) (.i k b) = some (.b (decide (b ≤ a))) := by cases k <;> rfl
theorem binB_eql (a b : Bool) : binBV .eql (.b a) (.b b) = some (.b (a == b)) := rfl
theorem binB_neq (a b : Bool) : binBV .neq (.b a) (.b b) = some (.b (!(a == b))) := rfl
theorem un_not (a : Bool) : unM .not (.b a) = some (.b (!a)) := rfl
theorem not_dec (p : Prop) [Decidable p] : (!decide p) = decide (¬ p) := by
  rw [Bool.eq_iff_iff]; simp
theorem pick_t (a b : MV) : pickV (.b true) a b = some a := rfl
theorem pick_f (a b : MV) : pickV (.b false) a b = some b := rfl
theorem wrap_any (k : IntKind) (z : Int) : wrapF k z = k.wrap z := wrapF_eq k z
/-! Slices, nil or not. -/
def isSl : MV → Bool
  | .nils => true
  | .sl _ _ _ _ => true
  | _ => false
def sid : MV → Nat
  | .sl id _ _ _ => id
  | _ => 0
def soff : MV → Nat
  | .sl _ o _ _ => o
  | _ => 0
def slen : MV → Nat
  | .sl _ _ n _ => n
  | _ => 0
theorem len_sl {v : MV} (h : isSl v = true) : lenV v = some (.i .i64 (slen v : Int)) := by cases v <;> first | rfl | cases h
theorem ix_sl {s : Nat} {v : MV} {k : IntKind} {i : Nat} (h : isSl v = true) (hi : i < slen v) : ixV s v (.i k (i : Int)) = some (.p (sid v) (soff v + i * s)) := by
  cases v <;> first | (simp [slen] at hi; done) | skip
  rename_i id off n e
  show (bif Nat.blt i n then some (MV.p id (off + i * s)) else none) = _
  rw [blt_t (show i < n from hi)]; rfl
theorem ixA_p {n s id off : Nat} {k : IntKind} {i : Nat} (hi : i < n) : ixAV n s (.p id off) (.i k (i : Int)) = some (.p id (off + i * s)) := by
  show (bif Nat.blt i n then some (MV.p id (off + i * s)) else none) = _
  rw [blt_t hi]; rfl
theorem ld1_p {id off : Nat} {ro : Bool} {s : Nat} {t : T MV} (h : M.get id = some (.cs ro s t)) : ld1V M (.p id off) = cget t off := by
  simp only [ld1V, h]
theorem ldN_p {id off n : Nat} {ro : Bool} {s : Nat} {t : T MV} (h : M.get id = some (.cs ro s t)) : ldNV M n (.p id off) = (getN t n off).map .ag := by
  simp only [ldNV, h]; cases getN t n off <;> rfl
theorem fa_p (o id off : Nat) : faV o (.p id off) = some (.p id (off + o)) := rfl
theorem nck_p (id off : Nat) : nckV (.p id off) = some (.p id off) := rfl
theorem push_ok {m : MV} {o : MO} (h : M.lo ≤ M.n) : pushV M m o = some (m, M.push o) := by unfold pushV; rw [ble_t' h]; rfl
theorem hasB_of : ∀ {t : T MV} {n off : Nat}, (∀ j, j < n → (cget t (off + j)).isSome = true) → hasB t n off = true
  | t, 0, off, h => rfl
  | t, n + 1, off, h => by
    show (match cget t off with
      | some _ => hasB t n (off + 1)
      | none => false) = true
    have h0 := h 0 (by omega)
    rw [Nat.add_zero] at h0
    cases hc : cget t off with
    | none => rw [hc] at h0; cases h0
    | some v => exact hasB_of fun j hj => by rw [show off + 1 + j = off + (j + 1) from by omega]; exact h (j + 1) (by omega)
theorem At.has {t : T MV} {off : Nat} {l : List MV} (h : At t off l) : hasB t l.length off = true := hasB_of fun j hj => by rw [h j l[j] (List.getElem?_eq_getElem hj)]; rfl
theorem st_p {id off n sz : Nat} {t : T MV} {y : MV} (h : M.get id = some (.cs false sz t)) (hlo : M.lo ≤ id) (hn : y.cells.length = n) (hu : isU y = false) (ho : allOne y.cells = true) (hb : hasB t n off = true) : stV M n (.p id off) y = some (.u, M.set id (some (.cs false sz (setN y.cells off t)))) := by
  simp only [stV, h, hn, beq_self_eq_true, hu, ho, ble_t' hlo, hb, Bool.not_false, Bool.and_true, cond_true]
/-- A store, by what is there. -/
noncomputable def stW (M : MH) (n id off : Nat) (y : MV) (o : Option MO) : Option (MV × MH) := match o with
  | some (.cs false sz c) => bif y.cells.length == n && !isU y && allOne y.cells && Nat.ble M.lo id && hasB c n off then some (.u, M.set id (some (.cs false sz (setN y.cells off c)))) else none
  | _ => none
theorem st_w (n id off : Nat) (y : MV) : stV M n (.p id off) y = stW M n id off y (M.get id) := rfl
theorem stW_cs {n id off sz : Nat} {t : T MV} {y : MV} (hlo : M.lo ≤ id) (hn : y.cells.length = n) (hu : isU y = false) (ho : allOne y.cells = true) (hb : hasB t n off = true) : stW M n id off y (some (.cs false sz t)) = some (.u, M.set id (some (.cs false sz (setN y.cells off t)))) := by
  simp only [stW, hn, beq_self_eq_true, hu, ho, ble_t' hlo, hb, Bool.not_false, Bool.and_true, cond_true]
/-- A load, by what is there. -/
noncomputable def ldW (off : Nat) (o : Option MO) : Option MV := match o with
  | some (.cs _ _ c) => cget c off
  | _ => none
noncomputable def ldNW (n off : Nat) (o : Option MO) : Option MV := match o with
  | some (.cs _ _ c) => (getN c n off).map .ag
  | _ => none
theorem ld1_w (id off : Nat) : ld1V M (.p id off) = ldW off (M.get id) := by
  simp only [ld1V, ldW]
theorem ldN_w (n id off : Nat) : ldNV M n (.p id off) = ldNW n off (M.get id) := by
  simp only [ldNV, ldNW]
  cases M.get id with
  | none => rfl
  | some o =>
    cases o with
    | mp _ _ => rfl
    | cs r s c => simp only; cases getN c n off <;> rfl
theorem ldW_cs (off : Nat) (r : Bool) (s : Nat) (t : T MV) : ldW off (some (.cs r s t)) = cget t off := rfl
theorem ldNW_cs (n off : Nat) (r : Bool) (s : Nat) (t : T MV) : ldNW n off (some (.cs r s t)) = (getN t n off).map .ag := rfl
theorem map_ag (l : List MV) : (some l).map MV.ag = some (.ag l) := rfl
theorem cells_ag (l : List MV) : (MV.ag l).cells = l := rfl
theorem at_setN (l : List MV) (off : Nat) (t : T MV) : At (setN l off t) off l := fun j x hj => by
  rw [cget_setN, if_pos ⟨by omega, by have := (List.getElem?_eq_some_iff.1 hj).1; omega⟩, show off + j - off = j from by omega, hj]
theorem getN_setN (l : List MV) (off : Nat) (t : T MV) : getN (setN l off t) l.length off = some l := (at_setN l off t).getN
theorem getN_setN' {l : List MV} {n off : Nat} {t : T MV} (h : l.length = n) : getN (setN l off t) n off = some l := by subst h; exact getN_setN l off t
theorem cget_at_setN {l : List MV} {off o : Nat} {t : T MV} {x : MV} (j : Nat) (h : o = off + j) (hx : l[j]? = some x) : cget (setN l off t) o = some x := by subst h; exact at_setN l off t j x hx
theorem at_setN_other {l l' : List MV} {off o : Nat} {t : T MV} (h : At t o l') (hd : o + l'.length ≤ off ∨ off + l.length ≤ o) : At (setN l off t) o l' := fun j x hj => by
  have := (List.getElem?_eq_some_iff.1 hj).1
  rw [cget_setN, if_neg (by omega)]
  exact h j x hj
/-! What stores ask. -/
theorem cells_i (k : IntKind) (z : Int) : (MV.i k z).cells = [.i k z] := rfl
theorem cells_b (t : Bool) : (MV.b t).cells = [.b t] := rfl
theorem cells_s (t : ByteArray) : (MV.s t).cells = [.s t] := rfl
theorem cells_p (a b : Nat) : (MV.p a b).cells = [.p a b] := rfl
theorem cells_nilp : (MV.nilp).cells = [.nilp] := rfl
theorem cells_nils : (MV.nils).cells = [.nils] := rfl
theorem cells_m (a : Nat) : (MV.m a).cells = [.m a] := rfl
theorem cells_sl (a b n d : Nat) : (MV.sl a b n d).cells = [.sl a b n d] := rfl
theorem cells_fn (g : Fn) (a b : List MV) : (MV.fn g a b).cells = [.fn g a b] := rfl
theorem one_i (k : IntKind) (z : Int) : (MV.i k z).one = true := rfl
theorem one_b (t : Bool) : (MV.b t).one = true := rfl
theorem one_s (t : ByteArray) : (MV.s t).one = true := rfl
theorem one_p (a b : Nat) : (MV.p a b).one = true := rfl
theorem one_nilp : (MV.nilp).one = true := rfl
theorem one_nils : (MV.nils).one = true := rfl
theorem one_m (a : Nat) : (MV.m a).one = true := rfl
theorem one_sl (a b n d : Nat) : (MV.sl a b n d).one = true := rfl
theorem one_fn (g : Fn) (a b : List MV) : (MV.fn g a b).one = true := rfl
theorem isU_i (k : IntKind) (z : Int) : isU (.i k z) = false := rfl
theorem isU_b (t : Bool) : isU (.b t) = false := rfl
theorem isU_s (t : ByteArray) : isU (.s t) = false := rfl
theorem isU_p (a b : Nat) : isU (.p a b) = false := rfl
theorem isU_nilp : isU .nilp = false := rfl
theorem isU_nils : isU .nils = false := rfl
theorem isU_m (a : Nat) : isU (.m a) = false := rfl
theorem isU_sl (a b n d : Nat) : isU (.sl a b n d) = false := rfl
theorem isU_ag (l : List MV) : isU (.ag l) = false := rfl
theorem isU_fn (g : Fn) (a b : List MV) : isU (.fn g a b) = false := rfl
theorem isSl_cells {v : MV} (h : isSl v = true) : v.cells = [v] := by cases v <;> first | rfl | cases h
theorem isSl_one {v : MV} (h : isSl v = true) : v.one = true := by cases v <;> first | rfl | cases h
theorem isSl_isU {v : MV} (h : isSl v = true) : isU v = false := by cases v <;> first | rfl | cases h
theorem all_nil : allOne [] = true := rfl
theorem all_cons (x : MV) (l : List MV) : allOne (x :: l) = (x.one && allOne l) := rfl
theorem has_ofL (l : List MV) (n off : Nat) (h : off + n ≤ l.length) : hasB (ofL l 0) n off = true := hasB_of fun j hj => by
  rw [cget_ofL, if_pos (Nat.zero_le _), List.getElem?_eq_getElem (by omega)]; rfl
theorem hasB_iff {t : T MV} : ∀ {n off : Nat}, hasB t n off = true → ∀ j, j < n → (cget t (off + j)).isSome = true
  | 0, off, h, j, hj => by omega
  | n + 1, off, h, j, hj => by
    have h' : (match cget t off with
      | some _ => hasB t n (off + 1)
      | none => false) = true := h
    cases hc : cget t off with
    | none => rw [hc] at h'; cases h'
    | some v =>
      rw [hc] at h'
      cases j with
      | zero => rw [Nat.add_zero, hc]; rfl
      | succ j => rw [show off + (j + 1) = off + 1 + j from by omega]; exact hasB_iff h' j (by omega)
theorem has_setN {t : T MV} (l : List MV) (o n off : Nat) (h : hasB t n off = true) : hasB (setN l o t) n off = true := hasB_of fun j hj => by
  rw [cget_setN]
  split
  · rw [List.getElem?_eq_getElem (by omega)]; rfl
  · exact hasB_iff h j hj
def stOk (n : Nat) (y : MV) : Bool := (y.cells.length == n) && (!isU y && allOne y.cells)
theorem stW_ok {n id off sz : Nat} {t : T MV} {y : MV} (hlo : M.lo ≤ id) (hy : stOk n y = true) (hb : hasB t n off = true) : stW M n id off y (some (.cs false sz t)) = some (.u, M.set id (some (.cs false sz (setN y.cells off t)))) := by
  unfold stOk at hy
  simp only [Bool.and_eq_true, Bool.not_eq_true'] at hy
  exact stW_cs hlo (by simpa using hy.1) hy.2.1 hy.2.2 hb
noncomputable def bslW (M : MH) (sz n : Nat) (o : Option (List MV)) : Option (MV × MH) := match o with
  | some l => pushV M (.sl M.n 0 n 0) (.cs false sz (ofL l 0))
  | none => none
theorem bslW_some (sz n : Nat) (l : List MV) : bslW M sz n (some l) = pushV M (.sl M.n 0 n 0) (.cs false sz (ofL l 0)) := rfl
theorem ev_bslW (sz n : Nat) (zs : List MV) (ps : List (Nat × Nat × X)) : Iop.ev c f M (.bsl sz n zs ps) = bslW M sz n (fillM (ps.map fun x => (x.1, x.2.1, x.2.2.ev f)) (zrow zs n)) := by
  simp only [ev_bsl, bslW, pushV]
  cases fillM (ps.map fun x => (x.1, x.2.1, x.2.2.ev f)) (zrow zs n) <;> cases Nat.ble M.lo M.n <;> rfl
theorem zrow_one (zs : List MV) : zrow zs 1 = zs := by
  rw [zrow_succ, zrow_zero, List.append_nil]
theorem fill_nil (l : List MV) : fillM [] l = some l := rfl
theorem fill_ag {n : Nat} {e zs : List MV} (h : e.length = n) (hz : zs.length = n) : fillM [(0, n, .ag e)] zs = some e := by
  rw [fillM_cons]
  simp only [cells_ag, h, beq_self_eq_true, Bool.true_and, Nat.zero_add, hz, ble_t' (Nat.le_refl n), isU, Bool.not_false, cond_true, fill_nil, splice, List.take_zero, List.nil_append]
  rw [List.drop_eq_nil_of_le (by omega), List.append_nil]
theorem fill_one {x z : MV} (h : x.cells = [x]) (hu : isU x = false) : fillM [(0, 1, x)] [z] = some [x] := by
  rw [fillM_cons, h, hu]
  rfl
theorem row_one {M : MH} {sz : Nat} {e : List MV} (he : e.length = sz) : RowAt (M.push (.cs false sz (ofL e 0))) sz (.sl M.n 0 1 0) [e] :=
  ⟨fun x hx => by rw [List.mem_singleton.1 hx]; exact he, .inr ⟨M.n, 0, 0, false, sz, ofL e 0, rfl, push_new _, Nat.lt_succ_self _, by simpa using at_ofL e⟩⟩
theorem puM_eqA (n : Nat) (neg : Bool) (a b : List MV) : puM (.eqA n neg) (.ag a) (.ag b) = bif a.length == n then (match eqAg a b with
    | some r => some (.b (bif neg then !r else r))
    | none => none) else none := rfl
theorem eqAg_nil : eqAg [] [] = some true := rfl
theorem eqAg_i (k : IntKind) (x y : Int) (a b : List MV) : eqAg (.i k x :: a) (.i k y :: b) = match eqAg a b with
    | some t => some (bif x == y then t else false)
    | none => none := by cases k <;> rfl
theorem resL_1 (r : IRes) : resL f M [r] = match r.ev f M with
    | some m => some [m]
    | none => none := by
  show (match r.ev f M, resL f M [] with
    | some m, some l => some (m :: l)
    | _, _ => none) = _
  cases r.ev f M <;> rfl
theorem RowAt.sl {sz : Nat} {v : MV} {es : List (List MV)} (h : RowAt M sz v es) : isSl v = true ∧ slen v = es.length := by
  obtain ⟨_, ⟨rfl, rfl⟩ | ⟨id, off, e, ro, s, c, rfl, _⟩⟩ := h <;> exact ⟨rfl, rfl⟩
theorem RowAt.read {sz : Nat} {v : MV} {es : List (List MV)} (h : RowAt M sz v es) {i : Nat} {e : List MV} (he : es[i]? = some e) : ∃ ro s c, M.get (sid v) = some (.cs ro s c) ∧ sid v < M.n ∧ At c (soff v + i * sz) e := by
  obtain ⟨hs, ⟨rfl, rfl⟩ | ⟨id, off, ed, ro, s, c, rfl, h2, h3, h4⟩⟩ := h
  · simp at he
  · exact ⟨ro, s, c, h2, h3, h4.elem hs he⟩
def consO : Option MV → Option (List MV) → Option (List MV)
  | some m, some l => some (m :: l)
  | _, _ => none
theorem resL_c (r s : IRes) (rs : List IRes) : resL f M (r :: s :: rs) = consO (r.ev f M) (resL f M (s :: rs)) := by
  show (match r.ev f M, resL f M (s :: rs) with
    | some m, some l => some (m :: l)
    | _, _ => none) = _
  cases r.ev f M <;> cases resL f M (s :: rs) <;> rfl
theorem consO_some (m : MV) (l : List MV) : consO (some m) (some l) = some (m :: l) := rfl
theorem pack1 (x : MV) : packM [x] = x := rfl
theorem pack2 (x y : MV) : packM [x, y] = .tp [x, y] := rfl
theorem pack3 (x y z : MV) : packM [x, y, z] = .tp [x, y, z] := rfl
theorem ext_tp (i : Nat) (l : List MV) : extV i (.tp l) = l[i]? := rfl
end Go.Proofs.Ytaagkdljkpbilaa.Ev
